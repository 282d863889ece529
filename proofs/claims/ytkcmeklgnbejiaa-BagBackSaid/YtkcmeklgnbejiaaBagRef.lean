
/-
  PACKAGE marchlandref04: Of (marchlandref03), Right, Least, Apply, Fix.
-/
import Derived.Test.YtkcmeklgnbejiaaBagMath
import Derived.Test.YtkcmeklgnbejiaaBatchRefRight
namespace Go.Proofs.Ytkcmeklgnbejiaa.Batch
open Go.RowKit Go.Lib
set_option linter.unusedVariables false

set_option maxRecDepth 1000000 in
set_option maxHeartbeats 4000000 in
theorem refof_any {w : World} {v : Value} {l : List Ch} (p t : Int) (hv : Rd w v l) (hr : l.Pairwise Lt) :
    Calls Try.prog 38 #[v, .int .i64 p, .int .u64 t] w fun e w' => e = .returned (.int .i64 (tot l p t)) ∧ Below w.heap.size w w' := by
  obtain ⟨ao, cap, rfl, hlc, hcm, _, hcell⟩ := hv
  have HC := Lib.hid hcell
  have HR := Lib.hid hr
  have hlen : l.length ≤ 9223372036854775807 := by omega
  clear hcell hlc hcm hr
  go_enter Try.func38, Try.ntmps38
  go_wp2
  go_loopg [7] l.length (fun k s wr => ∃ i : Nat, i + k = l.length ∧ s = .int .i64 i ∧ (∀ y ∈ l.take i, ¬ (y.p = p ∧ y.t = t)) ∧ wr = w)
  case atStart => exact ⟨0, by omega, rfl, by simp, rfl⟩
  case round =>
    obtain ⟨i, hik, rfl, hok, hwr⟩ := hrel
    subst wr
    have HIK := Lib.hid hik
    have HOK := Lib.hid hok
    clear hok hik
    by_cases hlt1 : i < l.length
    · obtain ⟨x, hx, hxm⟩ := at_of hlt1
      obtain ⟨b, off, hao, hcc⟩ := HC.out.resolve_left (by intro e; rw [e] at hlt1; simp at hlt1)
      subst hao
      obtain ⟨c0, c1, c2⟩ := hcc i x hx
      have HX := Lib.hid hx
      have HXM := Lib.hid hxm
      have hi0' : (0 : Int) ≤ (i : Int) := Int.natCast_nonneg _
      have hi1 : (i : Int) < (l.length : Int) := by omega
      have HLT := Lib.hid hlt1
      clear hx hxm hcc HC
      have HSTEP := Lib.hid (show ¬ (x.p = p ∧ x.t = t) → ∀ y ∈ l.take (i + 1), ¬ (y.p = p ∧ y.t = t) by
        intro hn y hy
        rw [take_succ' HX.out] at hy
        rcases List.mem_append.1 hy with hy | hy
        · exact HOK.out y hy
        · simp at hy; subst hy; exact hn)
      by_cases hp : x.p = p
      · have hpb : (x.p == p) = true := by rw [beq_iff_eq]; exact hp
        by_cases ht : x.t = t
        · have htb : (x.t == t) = true := by rw [beq_iff_eq]; exact ht
          have HT := Lib.hid (show tot l p t = x.d from tot_key HR.out HXM.out hp ht)
          obtain ⟨xp, xt, xd⟩ := x
          simp only at c0 c1 c2 hpb htb
          clear hp ht
          go_wp2_with fail
          try (go_quiet (fail))
          try (go_wp2_with fail)
          go_ret
          exact ⟨by rw [HT.out]; rfl, by first | exact Below.refl _ _ | exact below_drewN (Below.refl _ _) _⟩
        · have htb : (x.t == t) = false := by rw [beq_eq_false_iff_ne]; exact ht
          have HS := Lib.hid (HSTEP.out (fun h => ht h.2))
          obtain ⟨xp, xt, xd⟩ := x
          simp only at c0 c1 c2 hpb htb
          clear hp ht
          go_wp2_with fail
          go_roundg (gk - 1)
          case measure => have := HIK.out; have := HLT.out; omega
          case rel => exact ⟨i + 1, by have := HIK.out; have := HLT.out; omega, by go_num, HS.out, rfl⟩
      · have hpb : (x.p == p) = false := by rw [beq_eq_false_iff_ne]; exact hp
        have HS := Lib.hid (HSTEP.out (fun h => hp h.1))
        obtain ⟨xp, xt, xd⟩ := x
        simp only at c0 c1 c2 hpb
        clear hp
        go_wp2_with fail
        go_roundg (gk - 1)
        case measure => have := HIK.out; have := HLT.out; omega
        case rel => exact ⟨i + 1, by have := HIK.out; have := HLT.out; omega, by go_num, HS.out, rfl⟩
    · have HT := Lib.hid (show tot l p t = 0 from tot_none fun y hy => HOK.out y (by rw [take_all (by omega)]; exact hy))
      go_wp2_with fail
      go_ret
      exact ⟨by rw [HT.out]; rfl, Below.refl _ _⟩

set_option maxRecDepth 1000000 in
set_option maxHeartbeats 4000000 in
theorem refbagright_any {w : World} {v : Value} {l : List Ch} (hv : Rd w v l) (hr : RightP l) :
    Calls Try.prog 22 #[v] w fun e w' => e = .returned (.bool (posB l)) ∧ Below w.heap.size w w' := by
  have HRA := Lib.hid (refright_any hv)
  obtain ⟨ao, cap, rfl, hlc, hcm, _, hcell⟩ := hv
  have HC := Lib.hid hcell
  have HR := Lib.hid hr
  have hlen : l.length ≤ 9223372036854775807 := by omega
  clear hcell hlc hcm hr
  go_enter Try.func22, Try.ntmps22
  go_wp2
  go_loopg [3] l.length (fun k s wr => ∃ i : Nat, i + k = l.length ∧ s = .int .i64 i ∧ (∀ y ∈ l.take i, 0 < y.d) ∧ wr = w)
  case atStart => exact ⟨0, by omega, rfl, by simp, rfl⟩
  case round =>
    obtain ⟨i, hik, rfl, hok, hwr⟩ := hrel
    subst wr
    have HIK := Lib.hid hik
    have HOK := Lib.hid hok
    clear hok hik
    by_cases hlt1 : i < l.length
    · obtain ⟨x, hx, hxm⟩ := at_of hlt1
      obtain ⟨b, off, hao, hcc⟩ := HC.out.resolve_left (by intro e; rw [e] at hlt1; simp at hlt1)
      subst hao
      obtain ⟨c0, c1, c2⟩ := hcc i x hx
      have HX := Lib.hid hx
      have HXM := Lib.hid hxm
      have hi0' : (0 : Int) ≤ (i : Int) := Int.natCast_nonneg _
      have hi1 : (i : Int) < (l.length : Int) := by omega
      have HLT := Lib.hid hlt1
      clear hx hxm hcc HC
      by_cases hd : 0 < x.d
      · have hj : ¬ (x.d < 1) := by omega
        have HS := Lib.hid (show ∀ y ∈ l.take (i + 1), 0 < y.d by
          intro y hy
          rw [take_succ' HX.out] at hy
          rcases List.mem_append.1 hy with hy | hy
          · exact HOK.out y hy
          · simp at hy; subst hy; exact hd)
        obtain ⟨xp, xt, xd⟩ := x
        simp only at c0 c1 c2 hj
        clear hd
        go_wp2_with fail
        go_roundg (gk - 1)
        case measure => have := HIK.out; have := HLT.out; omega
        case rel => exact ⟨i + 1, by have := HIK.out; have := HLT.out; omega, by go_num, HS.out, rfl⟩
      · have hj : x.d < 1 := by omega
        have HF := Lib.hid (posB_false HXM.out hd)
        obtain ⟨xp, xt, xd⟩ := x
        simp only at c0 c1 c2 hj
        clear hd
        go_wp2_with fail
        go_ret
        exact ⟨by rw [HF.out]; rfl, Below.refl _ _⟩
    · have HF := Lib.hid (posB_true (l := l) (fun y hy => HOK.out y (by rw [take_all (by omega)]; exact hy)))
      have HRB := Lib.hid (rightB_true HR.out)
      go_wp2_with fail
      go_at_call 43
      refine HRA.out.mono ?_
      rw [HRB.out]
      rintro e w1 ⟨rfl, hb1⟩
      have HB1 := Lib.hid hb1
      clear hb1
      go_wp2_with fail
      go_ret
      exact ⟨by rw [HF.out]; rfl, HB1.out⟩

set_option maxRecDepth 1000000 in
set_option maxHeartbeats 4000000 in
theorem refleast_any {w : World} {v : Value} {l : List Ch} (p : Int) (hv : Rd w v l) :
    Calls Try.prog 19 #[v, .int .i64 p] w fun e w' => e = .returned (.int .u64 (leastL l p)) ∧ Below w.heap.size w w' := by
  have HWF := Lib.hid hv.wf
  obtain ⟨ao, cap, rfl, hlc, hcm, _, hcell⟩ := hv
  have HC := Lib.hid hcell
  have hlen : l.length ≤ 9223372036854775807 := by omega
  clear hcell hlc hcm
  go_enter Try.func19, Try.ntmps19
  go_wp2
  go_loopg [5, 6] l.length (fun k o s wr => ∃ (i : Nat), i + k = l.length ∧ s = .int .i64 i ∧ o = .int .u64 (leastL (l.take i) p) ∧ wr = w)
  case atStart => exact ⟨0, by omega, rfl, rfl, rfl⟩
  case round =>
    obtain ⟨i, hik, rfl, ho, hwr⟩ := hrel
    obtain ⟨n, hn⟩ : ∃ n, n = leastL (l.take i) p := ⟨_, rfl⟩
    rw [← hn] at ho
    have HN := Lib.hid hn
    subst wr ho
    have HIK := Lib.hid hik
    clear hik hn
    by_cases hlt1 : i < l.length
    · obtain ⟨x, hx, hxm⟩ := at_of hlt1
      obtain ⟨b, off, hao, hcc⟩ := HC.out.resolve_left (by intro e; rw [e] at hlt1; simp at hlt1)
      subst hao
      obtain ⟨c0, c1, c2⟩ := hcc i x hx
      have HX := Lib.hid hx
      have hi0' : (0 : Int) ≤ (i : Int) := Int.natCast_nonneg _
      have hi1 : (i : Int) < (l.length : Int) := by omega
      have HLT := Lib.hid hlt1
      have HST := Lib.hid (show leastL (l.take (i + 1)) p = if x.p = p ∧ x.t < n then x.t else n by rw [take_succ' hx, leastL_snoc _ _ _ (HWF.out x hxm).t1, ← HN.out])
      clear hx hxm hcc HC
      by_cases hp : x.p = p
      · have hpb : (x.p == p) = true := by rw [beq_iff_eq]; exact hp
        by_cases ht : x.t < n
        · have HS := Lib.hid (HST.out.trans (if_pos ⟨hp, ht⟩))
          obtain ⟨xp, xt, xd⟩ := x
          simp only at c0 c1 c2 hpb ht
          clear hp
          go_wp2_with fail
          go_roundg (gk - 1)
          case measure => have := HIK.out; have := HLT.out; omega
          case rel => exact ⟨i + 1, by have := HIK.out; have := HLT.out; omega, by go_num, by rw [HS.out], rfl⟩
        · have HS := Lib.hid (HST.out.trans (if_neg (fun h => ht h.2)))
          obtain ⟨xp, xt, xd⟩ := x
          simp only at c0 c1 c2 hpb ht
          clear hp
          go_wp2_with fail
          go_roundg (gk - 1)
          case measure => have := HIK.out; have := HLT.out; omega
          case rel => exact ⟨i + 1, by have := HIK.out; have := HLT.out; omega, by go_num, by rw [HS.out], rfl⟩
      · have hpb : (x.p == p) = false := by rw [beq_eq_false_iff_ne]; exact hp
        have HS := Lib.hid (HST.out.trans (if_neg (fun h => hp h.1)))
        obtain ⟨xp, xt, xd⟩ := x
        simp only at c0 c1 c2 hpb
        clear hp
        go_wp2_with fail
        go_roundg (gk - 1)
        case measure => have := HIK.out; have := HLT.out; omega
        case rel => exact ⟨i + 1, by have := HIK.out; have := HLT.out; omega, by go_num, by rw [HS.out], rfl⟩
    · have HT := Lib.hid (show leastL l p = n by rw [HN.out, take_all (by omega)])
      go_wp2_with fail
      go_ret
      exact ⟨by rw [HT.out]; rfl, Below.refl _ _⟩
end Go.Proofs.Ytkcmeklgnbejiaa.Batch
