
/-
  THE LAW BagLeasts, walked.
-/
import Derived.Test.YtkcmeklgnbejiaaBagTold
import Derived.Test.YtkcmeklgnbejiaaBagFix
import Derived.Deep.LoopGhost
namespace Go.Proofs.Ytkcmeklgnbejiaa.Batch
open Go.RowKit
set_option linter.unusedVariables false

def hasP (l : List Ch) (p : Int) : Bool := l.any fun x => decide (x.p = p)
theorem hasP_snoc {l : List Ch} {i : Nat} {x : Ch} {p : Int} (hx : l[i]? = some x) : hasP (l.take (i + 1)) p = (hasP (l.take i) p || decide (x.p = p)) := by
  unfold hasP
  rw [take_succ' hx, List.any_append]
  simp
theorem hasP_yes {l : List Ch} {p : Int} (hB : BagP l) (hw : ∀ x ∈ l, x.Wf) (h : hasP l p = true) : leastL l p ≠ 18446744073709551615 ∧ 0 < tot l p (leastL l p) := by
  obtain ⟨x, hx, hp⟩ := List.any_eq_true.1 h
  have hp := of_decide_eq_true hp
  have h1 := leastL_lo x hx hp
  have h2 := hB.right.fit x hx
  have h3 := leastL_le (l := l) (p := p)
  have hne : leastL l p ≠ 18446744073709551615 := by
    intro e
    rcases leastL_is (l := l) (p := p) with _ | ⟨y, hy, hyp, hyt⟩
    · rw [e] at h1
      have hw : x.t < 18446744073709551615 := by have := (hw x hx).t1; have := h2.2.2; omega
      omega
    · have := (hB.right.fit y hy).2.2
      omega
  refine ⟨hne, ?_⟩
  obtain ⟨y, hy, hyp, hyt⟩ := (leastL_is (l := l) (p := p)).resolve_left hne
  rw [tot_key hB.right.2 hy hyp hyt]
  exact hB.pos y hy
theorem hasP_no {l : List Ch} {p : Int} (h : hasP l p = false) : leastL l p = 18446744073709551615 :=
  leastL_none fun x hx hp => by
    have := List.any_eq_true (p := fun x : Ch => decide (x.p = p)).2 ⟨x, hx, decide_eq_true hp⟩
    unfold hasP at h
    rw [this] at h
    exact absurd h (by decide)

set_option maxRecDepth 1000000 in
set_option maxHeartbeats 8000000 in
theorem leasts_any {w : World} {v : Value} {l : List Ch} (port : Int) (h1 : Rd w v l) :
    Calls Try.prog 6 #[v, .int .i64 port] w fun e w' => e = .returned (.bool true) ∧ Below w.heap.size w w' := by
  have HFA := Lib.hid (fun W (h : Rd W v l) => bagfix_any h)
  have HNA := Lib.hid (bagFix_nice h1.wf)
  have HP := Lib.hid (bagFix_bag h1.wf)
  have HA0 := Lib.hid h1
  obtain ⟨ao1, cap1, rfl, _⟩ := h1
  generalize bagFixL l = A at HFA HNA HP
  have hlA : A.length ≤ 12 := HNA.out.len
  obtain ⟨P, hP⟩ : ∃ P, wrap64 ((IntKind.u64.wrap port).tmod 64) = P := ⟨_, rfl⟩
  have hP' : IntKind.i64.wrap ((IntKind.u64.wrap port).tmod 64) = P := by rw [← hP, wrap64_wr, wr_i64]
  obtain ⟨n, HNN⟩ : ∃ n : Int, Hid (n = leastL A P) := ⟨_, Lib.hid rfl⟩
  have HB := Lib.hid (Below.refl w.heap.size w)
  go_enter Try.func6, Try.ntmps6
  go_wp2_with fail
  go_at_call 10
  refine (HFA.out _ HA0.out).mono ?_
  rintro e w1 ⟨v, rfl, hown, hb⟩
  replace HA0 := Lib.hid (HA0.out.below hb)
  replace HB := Lib.hid (HB.out.trans (hb.mono HB.out.size))
  have HA := Lib.hid (hown.sl HNA.out.wf)
  obtain ⟨ao1, cap1, rfl, _⟩ := hown.form'
  clear hown hb
  clear HA0
  go_wp2_with fail
  go_at_call 12
  refine (to_any HA.out.rd (by omega)).mono ?_
  rintro e w2 ⟨v, rfl, hown, hb⟩
  replace HA := Lib.hid (HA.out.below hb)
  replace HB := Lib.hid (HB.out.trans (hb.mono HB.out.size))
  have HX := Lib.hid (hown.sl HNA.out.wf)
  obtain ⟨ao2, cap2, rfl, _⟩ := hown.form'
  clear hown hb
  go_wp2_with fail
  go_at_call 18
  refine (least_any P HX.out HNA.out.right.2 (by omega)).mono ?_
  rw [← HNN.out]
  rintro e w3 ⟨rfl, hb⟩
  replace HA := Lib.hid (HA.out.below hb)
  replace HX := Lib.hid (HX.out.below hb)
  replace HB := Lib.hid (HB.out.trans (hb.mono HB.out.size))
  clear  hb
  clear hP hP'
  go_wp2_with fail
  have HA' := HA.out
  obtain ⟨ao, capa, hv, hcell, _⟩ := HA'
  simp only [Value.slice.injEq, true_and] at hv
  obtain ⟨rfl, rfl⟩ := hv
  have HC := Lib.hid hcell
  clear hcell
  have hlen : A.length ≤ 9223372036854775807 := by omega
  go_loopg [8, 9] A.length (fun k o s wr => ∃ (i : Nat), i + k = A.length ∧ s = .int .i64 i ∧ o = .bool (hasP (A.take i) P) ∧ wr = w3)
  case atStart => exact ⟨0, by omega, rfl, rfl, rfl⟩
  case round =>
    obtain ⟨i, hik, rfl, ho, hwr⟩ := hrel
    obtain ⟨ob, hob⟩ : ∃ ob, ob = hasP (A.take i) P := ⟨_, rfl⟩
    rw [← hob] at ho
    have HOB := Lib.hid hob
    subst wr ho
    have HIK := Lib.hid hik
    clear hik hob
    by_cases hlt1 : i < A.length
    · obtain ⟨x, hx, hxm⟩ := at_of hlt1
      obtain ⟨b, off, hao, hcc⟩ := HC.out.resolve_left (fun h => by rw [h.2] at hlt1; simp at hlt1)
      subst hao
      obtain ⟨c0, c1, c2⟩ := hcc i x hx
      have hi0' : (0 : Int) ≤ (i : Int) := Int.natCast_nonneg _
      have hi1 : (i : Int) < (A.length : Int) := by omega
      have HLT := Lib.hid hlt1
      have HS := Lib.hid ((hasP_snoc (p := P) hx).trans (by rw [← HOB.out]))
      have HLO := Lib.hid (show x.p = P → n ≤ x.t by rw [HNN.out]; exact leastL_lo x hxm)
      clear hx hxm hcc HC
      by_cases hp : x.p = P
      · have hpb : (x.p != P) = false := by rw [hp]; simp
        have hlo : ¬ (x.t < n) := by have := HLO.out hp; omega
        have HS2 := Lib.hid (show true = hasP (A.take (i + 1)) P by rw [HS.out]; simp [hp])
        obtain ⟨xp, xt, xd⟩ := x
        simp only at c0 c1 c2 hpb hlo
        clear hp
        go_wp2_with fail
        go_roundg (gk - 1)
        case measure => have := HIK.out; have := HLT.out; omega
        case rel => exact ⟨i + 1, by have := HIK.out; have := HLT.out; omega, by go_num, by rw [← HS2.out], rfl⟩
      · have hpb : (x.p != P) = true := by rw [bne_iff_ne]; exact hp
        have HS2 := Lib.hid (show ob = hasP (A.take (i + 1)) P by rw [HS.out]; simp [hp])
        obtain ⟨xp, xt, xd⟩ := x
        simp only at c0 c1 c2 hpb
        clear hp
        go_wp2_with fail
        go_roundg (gk - 1)
        case measure => have := HIK.out; have := HLT.out; omega
        case rel => exact ⟨i + 1, by have := HIK.out; have := HLT.out; omega, by go_num, by rw [← HS2.out], rfl⟩
    · have hall : hasP A P = ob := by rw [HOB.out, take_all (by omega)]
      have HALL := Lib.hid hall
      clear hall HOB
      cases ob
      · have hnn : (n != 18446744073709551615) = false := by rw [HNN.out, hasP_no HALL.out]; rfl
        go_wp2_with fail
        go_at_call 15
        refine (bagtold_any _).mono ?_
        rintro e w4 ⟨rfl, hb⟩
        replace HB := Lib.hid (HB.out.trans (hb.mono HB.out.size))
        clear hb
        go_wp2_with fail
        go_ret
        exact ⟨rfl, HB.out⟩
      · have hy := hasP_yes HP.out HNA.out.wf HALL.out
        rw [← HNN.out] at hy
        have hnn : (n != 18446744073709551615) = true := by rw [bne_iff_ne]; exact hy.1
        have hpos := hy.2
        obtain ⟨tv, htv⟩ : ∃ tv, tv = tot A P n := ⟨_, rfl⟩
        rw [← htv] at hpos
        have HTV := Lib.hid htv
        clear hy htv
        go_wp2_with fail
        go_at_call 15
        refine (bagtold_any _).mono ?_
        rintro e w4 ⟨rfl, hb⟩
        replace HB := Lib.hid (HB.out.trans (hb.mono HB.out.size))
        replace HX := Lib.hid (HX.out.below hb)
        clear hb
        go_wp2_with fail
        go_at_call 26
        refine (of_any P n HX.out HNA.out.right.2 (by omega)).mono ?_
        rw [← HTV.out]
        rintro e w5 ⟨rfl, hb⟩
        replace HB := Lib.hid (HB.out.trans (hb.mono HB.out.size))
        clear hb
        go_wp2_with fail
        go_ret
        exact ⟨rfl, HB.out⟩
end Go.Proofs.Ytkcmeklgnbejiaa.Batch
