/-
  YtlkljeedlkbkgaaGreatDoorBagRef
  YtlkljeedlkbkgaaGreatDoorBagRef2
-/
import Derived.Test.YtlkljeedlkbkgaaGreatDoorJoined8
import Derived.Test.YtlkljeedlkbkgaaGreatDoorJoined21
namespace Go.Proofs.YtlkljeedlkbkgaaGreatDoor.Batch
open Go.RowKit Go.Lib
set_option linter.unusedVariables false
set_option maxRecDepth 1000000 in
set_option maxHeartbeats 4000000 in
theorem refof_any {w : World} {v : Value} {l : List Ch} (p t : Int) (hv : Rd w v l) (hr : l.Pairwise Lt) :
    Calls Tryz.prog 21 #[v, .int .i64 p, .int .u64 t] w fun e w' => e = .returned (.int .i64 (tot l p t)) ∧ Below w.heap.size w w' := by
  obtain ⟨ao, cap, rfl, hlc, hcm, _, hcell⟩ := hv
  have HC := Lib.hid hcell
  have HR := Lib.hid hr
  have hlen : l.length ≤ 9223372036854775807 := by omega
  clear hcell hlc hcm hr
  go_enter Tryz.func21, Tryz.ntmps21
  go_wp2
  go_loopg [7] l.length (fun k s wr => ∃ i : Nat, i + k = l.length ∧ s = .int .i64 i ∧ (∀ y ∈ l.take i, ¬ (y.p = p ∧ y.t = t)) ∧ wr = w)
  case atStart => exact ⟨0, by omega, rfl, by simp, rfl⟩
  case round =>
    obtain ⟨i, hik, rfl, hok, hwr⟩ := hrel
    subst wr
    have HIK := Lib.hid hik
    have HOK := Lib.hid hok
    clear hok hik
    by_cases hlt1 : i < l.length
    · obtain ⟨x, hx, hxm⟩ := at_of hlt1
      obtain ⟨b, off, hao, hcc⟩ := HC.out.resolve_left (by intro e; rw [e] at hlt1; simp at hlt1)
      subst hao
      obtain ⟨c0, c1, c2⟩ := hcc i x hx
      have HX := Lib.hid hx
      have HXM := Lib.hid hxm
      have hi0' : (0 : Int) ≤ (i : Int) := Int.natCast_nonneg _
      have hi1 : (i : Int) < (l.length : Int) := by omega
      have HLT := Lib.hid hlt1
      clear hx hxm hcc HC
      have HSTEP := Lib.hid (show ¬ (x.p = p ∧ x.t = t) → ∀ y ∈ l.take (i + 1), ¬ (y.p = p ∧ y.t = t) by
        intro hn y hy
        rw [take_succ' HX.out] at hy
        rcases List.mem_append.1 hy with hy | hy
        · exact HOK.out y hy
        · simp at hy; subst hy; exact hn)
      by_cases hp : x.p = p
      · have hpb : (x.p == p) = true := by rw [beq_iff_eq]; exact hp
        by_cases ht : x.t = t
        · have htb : (x.t == t) = true := by rw [beq_iff_eq]; exact ht
          have HT := Lib.hid (show tot l p t = x.d from tot_key HR.out HXM.out hp ht)
          obtain ⟨xp, xt, xd⟩ := x
          simp only at c0 c1 c2 hpb htb
          clear hp ht
          go_wp2_with fail
          try (go_quiet (fail))
          try (go_wp2_with fail)
          go_ret
          exact ⟨by rw [HT.out]; rfl, by first | exact Below.refl _ _ | exact below_drewN (Below.refl _ _) _⟩
        · have htb : (x.t == t) = false := by rw [beq_eq_false_iff_ne]; exact ht
          have HS := Lib.hid (HSTEP.out (fun h => ht h.2))
          obtain ⟨xp, xt, xd⟩ := x
          simp only at c0 c1 c2 hpb htb
          clear hp ht
          go_wp2_with fail
          go_roundg (gk - 1)
          case measure => have := HIK.out; have := HLT.out; omega
          case rel => exact ⟨i + 1, by have := HIK.out; have := HLT.out; omega, by go_num, HS.out, rfl⟩
      · have hpb : (x.p == p) = false := by rw [beq_eq_false_iff_ne]; exact hp
        have HS := Lib.hid (HSTEP.out (fun h => hp h.1))
        obtain ⟨xp, xt, xd⟩ := x
        simp only at c0 c1 c2 hpb
        clear hp
        go_wp2_with fail
        go_roundg (gk - 1)
        case measure => have := HIK.out; have := HLT.out; omega
        case rel => exact ⟨i + 1, by have := HIK.out; have := HLT.out; omega, by go_num, HS.out, rfl⟩
    · have HT := Lib.hid (show tot l p t = 0 from tot_none fun y hy => HOK.out y (by rw [take_all (by omega)]; exact hy))
      go_wp2_with fail
      go_ret
      exact ⟨by rw [HT.out]; rfl, Below.refl _ _⟩
end Go.Proofs.YtlkljeedlkbkgaaGreatDoor.Batch
namespace Go.Proofs.YtlkljeedlkbkgaaGreatDoor.Batch
open Go.RowKit Go.Lib
set_option linter.unusedVariables false
theorem anyOver_snoc {B C : List Ch} {i : Nat} {x : Ch} (hx : C[i]? = some x) : anyOver B (C.take (i + 1)) = (anyOver B (C.take i) || overAt B x) := by
  unfold anyOver
  rw [take_succ' hx, List.any_append]
  simp
set_option maxRecDepth 1000000 in
set_option maxHeartbeats 8000000 in
theorem refapply_anyR {w : World} {vb vc : Value} {B C : List Ch} (hvb : Sl w vb B) (hvc : Rd w vc C) (hB : BagP B) (hC : RightP C) (hl : B.length + C.length ≤ 100000) :
    Calls Tryz.prog 77 #[vb, vc] w fun e w' => ∃ v' : Value, (e = .returned (.tuple #[v', .int .i64 (applyE B C)])) ∧ Own w' w.heap.size 67 v' (applyR B C) ∧ Below w.heap.size w w' := by
  have HVB := Lib.hid hvb
  have HVC := Lib.hid hvc
  have HB := Lib.hid hB
  have HCR := Lib.hid hC
  have HL := Lib.hid hl
  obtain ⟨ab, cb, rfl, _⟩ := hvb
  obtain ⟨ac, cc, rfl, hlc, hcm, _, hcell⟩ := hvc
  have HC := Lib.hid hcell
  have hlen : C.length ≤ 9223372036854775807 := by omega
  have HOF := Lib.hid (fun p t W (h : Below w.heap.size w W) => refof_any p t (HVB.out.below h).rd HB.out.right.2)
  clear hcell hlc hcm hB hC hl
  go_enter Tryz.func77, Tryz.ntmps77
  go_wp2
  go_loopg [6, 7] C.length (fun k o s wr => ∃ (i : Nat) (ob : Bool), i + k = C.length ∧ s = .int .i64 i ∧ o = .bool ob ∧ ob = anyOver B (C.take i) ∧ (∀ y ∈ C.take i, ¬ (tot B y.p y.t + y.d < 0)) ∧ Below w.heap.size w wr)
  case atStart => exact ⟨0, false, by omega, rfl, rfl, rfl, by simp, Below.refl _ _⟩
  case round =>
    obtain ⟨i, ob, hik, rfl, rfl, hob, hok, hbw⟩ := hrel
    have HIK := Lib.hid hik
    have HOK := Lib.hid hok
    have HOB := Lib.hid hob
    have HBW := Lib.hid hbw
    clear hok hbw hik hob
    have hbs : w.heap.size ≤ wr.heap.size := HBW.out.size
    by_cases hlt1 : i < C.length
    · obtain ⟨x, hx, hxm⟩ := at_of hlt1
      obtain ⟨b, off, rfl, hcc⟩ := HC.out.resolve_left (fun h => by rw [h] at hlt1; simp at hlt1)
      have q := hcc i x hx
      have hbl := q.lt
      obtain ⟨c0, c1, c2⟩ := q.below HBW.out hbl
      have HX := Lib.hid hx
      have hi0' : (0 : Int) ≤ (i : Int) := Int.natCast_nonneg _
      have hi1 : (i : Int) < (C.length : Int) := by omega
      have HLT := Lib.hid hlt1
      have hd := HCR.out.d x hxm
      have ht := HB.out.right.totR x.p x.t
      have hd0 : -576460752303423488 ≤ x.d := hd.1
      have hd1 : x.d ≤ 576460752303423488 := hd.2
      have hblw : b < wr.heap.size := by omega
      by_cases hn : tot B x.p x.t + x.d < 0
      · have HN := Lib.hid (apply_neg (anyNeg_at hxm hn))
        obtain ⟨p, t, d⟩ := x
        simp only at c0 c1 c2 hn ht hd0 hd1
        have HOFX := Lib.hid (fun W h => HOF.out p t W h)
        obtain ⟨tv, htv⟩ : ∃ tv, tv = tot B p t := ⟨_, rfl⟩
        rw [← htv] at hn ht HOFX
        have hw : IntKind.i64.wrap (tv + d) = tv + d := by rw [wr_i64, wr_id (by omega) (by omega)]
        have ht0 := ht.1
        have ht1 := ht.2
        clear hx hxm hcc q hbl hd ht htv
        go_wp2_with fail
        go_region_held3 (fun w' => w'.cell? ⟨b, off + i * 3, none⟩ = some (.int .i64 p) ∧ w'.cell? ⟨b, off + i * 3 + 1, none⟩ = some (.int .u64 t) ∧ w'.cell? ⟨b, off + i * 3 + 2, none⟩ = some (.int .i64 d))
          (first
            | go_keep
            | (go_split_ands
               refine ⟨?_, ?_, ?_⟩ <;> (rw [hcb.cell (by simp; omega)]; assumption)))
          ((go_at_call 21; refine (HOFX.out _ (HBW.out.drew)).mono ?_; rintro e w1 ⟨rfl, hcb⟩))
        have HB1 := Lib.hid ((HBW.out.drew).trans (hcb.mono (by simp; omega)))
        clear hcb c0 c1 c2
        go_wp2_with fail
        go_ret2
        refine ⟨_, ret_two HN.out.1.symm, ?_, HB1.out⟩
        rw [HN.out.2]
        exact Own.nil _ _ _
      · have HN := Lib.hid (show ∀ y ∈ C.take (i + 1), ¬ (tot B y.p y.t + y.d < 0) by
          intro y hy
          rw [take_succ' hx] at hy
          rcases List.mem_append.1 hy with hy | hy
          · exact HOK.out y hy
          · simp at hy; subst hy; exact hn)
        have HS := Lib.hid ((anyOver_snoc (B := B) hx).trans (show _ = (ob || decide (576460752303423488 < tot B x.p x.t + x.d)) by rw [HOB.out]; rfl))
        obtain ⟨p, t, d⟩ := x
        simp only at c0 c1 c2 hn ht hd0 hd1 HS
        have HOFX := Lib.hid (fun W h => HOF.out p t W h)
        obtain ⟨tv, htv⟩ : ∃ tv, tv = tot B p t := ⟨_, rfl⟩
        rw [← htv] at hn ht HOFX HS
        have hw : IntKind.i64.wrap (tv + d) = tv + d := by rw [wr_i64, wr_id (by omega) (by omega)]
        have ht0 := ht.1
        have ht1 := ht.2
        clear hx hxm hcc q hbl hd ht htv
        clear HOB
        cases ob
        all_goals
          go_wp2_with fail
          go_region_held3 (fun w' => w'.cell? ⟨b, off + i * 3, none⟩ = some (.int .i64 p) ∧ w'.cell? ⟨b, off + i * 3 + 1, none⟩ = some (.int .u64 t) ∧ w'.cell? ⟨b, off + i * 3 + 2, none⟩ = some (.int .i64 d))
            (first
              | go_keep
              | (go_split_ands
                 refine ⟨?_, ?_, ?_⟩ <;> (rw [hcb.cell (by simp; omega)]; assumption)))
            ((go_at_call 21; refine (HOFX.out _ (HBW.out.drew)).mono ?_; rintro e w1 ⟨rfl, hcb⟩))
          have HB1 := Lib.hid ((HBW.out.drew).trans (hcb.mono (by simp; omega)))
          clear hcb c0 c1 c2
          go_wp2_with fail
          go_roundg (gk - 1)
          case measure => have := HIK.out; have := HLT.out; omega
          case rel => exact ⟨i + 1, _, by have := HIK.out; have := HLT.out; omega, by go_num, rfl, HS.out.symm, HN.out, HB1.out⟩
    · have hall : C.take i = C := take_all (by omega)
      have hnn : anyNeg B C = false := anyNeg_no (fun y hy => HOK.out y (by rw [hall]; exact hy))
      have HN := Lib.hid (apply_not hnn)
      have HO := Lib.hid (show ob = overK (B ++ C) by rw [HOB.out, hall]; exact anyOver_is HB.out HCR.out HVB.out.wf HVC.out.wf hnn)
      have HM := Lib.hid (refmerge_anyR (HVB.out.below HBW.out) (HVC.out.below HBW.out) HL.out)
      clear hall hnn HOB
      cases ob
      · have HS := Lib.hid (sums_ok HO.out.symm)
        go_wp2_with fail
        go_at_call 84
        refine HM.out.mono ?_
        rintro e w1 ⟨v1, rfl, hown, hb1⟩
        have HO1 := Lib.hid (hown.mono hbs)
        have HB1 := Lib.hid (HBW.out.trans (hb1.mono hbs))
        clear hown hb1
        go_wp2_with fail
        go_ret2
        refine ⟨_, ret_two (HN.out.1.trans HS.out.1).symm, ?_, HB1.out⟩
        rw [HN.out.2]
        exact HO1.out
      · have HS := Lib.hid (sums_over HO.out.symm)
        go_wp2_with fail
        go_ret2
        refine ⟨_, ret_two (HN.out.1.trans HS.out.1).symm, ?_, HBW.out⟩
        rw [HN.out.2, HS.out.2]
        exact Own.nil _ _ _
theorem refapply_any {w : World} {vb vc : Value} {B C : List Ch} (hvb : Sl w vb B) (hvc : Sl w vc C) (hB : BagP B) (hC : RightP C) (hl : B.length + C.length ≤ 100000) :
    Calls Tryz.prog 77 #[vb, vc] w fun e w' => ∃ v' : Value, (e = .returned (.tuple #[v', .int .i64 (applyE B C)])) ∧ Own w' w.heap.size 67 v' (applyR B C) ∧ Below w.heap.size w w' := refapply_anyR hvb hvc.rd hB hC hl
end Go.Proofs.YtlkljeedlkbkgaaGreatDoor.Batch
