/-
  PACKAGE bag: Apply.
-/
import Derived.Test.YtbclofhlaoamiaaDoorBagMath
import Derived.Test.YtbclofhlaoamiaaDoorBatchOf
namespace Go.Proofs.YtbclofhlaoamiaaDoor.Batch
open Go.RowKit
set_option linter.unusedVariables false

theorem of_at {w0 w : World} {v : Value} {l : List Ch} (p t : Int) (hv : Sl w0 v l) (hr : l.Pairwise Lt) (hl : l.length ≤ 100000) (hb : Below w0.heap.size w0 w) :
    Calls Tryd.prog 42 #[v, .int .i64 p, .int .u64 t] w fun e w' => e = .returned (.int .i64 (tot l p t)) ∧ Below w.heap.size w w' := of_any p t (hv.below hb) hr hl

set_option maxRecDepth 1000000 in
set_option maxHeartbeats 8000000 in
theorem apply_any {w : World} {vb vc : Value} {B C : List Ch} (hvb : Sl w vb B) (hvc : Sl w vc C) (hB : RightP B) (hC : RightP C) (hl : B.length + C.length ≤ 100000) :
    Calls Tryd.prog 29 #[vb, vc] w fun e w' => ∃ v' : Value, (e = .returned (.tuple #[v', .int .i64 (applyE B C)])) ∧ Own w' w.heap.size 68 v' (applyR B C) ∧ Below w.heap.size w w' := by
  have HVB := Lib.hid hvb
  have HVC := Lib.hid hvc
  have HB := Lib.hid hB
  have HCR := Lib.hid hC
  have HL := Lib.hid hl
  have hl1 : B.length ≤ 100000 := by omega
  have HL1 := Lib.hid hl1
  obtain ⟨ab, cb, rfl, _⟩ := hvb
  obtain ⟨ac, cc, rfl, hcell, hlc, hcm, _⟩ := hvc
  have HC := Lib.hid hcell
  have hlen : C.length ≤ 9223372036854775807 := by omega
  have HOF := Lib.hid (fun p t W h => of_at p t HVB.out HB.out.2 HL1.out (w := W) h)
  clear hcell hlc hcm hB hC hl hl1
  go_enter Tryd.func29, Tryd.ntmps29
  go_wp2
  go_loopg [10] C.length (fun k t wr => ∃ i : Nat, i + k = C.length ∧ t = .int .i64 i ∧ (∀ y ∈ C.take i, ¬ (tot B y.p y.t + y.d < 0)) ∧ Below w.heap.size w wr)
  case atStart => exact ⟨0, by omega, rfl, by simp, Below.refl _ _⟩
  case round =>
    obtain ⟨i, hik, rfl, hok, hbw⟩ := hrel
    have HIK := Lib.hid hik
    have HOK := Lib.hid hok
    have HBW := Lib.hid hbw
    clear hok hbw hik
    have hbs : w.heap.size ≤ wr.heap.size := HBW.out.size
    by_cases hlt1 : i < C.length
    · obtain ⟨x, hx, hxm⟩ := at_of hlt1
      obtain ⟨b, off, rfl, hcc⟩ := HC.out.resolve_left (fun h => by rw [h.2] at hlt1; simp at hlt1)
      have q := hcc i x hx
      have hbl := q.lt
      obtain ⟨c0, c1, c2⟩ := q.below HBW.out hbl
      have HX := Lib.hid hx
      have HXM := Lib.hid hxm
      have hi0' : (0 : Int) ≤ (i : Int) := Int.natCast_nonneg _
      have hi1 : (i : Int) < (C.length : Int) := by omega
      have HLT := Lib.hid hlt1
      have hd := HCR.out.d x hxm
      have ht := HB.out.totR x.p x.t
      have hd0 : -576460752303423488 ≤ x.d := hd.1
      have hd1 : x.d ≤ 576460752303423488 := hd.2
      by_cases hn : tot B x.p x.t + x.d < 0
      case' pos => have HN := Lib.hid (apply_neg (anyNeg_at hxm hn))
      case' neg =>
        have HN := Lib.hid (show ∀ y ∈ C.take (i + 1), ¬ (tot B y.p y.t + y.d < 0) by
          intro y hy
          rw [take_succ' hx] at hy
          rcases List.mem_append.1 hy with hy | hy
          · exact HOK.out y hy
          · simp at hy; subst hy; exact hn)
      all_goals
        obtain ⟨p, t, d⟩ := x
        simp only at c0 c1 c2 hn ht hd0 hd1
        have HOFX := Lib.hid (fun W h => HOF.out p t W h)
        have HTV : ∃ tv, tv = tot B p t := ⟨_, rfl⟩
        obtain ⟨tv, htv⟩ := HTV
        rw [← htv] at hn ht HOFX
        have hw : IntKind.i64.wrap (tv + d) = tv + d := by rw [wr_i64, wr_id (by omega) (by omega)]
        have ht0 := ht.1
        have ht1 := ht.2
        clear hx hxm hcc q hbl hd ht htv
        go_wp2_with fail
        go_region_held3 (fun w' => w'.cell? ⟨wr.heap.size, 0, none⟩ = some (.int .i64 p) ∧ w'.cell? ⟨wr.heap.size, 1, none⟩ = some (.int .u64 t) ∧ w'.cell? ⟨wr.heap.size, 2, none⟩ = some (.int .i64 d))
          (first
            | go_keep
            | (go_split_ands
               refine ⟨?_, ?_, ?_⟩ <;> (rw [hcb.cell (by simp)]; assumption)))
          ((go_at_call 42; refine (HOFX.out _ ((HBW.out.alloc hbs _).drew)).mono ?_; rintro e w1 ⟨rfl, hcb⟩))
        have HB1 := Lib.hid (((HBW.out.alloc hbs (.cells #[.int .i64 p, .int .u64 t, .int .i64 d] 68)).drew).trans (hcb.mono (by simp; omega)))
        clear hcb c0 c1 c2
        go_wp2_with fail
      · go_roundg (gk - 1)
        case measure => have := HIK.out; have := HLT.out; omega
        case rel => exact ⟨i + 1, by have := HIK.out; have := HLT.out; omega, by go_num, HN.out, HB1.out⟩
      · go_ret2
        refine ⟨_, ret_two HN.out.1.symm, ?_, HB1.out⟩
        rw [HN.out.2]
        exact Own.nil _ _ _
    · have HN := Lib.hid (apply_not (anyNeg_no (B := B) (C := C) (fun y hy => HOK.out y (by rw [take_all (by omega)]; exact hy))))
      have HM := Lib.hid (merge_any (HVB.out.below HBW.out) (HVC.out.below HBW.out) (RightP.sorted HB.out) (RightP.sorted HCR.out) HL.out)
      go_wp2_with fail
      go_at_call 43
      refine HM.out.mono ?_
      rintro e w1 ⟨v1, rfl, hown, hb1⟩
      have HO := Lib.hid (hown.mono hbs)
      have HB1 := Lib.hid (HBW.out.trans (hb1.mono hbs))
      clear hown hb1
      go_wp2_with fail
      go_ret2
      refine ⟨_, ret_two HN.out.1.symm, ?_, HB1.out⟩
      rw [HN.out.2]
      exact HO.out
end Go.Proofs.YtbclofhlaoamiaaDoor.Batch
