/-
  PACKAGE marchlandlaw03: told.
-/
import Derived.Test.YtcjbmeebenaonaaBatchRefMerge
import Derived.Test.YtcjbmeebenaonaaBatchRefRight
namespace Go.Proofs.Ytcjbmeebenaonaa.Batch
open Go.RowKit
set_option linter.unusedVariables false

theorem sl_new (w : World) (L : List Ch) (T : TypeId) (hw : ∀ x ∈ L, x.Wf) (hl : L.length ≤ 100000) : Sl (w.alloc (.cells (cellsL L).toArray T)) (.slice (some ⟨w.heap.size, 0, none⟩) L.length L.length) L := by
  have hat : ∀ j, (w.alloc (.cells (cellsL L).toArray T)).cell? ⟨w.heap.size, j, none⟩ = (cellsL L)[j]? := by
    intro j
    have h := heap_alloc_new w (.cells (cellsL L).toArray T)
    unfold World.cell?
    simp only [h]
    simp
  refine ⟨_, _, rfl, .inr ⟨w.heap.size, 0, rfl, fun i x hx => ?_⟩, Nat.le_refl _, by omega, hw⟩
  have h0 := cellsL_at hx 0 (by omega)
  have h1 := cellsL_at hx 1 (by omega)
  have h2 := cellsL_at hx 2 (by omega)
  rw [Nat.zero_add]
  exact ⟨(hat _).trans h0, (hat _).trans h1, (hat _).trans h2⟩
def T1 : List Ch := [⟨1, 5, 2⟩, ⟨0, 7, 1⟩, ⟨1, 5, -2⟩]
def T2 : List Ch := [⟨64, 0, 0⟩]
def T3 : List Ch := [⟨0, 7, 1⟩]
theorem t1_wf : ∀ x ∈ T1, x.Wf := by
  intro x hx
  unfold T1 at hx
  simp at hx
  rcases hx with rfl | rfl | rfl <;> exact ⟨by decide, by decide, by decide, by decide, by decide, by decide⟩
theorem t2_wf : ∀ x ∈ T2, x.Wf := by
  intro x hx
  unfold T2 at hx
  simp at hx
  subst hx
  exact ⟨by decide, by decide, by decide, by decide, by decide, by decide⟩
theorem t3_wf : ∀ x ∈ T3, x.Wf := by
  intro x hx
  unfold T3 at hx
  simp at hx
  subst hx
  exact ⟨by decide, by decide, by decide, by decide, by decide, by decide⟩
theorem t1_pack : packE T1 = 0 ∧ packR T1 = T3 := ⟨by kernel_rfl, by kernel_rfl⟩
theorem t2_pack : packE T2 = 2 := by kernel_rfl
theorem t3_tot : tot T3 0 7 = 1 := by kernel_rfl
theorem t3_right : RightP T3 := by
  unfold T3
  refine ⟨fun x hx => ?_, by simp⟩
  simp at hx
  subst hx
  exact ⟨by decide, by decide⟩

set_option maxRecDepth 1000000 in
set_option maxHeartbeats 8000000 in
theorem told_any (w : World) : Calls Try.prog 10 #[] w fun e w' => e = .returned (.bool true) ∧ Below w.heap.size w w' := by
  have h1 := sl_new w T1 48 t1_wf (by decide)
  have HP1 := Lib.hid (pack_any h1)
  have hB0 : Below w.heap.size w (w.alloc (.cells (cellsL T1).toArray 48)) := (Below.refl _ _).alloc (Nat.le_refl _) _
  have HB0 := Lib.hid hB0
  have HT := Lib.hid t1_pack
  clear h1 hB0
  go_enter Try.func10, Try.ntmps10
  go_wp2_with fail
  go_at_call 8
  refine HP1.out.mono ?_
  rw [HT.out.1, HT.out.2]
  rintro e w1 ⟨v1, rfl, hown1, hb1⟩
  have hbb : Below w.heap.size w w1 := HB0.out.trans (hb1.mono HB0.out.size)
  have HB1 := Lib.hid hbb
  have hsl := hown1.sl t3_wf
  have HSL := Lib.hid hsl
  have h2 := sl_new w1 T2 48 t2_wf (by decide)
  have HP2 := Lib.hid (pack_any h2)
  have hbs1 : w.heap.size ≤ w1.heap.size := hbb.size
  have HB2 := Lib.hid (hbb.alloc hbs1 (.cells (cellsL T2).toArray 48))
  have HB2' := Lib.hid (show Below w1.heap.size w1 (w1.alloc (.cells (cellsL T2).toArray 48)) from (Below.refl _ _).alloc (Nat.le_refl _) _)
  have HT2 := Lib.hid t2_pack
  obtain ⟨ao, cap, rfl, hcase⟩ := hown1.form'
  obtain ⟨g, rfl, hg1, hg2⟩ := hcase.resolve_left (by decide)
  have hl3 : T3.length = 1 := rfl
  rw [hl3] at HSL hown1 hsl ⊢
  clear hown1 hb1 hbb hsl h2 hcase hl3
  go_wp2_with fail
  go_at_call 8
  refine HP2.out.mono ?_
  rw [HT2.out]
  rintro e w2 ⟨v2, rfl, hown2, hb2⟩
  have hbb : Below w.heap.size w w2 := HB2.out.trans (hb2.mono (by have := hbs1; simp; omega))
  have HB3 := Lib.hid hbb
  have hsl2 := HSL.out.below (HB2'.out.trans (hb2.mono (by simp)))
  have HO := Lib.hid (fun W (h : Below w2.heap.size w2 W) => of_any 0 7 (hsl2.below h) t3_right.2 (by decide))
  have HRt := Lib.hid (fun W (h : Below w2.heap.size w2 W) => right_any (hsl2.below h))
  have HR1 := Lib.hid (rightB_true t3_right)
  have HTT := Lib.hid t3_tot
  obtain ⟨b, off, ha, c0, c1, c2⟩ := (hsl2.rd).at (i := 0) (x := ⟨0, 7, 1⟩) rfl
  simp only [Option.some.injEq, Addr.mk.injEq, and_true] at ha
  obtain ⟨rfl, rfl⟩ := ha
  simp only [Nat.zero_mul, Nat.add_zero] at c0 c1 c2
  clear hown2 hb2 hbb hsl2
  go_wp2_with fail
  go_at_call 21
  refine (HO.out _ (Below.refl _ _)).mono ?_
  rw [HTT.out]
  rintro e w3 ⟨rfl, hb3⟩
  have HB4 := Lib.hid (HB3.out.trans (hb3.mono HB3.out.size))
  have HB3' := Lib.hid hb3
  clear hb3
  go_wp2_with fail
  go_at_call 13
  refine (HRt.out _ HB3'.out).mono ?_
  rw [HR1.out]
  rintro e w4 ⟨rfl, hb4⟩
  have HB5 := Lib.hid (HB4.out.trans (hb4.mono HB4.out.size))
  clear hb4
  go_wp2_with fail
  go_ret
  exact ⟨rfl, HB5.out⟩
theorem sameB_any {w : World} {v1 v2 : Value} {a b : List Ch} (h1 : Sl w v1 a) (h2 : Sl w v2 b) :
    Calls Try.prog 19 #[v1, v2] w fun e w' => e = .returned (.bool (eqL a b)) ∧ Below w.heap.size w w' :=
  (same_any h1 h2).mono fun e w' ⟨he, q, hq⟩ => ⟨he, by rw [hq]; exact below_drewN (Below.refl _ _) q⟩
end Go.Proofs.Ytcjbmeebenaonaa.Batch
