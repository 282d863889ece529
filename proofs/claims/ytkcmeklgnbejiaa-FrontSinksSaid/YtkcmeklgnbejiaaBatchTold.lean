
/-
  PACKAGE marchlandlaw03: told.
-/
import Derived.Test.YtkcmeklgnbejiaaBatchRefMerge
import Derived.Test.YtkcmeklgnbejiaaBatchOf
import Derived.Test.YtkcmeklgnbejiaaBatchRefRight
namespace Go.Proofs.Ytkcmeklgnbejiaa.Batch
open Go.RowKit
set_option linter.unusedVariables false

theorem sl_new (w : World) (L : List Ch) (T : TypeId) (hw : ∀ x ∈ L, x.Wf) (hl : L.length ≤ 100000) : Sl (w.alloc (.cells (cellsL L).toArray T)) (.slice (some ⟨w.heap.size, 0, none⟩) L.length L.length) L := by
  have hat : ∀ j, (w.alloc (.cells (cellsL L).toArray T)).cell? ⟨w.heap.size, j, none⟩ = (cellsL L)[j]? := by
    intro j
    have h := heap_alloc_new w (.cells (cellsL L).toArray T)
    unfold World.cell?
    simp only [h]
    simp
  refine ⟨_, _, rfl, .inr ⟨w.heap.size, 0, rfl, fun i x hx => ?_⟩, Nat.le_refl _, by omega, hw⟩
  have h0 := cellsL_at hx 0 (by omega)
  have h1 := cellsL_at hx 1 (by omega)
  have h2 := cellsL_at hx 2 (by omega)
  rw [Nat.zero_add]
  exact ⟨(hat _).trans h0, (hat _).trans h1, (hat _).trans h2⟩
def T1 : List Ch := [⟨1, 5, 2⟩, ⟨0, 7, 1⟩, ⟨1, 5, -2⟩]
def T2 : List Ch := [⟨64, 0, 0⟩]
def T3 : List Ch := [⟨0, 7, 1⟩]
theorem t1_wf : ∀ x ∈ T1, x.Wf := by
  intro x hx
  unfold T1 at hx
  simp at hx
  rcases hx with rfl | rfl | rfl <;> exact ⟨by decide, by decide, by decide, by decide, by decide, by decide⟩
theorem t2_wf : ∀ x ∈ T2, x.Wf := by
  intro x hx
  unfold T2 at hx
  simp at hx
  subst hx
  exact ⟨by decide, by decide, by decide, by decide, by decide, by decide⟩
theorem t3_wf : ∀ x ∈ T3, x.Wf := by
  intro x hx
  unfold T3 at hx
  simp at hx
  subst hx
  exact ⟨by decide, by decide, by decide, by decide, by decide, by decide⟩
theorem t1_pack : packE T1 = 0 ∧ packR T1 = T3 := ⟨by kernel_rfl, by kernel_rfl⟩
theorem t2_pack : packE T2 = 2 := by kernel_rfl
theorem t3_tot : tot T3 0 7 = 1 := by kernel_rfl
theorem t3_right : RightP T3 := by
  unfold T3
  refine ⟨fun x hx => ?_, by simp⟩
  simp at hx
  subst hx
  exact ⟨by decide, by decide⟩

theorem sameB_any {w : World} {v1 v2 : Value} {a b : List Ch} (h1 : Sl w v1 a) (h2 : Sl w v2 b) :
    Calls Try.prog 24 #[v1, v2] w fun e w' => e = .returned (.bool (eqL a b)) ∧ Below w.heap.size w w' :=
  (same_any h1 h2).mono fun e w' ⟨he, q, hq⟩ => ⟨he, by rw [hq]; exact below_drewN (Below.refl _ _) q⟩
end Go.Proofs.Ytkcmeklgnbejiaa.Batch
