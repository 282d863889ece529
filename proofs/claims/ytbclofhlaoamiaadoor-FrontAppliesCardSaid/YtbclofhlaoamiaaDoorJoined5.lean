/-
  PACKAGE marchlandlaw03: told.
  PACKAGE marchlandlaw04: told.
-/
import Derived.Test.YtbclofhlaoamiaaDoorJoined4
import Derived.Test.YtbclofhlaoamiaaDoorBatchOf
import Derived.Test.YtbclofhlaoamiaaDoorBatchRefRight
import Derived.Test.YtbclofhlaoamiaaDoorBagFind
import Derived.Test.YtbclofhlaoamiaaDoorBagApply
namespace Go.Proofs.YtbclofhlaoamiaaDoor.Batch
open Go.RowKit
set_option linter.unusedVariables false

theorem sl_new (w : World) (L : List Ch) (T : TypeId) (hw : ∀ x ∈ L, x.Wf) (hl : L.length ≤ 100000) : Sl (w.alloc (.cells (cellsL L).toArray T)) (.slice (some ⟨w.heap.size, 0, none⟩) L.length L.length) L := by
  have hat : ∀ j, (w.alloc (.cells (cellsL L).toArray T)).cell? ⟨w.heap.size, j, none⟩ = (cellsL L)[j]? := by
    intro j
    have h := heap_alloc_new w (.cells (cellsL L).toArray T)
    unfold World.cell?
    simp only [h]
    simp
  refine ⟨_, _, rfl, .inr ⟨w.heap.size, 0, rfl, fun i x hx => ?_⟩, Nat.le_refl _, by omega, hw⟩
  have h0 := cellsL_at hx 0 (by omega)
  have h1 := cellsL_at hx 1 (by omega)
  have h2 := cellsL_at hx 2 (by omega)
  rw [Nat.zero_add]
  exact ⟨(hat _).trans h0, (hat _).trans h1, (hat _).trans h2⟩
def T1 : List Ch := [⟨1, 5, 2⟩, ⟨0, 7, 1⟩, ⟨1, 5, -2⟩]
def T2 : List Ch := [⟨64, 0, 0⟩]
def T3 : List Ch := [⟨0, 7, 1⟩]
theorem t1_wf : ∀ x ∈ T1, x.Wf := by
  intro x hx
  unfold T1 at hx
  simp at hx
  rcases hx with rfl | rfl | rfl <;> exact ⟨by decide, by decide, by decide, by decide, by decide, by decide⟩
theorem t2_wf : ∀ x ∈ T2, x.Wf := by
  intro x hx
  unfold T2 at hx
  simp at hx
  subst hx
  exact ⟨by decide, by decide, by decide, by decide, by decide, by decide⟩
theorem t3_wf : ∀ x ∈ T3, x.Wf := by
  intro x hx
  unfold T3 at hx
  simp at hx
  subst hx
  exact ⟨by decide, by decide, by decide, by decide, by decide, by decide⟩
theorem t1_pack : packE T1 = 0 ∧ packR T1 = T3 := ⟨by kernel_rfl, by kernel_rfl⟩
theorem t2_pack : packE T2 = 2 := by kernel_rfl
theorem t3_tot : tot T3 0 7 = 1 := by kernel_rfl
theorem t3_right : RightP T3 := by
  unfold T3
  refine ⟨fun x hx => ?_, by simp⟩
  simp at hx
  subst hx
  exact ⟨by decide, by decide⟩

end Go.Proofs.YtbclofhlaoamiaaDoor.Batch
namespace Go.Proofs.YtbclofhlaoamiaaDoor.Batch
open Go.RowKit
set_option linter.unusedVariables false

def U1 : List Ch := [⟨1, 5, 2⟩, ⟨1, 9, 1⟩]
def U2 : List Ch := [⟨1, 5, -2⟩]
def U3 : List Ch := [⟨1, 9, 1⟩]
def U4 : List Ch := [⟨1, 5, -1⟩]
theorem wf_small {x : Ch} (h0 : 0 ≤ x.p ∧ x.p ≤ 63) (h1 : 0 ≤ x.t ∧ x.t ≤ 1000) (h2 : -1000 ≤ x.d ∧ x.d ≤ 1000) : x.Wf := ⟨by omega, by omega, by omega, by omega, by omega, by omega⟩
theorem u1_wf : ∀ x ∈ U1, x.Wf := by
  intro x hx
  unfold U1 at hx
  simp at hx
  rcases hx with rfl | rfl <;> exact wf_small (by decide) (by decide) (by decide)
theorem u2_wf : ∀ x ∈ U2, x.Wf := by
  intro x hx
  unfold U2 at hx
  simp at hx
  subst hx
  exact wf_small (by decide) (by decide) (by decide)
theorem u3_wf : ∀ x ∈ U3, x.Wf := by
  intro x hx
  unfold U3 at hx
  simp at hx
  subst hx
  exact wf_small (by decide) (by decide) (by decide)
theorem u4_wf : ∀ x ∈ U4, x.Wf := by
  intro x hx
  unfold U4 at hx
  simp at hx
  subst hx
  exact wf_small (by decide) (by decide) (by decide)
theorem u1_right : RightP U1 := by
  unfold U1
  refine ⟨fun x hx => ?_, by simp [Lt]⟩
  simp at hx
  rcases hx with rfl | rfl <;> exact ⟨by decide, by decide⟩
theorem one_right {x : Ch} (h : wrongN x = 0) (h0 : x.d ≠ 0) : RightP [x] := ⟨fun y hy => by simp at hy; subst hy; exact ⟨h, h0⟩, by simp⟩
theorem u2_right : RightP U2 := one_right (by decide) (by decide)
theorem u3_right : RightP U3 := one_right (by decide) (by decide)
theorem u4_right : RightP U4 := one_right (by decide) (by decide)
theorem u_a : applyE U1 U2 = 0 ∧ applyR U1 U2 = U3 := ⟨by kernel_rfl, by kernel_rfl⟩
theorem u_b : applyE U3 U4 = 11 ∧ applyR U3 U4 = [] := ⟨by kernel_rfl, by kernel_rfl⟩
theorem u_l1 : leastL U1 1 = 5 := by kernel_rfl
theorem u_l2 : leastL U3 1 = 9 := by kernel_rfl
theorem u_l3 : leastL U3 0 = 18446744073709551615 := by kernel_rfl
theorem u_p : posB U1 = true := by kernel_rfl

end Go.Proofs.YtbclofhlaoamiaaDoor.Batch
