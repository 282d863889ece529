/-
  PACKAGE marchlandref03: Merge.
-/
import Derived.Test.YtehimacmjlehhaaBatchRefFix
namespace Go.Proofs.Ytehimacmjlehhaa.Batch
open Go.RowKit
set_option linter.unusedVariables false

theorem own0 (w : World) (T : TypeId) : (w.alloc (.cells #[] T)).ownsRow w.heap.size T 3 (.slice (some ⟨w.heap.size, 0, none⟩) 0 0) 0 [] :=
  ⟨rfl, .inr ⟨w.heap.size, 0, #[], rfl, Nat.le_refl _, heap_alloc_new w _, Nat.le_refl _, by simp, rfl, rfl⟩⟩
theorem Rd.srcR {w : World} {ao : Option Addr} {n cap : Nat} {l : List Ch} (h : Rd w (.slice ao n cap) l) : n = l.length ∧ Src w ao l.length (cellsL l) := by
  obtain ⟨ao', cap', hv, h1, h2, h3, h4⟩ := h
  simp at hv
  obtain ⟨rfl, rfl, rfl⟩ := hv
  refine ⟨rfl, ?_⟩
  rcases h4 with rfl | h4
  · cases ao with
    | none => exact .inl ⟨rfl, rfl, rfl⟩
    | some a => exact .inr ⟨a, rfl, fun j u hu => by simp [cellsL] at hu⟩
  · exact (Sl.src (l := l) (n := l.length) (cap := cap) ⟨_, _, rfl, .inr h4, h1, h2, h3⟩).2
end Go.Proofs.Ytehimacmjlehhaa.Batch
