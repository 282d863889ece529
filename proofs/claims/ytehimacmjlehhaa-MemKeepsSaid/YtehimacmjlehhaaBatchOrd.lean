/-
  PACKAGE batch: which of two Changes stands ahead: by Port, then by Time.
-/
import Derived.Test.YtehimacmjlehhaaBatchCmp
import Derived.Sort.Grow
import Derived.Deep.RegionHeld3
import Derived.Lib.AppendIntMem
namespace Go.Proofs.Ytehimacmjlehhaa.Batch
open Go.RowKit Go.Sort
set_option linter.unusedVariables false

theorem cell_new2 (W : World) (n : Nat) (x y : Value) (T : TypeId) (hn : W.heap.size = n) : (W.alloc (.cells #[x, y] T)).drew.cell? ⟨n, 0, none⟩ = some x ∧ (W.alloc (.cells #[x, y] T)).drew.cell? ⟨n, 1, none⟩ = some y := by
  subst hn
  exact ⟨by simp, by simp⟩
theorem new2 (w : World) (A B : Obj) (x y : Value) (T : TypeId) : ((((w.alloc A).alloc B).alloc (.cells #[x, y] T)).drew.cell? ⟨w.heap.size + 1 + 1, 0, none⟩ = some x) ∧ ((((w.alloc A).alloc B).alloc (.cells #[x, y] T)).drew.cell? ⟨w.heap.size + 1 + 1, 1, none⟩ = some y) :=
  cell_new2 _ _ _ _ _ (by simp)
theorem grow3 (w : World) (A B C : Obj) : ∃ q os, (((w.alloc A).alloc B).alloc C).drew = grow (w.drewN q) os := by
  refine ⟨1, #[A] ++ #[B] ++ #[C], ?_⟩
  rw [alloc_eq_grow, alloc_eq_grow, alloc_eq_grow, grow_grow, grow_grow]
  rfl
def orI (a b : Int) : Int := if a = 0 then b else a
end Go.Proofs.Ytehimacmjlehhaa.Batch
