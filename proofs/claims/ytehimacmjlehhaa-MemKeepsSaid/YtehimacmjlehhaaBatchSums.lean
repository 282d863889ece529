/-
  PACKAGE batch: sums: neighbours of one Port and Time added up, in memory of the call's own.
-/
import Derived.Test.YtehimacmjlehhaaBatchTo
import Derived.BigRegion
import Derived.RegionTactic
namespace Go.Proofs.Ytehimacmjlehhaa.Batch
open Go.RowKit Go.Sort
set_option linter.unusedVariables false

theorem below_grow (w : World) (q : Nat) (os : Array Obj) : Below w.heap.size w (grow (w.drewN q) os) :=
  ⟨rfl, rfl, rfl, by simp [grow, World.drewN], fun k hk => Go.Sort.heap_grow_old (w.drewN q) os hk⟩
theorem eqZ_true {x y : Ch} (h : Key x y) : (ordI x y == 0) = true := by rw [beq_iff_eq]; exact ordI_zero.2 h
theorem eqZ_false {x y : Ch} (h : ¬ Key x y) : (ordI x y == 0) = false := by rw [beq_eq_false_iff_ne]; exact fun e => h (ordI_zero.1 e)
theorem Own.below2 {w w' : World} {B base : Nat} {T : TypeId} {v : Value} {l : List Ch} (h : Own w base T v l) (hw : Below B w w') (hB : w.heap.size ≤ B) : Own w' base T v l := h.below (hw.mono hB)
theorem one_cells {w : World} {G : Nat} {p t d : Int} {T : TypeId} (h : w.heap[G]? = some (.cells #[.int .i64 p, .int .u64 t, .int .i64 d] T (0, 0))) : w.cell? ⟨G, 0, none⟩ = some (.int .i64 p) ∧ w.cell? ⟨G, 1, none⟩ = some (.int .u64 t) ∧ w.cell? ⟨G, 2, none⟩ = some (.int .i64 d) ∧ ∀ o, w.frozen? ⟨G, o, none⟩ = false := by
  refine ⟨?_, ?_, ?_, fun o => ?_⟩ <;> simp [World.cell?, World.frozen?, h]
theorem one_setD {w : World} {G : Nat} {p t d d' : Int} {T : TypeId} (h : w.heap[G]? = some (.cells #[.int .i64 p, .int .u64 t, .int .i64 d] T (0, 0))) : (w.setCell ⟨G, 2, none⟩ (.int .i64 d')).heap[G]? = some (.cells #[.int .i64 p, .int .u64 t, .int .i64 d'] T (0, 0)) :=
  heap_setCell_same w G 2 _ T _ h

theorem wrap64_wr (n : Int) : wrap64 n = Batch.wr n := by unfold wrap64 Batch.wr; rfl
theorem news3 (W : World) (p t d : Int) (T : TypeId) : ∀ j u, ([Value.int .i64 p, .int .u64 t, .int .i64 d])[j]? = some u → (W.alloc (.cells #[.int .i64 p, .int .u64 t, .int .i64 d] T)).cell? ((⟨W.heap.size, 0, none⟩ : Addr).add j) = some u := by
  intro j u hj
  match j, hj with
  | 0, hj => simp at hj; subst hj; simp [Addr.add]
  | 1, hj => simp at hj; subst hj; simp [Addr.add]
  | 2, hj => simp at hj; subst hj; simp [Addr.add]
theorem ret_two {v : Value} {n m : Int} (h : n = m) : Ending.returned (.tuple #[v, .int .i64 n]) = Ending.returned (.tuple #[v, .int .i64 m]) := by rw [h]

end Go.Proofs.Ytehimacmjlehhaa.Batch
