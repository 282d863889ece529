/-
  PACKAGE batch: the library's Clone and Equal at Changes.
-/
import Derived.Test.YtjmkcgkkgamafaaJoined3
import Derived.Test.YtjmkcgkkgamafaaShelf
import Derived.Test.YtjmkcgkkgamafaaBatchSumsMath
import Derived.Laws.StructEq
import Derived.Shelf.SlicesE.Equal
namespace Go.Proofs.Ytjmkcgkkgamafaa.Batch
open Go.RowKit Go.Shelf Go.Lib
set_option linter.unusedVariables false

theorem infoCh : (Try.prog.info? 85).map (fun i => (i.zero, i.size, i.bytes)) = some (some (.agg #[.int .i64 0, .int .u64 0, .int .i64 0]), 3, 24) := by kernel_rfl
theorem infoRf : (Try.prog.info? 82).map (fun i => (i.zero, i.size, i.bytes)) = some (some (.agg #[.int .i64 0, .int .u64 0, .int .i64 0]), 3, 24) := by kernel_rfl
theorem cloneB_any {w : World} {v : Value} {l : List Ch} (h : Sl w v l) (hl : l.length ≤ 100000) :
    Calls Try.prog 64 #[v] w fun e w' => ∃ v', e = .returned v' ∧ Own w' w.heap.size 85 v' l ∧ Below w.heap.size w w' := by
  obtain ⟨ao, cap, rfl, h1, _⟩ := h
  obtain ⟨i0, hi, hz0, hz1, hz2⟩ := info_parts infoCh
  rcases h1 with ⟨rfl, rfl⟩ | ⟨b, off, rfl, h1⟩
  · exact (AnyE.slices_Clone_nil Try.cloneB 0 cap w).mono fun e w' ⟨he, hw⟩ => ⟨_, he, by rw [hw]; exact Own.nil _ _ _, by rw [hw]; exact Below.refl _ _⟩
  · exact (AnyE.slices_Clone Try.cloneB i0 (.agg #[.int .i64 0, .int .u64 0, .int .i64 0]) 3 24 hi hz0 hz1 hz2 rfl (by omega) Try.sizeOf85 b off l.length cap (cellsL l) w (cellsL_length l) (by unfold maxLen; omega) (by omega) (cells_of_at h1) (cellsL_one l)).mono
      fun e w' ⟨v', he, ho, _, hb⟩ => ⟨v', he, ho, hb⟩

def eqCh (x y : Ch) : Bool := x.p == y.p && x.t == y.t && x.d == y.d
theorem eqCh_iff (x y : Ch) : eqCh x y = true ↔ x = y := by
  obtain ⟨a, b, c⟩ := x
  obtain ⟨a', b', c'⟩ := y
  unfold eqCh
  simp only [Bool.and_eq_true, beq_iff_eq, Ch.mk.injEq, and_assoc]
theorem neqCh : NeqAt Try.prog 85 (fun x : Ch => .agg (Ch.cells x).toArray) eqCh := by
  refine ⟨fun x y w => ?_, GuardAt.agg _ (by kernel_rfl)⟩
  have u3 := Try.underlying3
  have a3 := Try.isAgg3
  have z3 := Try.sizeOf3
  have u2 := Try.underlying2
  have a2 := Try.isAgg2
  have z2 := Try.sizeOf2
  have u42 := Try.underlying53
  have a42 := Try.isAgg53
  have z42 := Try.sizeOf53
  have hS : Try.prog.underlying 85 = some (.struct (Try.prog.fieldsOf 85)) := by kernel_rfl
  have hp : Try.prog.stoodInHeld 85 = false := by kernel_rfl
  simp only [Ch.cells]
  rw [run_neq_struct, show (10000 : Nat) = 9999 + 1 from rfl, run_equalIn_agg w 9999 85 _ _ hS hp]
  simp only [Program.fieldsOf, Try.underlying85]
  go_simp
  unfold eqCh
  by_cases h1 : x.p = y.p <;> by_cases h2 : x.t = y.t <;> by_cases h3 : x.d = y.d <;> simp [h1, h2, h3]
end Go.Proofs.Ytjmkcgkkgamafaa.Batch
