/-
  DERIVED: THE SHELF's CONTRACTS AT THIS DUMP, IN PLAIN WORDS (tools/lay-plain.mjs out of 'TryShelf.lean', which tools/lay-shelf.mjs wrote): THE SAME DECLARATIONS UNDER THE SAME NAMES: 'import', 'namespace', 'open', 'def', 'theorem' AND NOTHING ELSE: no command of the shelf's: FOR A HAND-IN. Each laying: the table of numbers ('.._ren') and one theorem, a field a fact of the dump's own or the kernel's comparison; each contract: ONE APPLICATION.
  PACKAGE batch: the library's Clone and Equal at Changes.
  PACKAGE batch: the library's Equal at Changes; Same.
-/
import Derived.Shelf.SlicesE.Clone
import Derived.Test.YtkeldggdllaheaaProg
import Derived.Test.YtkeldggdllaheaaJoined1
import Derived.Test.YtkeldggdllaheaaBatchSumsMath
import Derived.Laws.StructEq
import Derived.Shelf.SlicesE.Equal
import Derived.LoopTactic
namespace Go.Proofs
open Go.Shelf
def Try.cloneB_ren : Go.Shelf.Ren := ⟨fun | 41 => 37 | n => n, fun | 22 => 42 | 23 => 68 | 4 => 4 | n => n, fun | n => n⟩
theorem Try.cloneB : Go.Proofs.SlLaysE0.n41 Try.prog Try.cloneB_ren := {
  mixed := by kernel_rfl
  f41 := ⟨Try.f37.name, by decide, Try.func37.trans (congrArg some (by kernel_rfl))⟩
  t4 := Try.underlying4
  a4 := Try.isAgg4
  z4 := Try.sizeOf4
  v4 := Try.zeroValue4
  t22 := Try.underlying42
  a22 := Try.isAgg42
  z22 := Try.sizeOf42
  v22 := Try.zeroValue42 }
def Try.cloneEv_ren : Go.Shelf.Ren := ⟨fun | 41 => 47 | n => n, fun | 22 => 61 | 23 => 107 | 4 => 4 | n => n, fun | n => n⟩
theorem Try.cloneEv : Go.Proofs.SlLaysE0.n41 Try.prog Try.cloneEv_ren := {
  mixed := by kernel_rfl
  f41 := ⟨Try.f47.name, by decide, Try.func47.trans (congrArg some (by kernel_rfl))⟩
  t4 := Try.underlying4
  a4 := Try.isAgg4
  z4 := Try.sizeOf4
  v4 := Try.zeroValue4
  t22 := Try.underlying61
  a22 := Try.isAgg61
  z22 := Try.sizeOf61
  v22 := Try.zeroValue61 }
end Go.Proofs
namespace Go.Proofs.Ytkeldggdllaheaa.Batch
open Go.RowKit Go.Shelf Go.Lib
set_option linter.unusedVariables false

theorem infoCh : (Try.prog.info? 68).map (fun i => (i.zero, i.size, i.bytes)) = some (some (.agg #[.int .i64 0, .int .u64 0, .int .i64 0]), 3, 24) := by kernel_rfl
theorem infoRf : (Try.prog.info? 65).map (fun i => (i.zero, i.size, i.bytes)) = some (some (.agg #[.int .i64 0, .int .u64 0, .int .i64 0]), 3, 24) := by kernel_rfl
theorem cloneB_any {w : World} {v : Value} {l : List Ch} (h : Sl w v l) (hl : l.length ≤ 100000) :
    Calls Try.prog 37 #[v] w fun e w' => ∃ v', e = .returned v' ∧ Own w' w.heap.size 68 v' l ∧ Below w.heap.size w w' := by
  obtain ⟨ao, cap, rfl, h1, _⟩ := h
  obtain ⟨i0, hi, hz0, hz1, hz2⟩ := info_parts infoCh
  rcases h1 with ⟨rfl, rfl⟩ | ⟨b, off, rfl, h1⟩
  · exact (AnyE.slices_Clone_nil Try.cloneB 0 cap w).mono fun e w' ⟨he, hw⟩ => ⟨_, he, by rw [hw]; exact Own.nil _ _ _, by rw [hw]; exact Below.refl _ _⟩
  · exact (AnyE.slices_Clone Try.cloneB i0 (.agg #[.int .i64 0, .int .u64 0, .int .i64 0]) 3 24 hi hz0 hz1 hz2 rfl (by omega) Try.sizeOf68 b off l.length cap (cellsL l) w (cellsL_length l) (by unfold maxLen; omega) (by omega) (cells_of_at h1) (cellsL_one l)).mono
      fun e w' ⟨v', he, ho, _, hb⟩ => ⟨v', he, ho, hb⟩

def eqCh (x y : Ch) : Bool := x.p == y.p && x.t == y.t && x.d == y.d
theorem eqCh_iff (x y : Ch) : eqCh x y = true ↔ x = y := by
  obtain ⟨a, b, c⟩ := x
  obtain ⟨a', b', c'⟩ := y
  unfold eqCh
  simp only [Bool.and_eq_true, beq_iff_eq, Ch.mk.injEq, and_assoc]
theorem neqCh : NeqAt Try.prog 68 (fun x : Ch => .agg (Ch.cells x).toArray) eqCh := by
  refine ⟨fun x y w => ?_, GuardAt.agg _ (by kernel_rfl)⟩
  have u3 := Try.underlying3
  have a3 := Try.isAgg3
  have z3 := Try.sizeOf3
  have u2 := Try.underlying2
  have a2 := Try.isAgg2
  have z2 := Try.sizeOf2
  have u42 := Try.underlying23
  have a42 := Try.isAgg23
  have z42 := Try.sizeOf23
  have hS : Try.prog.underlying 68 = some (.struct (Try.prog.fieldsOf 68)) := by kernel_rfl
  have hp : Try.prog.stoodInHeld 68 = false := by kernel_rfl
  simp only [Ch.cells]
  rw [run_neq_struct, show (10000 : Nat) = 9999 + 1 from rfl, run_equalIn_agg w 9999 68 _ _ hS hp]
  simp only [Program.fieldsOf, Try.underlying68]
  go_simp
  unfold eqCh
  by_cases h1 : x.p = y.p <;> by_cases h2 : x.t = y.t <;> by_cases h3 : x.d = y.d <;> simp [h1, h2, h3]
end Go.Proofs.Ytkeldggdllaheaa.Batch
namespace Go.Proofs.Ytkeldggdllaheaa.Batch
open Go.RowKit Go.Shelf Go.Lib
set_option linter.unusedVariables false

def sameB (a b : List Ch) : Bool := decide (a.length = b.length) && (List.range a.length).all fun i => eqCh a[i]! b[i]!
theorem eqCh_refl (x : Ch) : eqCh x x = true := (eqCh_iff x x).2 rfl
theorem allEq_iff : ∀ (a b : List Ch), Lib.allEq eqCh a b = true ↔ a = b
  | [], [] => by simp [Lib.allEq]
  | [], y :: b => by simp [Lib.allEq]
  | x :: a, [] => by simp [Lib.allEq]
  | x :: a, y :: b => by simp [Lib.allEq, eqCh_iff, allEq_iff a b]
noncomputable def eqL (a b : List Ch) : Bool := Lib.allEq eqCh a b
theorem eqL_iff (a b : List Ch) : eqL a b = true ↔ a = b := allEq_iff a b
theorem eqL_self (a : List Ch) : eqL a a = true := (eqL_iff a a).2 rfl
theorem eqL_false {a b : List Ch} (h : a ≠ b) : eqL a b = false := by
  cases e : eqL a b
  · rfl
  · exact absurd ((eqL_iff a b).1 e) h

end Go.Proofs.Ytkeldggdllaheaa.Batch
