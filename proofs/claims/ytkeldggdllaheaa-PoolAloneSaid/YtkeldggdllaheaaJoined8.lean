/-
  PACKAGE pick, and the document's own: Who; two lists of numbers compared (Ints).
  PACKAGE pick, and the document's own: Turns.
-/
import Derived.Test.YtkeldggdllaheaaJoined7
import Derived.WalkKit
import Derived.WalkLawsBesides
import Derived.WalkSpells
import Derived.WalkSmall
import Derived.StillTactics
import Derived.Deep.QuietTactic
import Derived.BigQuiet
import Derived.Deep.LoopGhost
import Derived.Deep.RegionLaw
import Derived.IntWalk
import Derived.Outline
import Derived.Laws.OwnMore
import Derived.Laws.CopyOwn
import Derived.OwnWalk
namespace Go.Proofs.Ytkeldggdllaheaa.Pk
open Go.RowKit Rw
set_option linter.unusedVariables false

/-- A number that a program may hold. -/
def intK : Kd Int where
  k := 1
  cells x := [.int .i64 x]
  wf x := -9223372036854775808 ≤ x ∧ x ≤ 9223372036854775807
  len _ := rfl
  one x u hu := by simp at hu; subst hu; rfl
theorem intK_k : intK.k = 1 := rfl
theorem at1 {w : World} {b o : Nat} {g : Int} (h : AtK intK w b o g) : w.cell? ⟨b, o, none⟩ = some (.int .i64 g) := h 0 _ (by decide) rfl
/-- Whose pick a number is. -/
def whoF (p m : Int) : Int := if m < 1 then -1 else (p % 18446744073709551616) % m
theorem whoF_no {p m : Int} (h : m < 1) : whoF p m = -1 := if_pos h
theorem whoF_in {p m : Int} (h : 1 ≤ m) : 0 ≤ whoF p m ∧ whoF p m < m := by
  unfold whoF
  rw [if_neg (by omega)]
  exact ⟨Int.emod_nonneg _ (by omega), Int.emod_lt_of_pos _ (by omega)⟩
theorem u64_of (p : Int) : IntKind.u64.wrap p = p % 18446744073709551616 := by
  unfold IntKind.wrap
  simp [IntKind.bits, IntKind.signed]
theorem whoF_of {p m : Int} (h : 1 ≤ m) (h2 : m ≤ 9223372036854775807) : wrap64 ((IntKind.u64.wrap p).tmod m) = whoF p m := by
  have h3 := whoF_in (p := p) h
  rw [Int.tmod_eq_emod_of_nonneg (by rw [u64_of]; omega), u64_of]
  unfold whoF wrap64 at *
  rw [if_neg (by omega)] at *
  omega
theorem pbool {a b : Bool} (h : a = b) : Ending.returned (.bool a) = .returned (.bool b) := by rw [h]
theorem pint {k : IntKind} {a b : Int} (h : a = b) : Ending.returned (.int k a) = .returned (.int k b) := by rw [h]

/-! ### two lists of numbers compared -/
end Go.Proofs.Ytkeldggdllaheaa.Pk
namespace Go.Proofs.Ytkeldggdllaheaa.Pk
open Go.RowKit Rw
set_option linter.unusedVariables false

/-- 0, 1, .. m less 1, and again: c of them; turnW: the first i of these, the others 0. -/
def turnW (m : Int) (c i : Nat) : List Int := (List.range c).map fun j : Nat => if j < i then (j : Int) % m else 0
def turnsL (m : Int) (c : Nat) : List Int := (List.range c).map fun j : Nat => (j : Int) % m
theorem turnW_length (m : Int) (c i : Nat) : (turnW m c i).length = c := by unfold turnW; simp
theorem turnsL_length (m : Int) (c : Nat) : (turnsL m c).length = c := by unfold turnsL; simp
theorem turnW_all (m : Int) (c : Nat) : turnW m c c = turnsL m c := by
  unfold turnW turnsL
  apply List.map_congr_left
  intro j hj
  rw [if_pos (List.mem_range.1 hj)]
theorem turnW_none (m : Int) (c : Nat) : turnW m c 0 = List.replicate c 0 := by
  unfold turnW
  simp only [Nat.not_lt_zero, if_false]
  exact List.map_const' ▸ by simp
theorem turnW_at {m : Int} {c i j : Nat} (h : j < c) : (turnW m c i)[j]? = some (if j < i then (j : Int) % m else 0) := by unfold turnW; rw [List.getElem?_map, List.getElem?_range h]; rfl
theorem turnsL_at {m : Int} {c j : Nat} (h : j < c) : (turnsL m c)[j]? = some ((j : Int) % m) := by unfold turnsL; rw [List.getElem?_map, List.getElem?_range h]; rfl
theorem turnW_set (m : Int) {c i : Nat} (h : i < c) : (turnW m c i).set i ((i : Int) % m) = turnW m c (i + 1) := by
  apply List.ext_getElem?
  intro j
  by_cases hj : j < c
  · rw [List.getElem?_set, turnW_at hj, turnW_length, turnW_at hj]
    by_cases he : i = j
    · subst he
      rw [if_pos rfl, if_pos h, if_pos (Nat.lt_succ_self _)]
    · rw [if_neg he]
      by_cases hl : j < i
      · rw [if_pos hl, if_pos (by omega)]
      · rw [if_neg hl, if_neg (by omega)]
  · rw [List.getElem?_eq_none (by rw [List.length_set, turnW_length]; omega), List.getElem?_eq_none (by rw [turnW_length]; omega)]
theorem turnsL_succ (m : Int) (c : Nat) : turnsL m (c + 1) = turnsL m c ++ [(c : Int) % m] := by unfold turnsL; rw [List.range_succ]; simp
theorem turnsL_wf {m : Int} (c : Nat) (h : 1 ≤ m) (h2 : m ≤ 9223372036854775807) : ∀ x ∈ turnsL m c, intK.wf x := by
  intro x hx
  unfold turnsL at hx
  obtain ⟨j, _, rfl⟩ := List.mem_map.1 hx
  have h1 := Int.emod_nonneg (j : Int) (show m ≠ 0 by omega)
  have h3 := Int.emod_lt_of_pos (j : Int) (show 0 < m by omega)
  exact ⟨by omega, by omega⟩
theorem intflat (l : List Int) : intK.flat l = l.map (Value.int .i64) := by
  induction l with
  | nil => rfl
  | cons x r ih => show [Value.int .i64 x] ++ intK.flat r = _; rw [ih]; rfl
theorem own_set1 {w : World} {base a n cap : Nat} {Ty : TypeId} {T : List Int} (h : Own intK w base Ty (.slice (some ⟨a, 0, none⟩) n cap) T) {j : Nat} (hj : j < T.length) (y : Int) :
    Own intK (w.setCell ⟨a, j, none⟩ (.int .i64 y)) base Ty (.slice (some ⟨a, 0, none⟩) n cap) (T.set j y) := by
  unfold Own
  rw [List.length_set, intflat, List.map_set, ← intflat]
  exact row_set h (by show j < T.length * 1; omega) _
theorem infoIn : (Try.prog.info? 3).map (fun i => (i.zero, i.size, i.bytes)) = some (some (.int .i64 0), 1, 8) := by kernel_rfl
theorem info_partsP {P : Program} {t : TypeId} {z : Value} {size bytes : Nat} (h : (P.info? t).map (fun i => (i.zero, i.size, i.bytes)) = some (some z, size, bytes)) : ∃ i, P.info? t = some i ∧ i.zero = some z ∧ i.size = size ∧ i.bytes = bytes := by
  obtain ⟨i, hi, hz⟩ := Option.map_eq_some_iff.1 h
  simp only [Prod.mk.injEq] at hz
  exact ⟨i, hi, hz⟩
theorem made_ints (n : Nat) : (madeCells (Value.int IntKind.i64 0).cells (n * 1)).toList = intK.flat (List.replicate n 0) := by
  rw [intflat, Nat.mul_one]
  apply List.ext_getElem
  · simp [size_madeCells]
  · intro i h1 h2
    simp [madeCells, Nat.mod_one, Value.cells]

/-! ### the document's own -/
end Go.Proofs.Ytkeldggdllaheaa.Pk
