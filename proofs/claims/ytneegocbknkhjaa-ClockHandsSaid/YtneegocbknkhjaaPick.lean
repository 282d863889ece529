/-
  PACKAGE pick, and the document's own: Who; two lists of numbers compared (Ints).
-/
import Derived.Test.YtneegocbknkhjaaRowRd
import Derived.WalkKit
import Derived.WalkLawsBesides
import Derived.WalkSpells
import Derived.WalkSmall
import Derived.StillTactics
import Derived.Deep.QuietTactic
import Derived.BigQuiet
import Derived.Deep.LoopGhost
import Derived.Deep.RegionLaw
import Derived.IntWalk
import Derived.Outline
namespace Go.Proofs.Ytneegocbknkhjaa.Pk
open Go.RowKit Rw
set_option linter.unusedVariables false

/-- A number that a program may hold. -/
def intK : Kd Int where
  k := 1
  cells x := [.int .i64 x]
  wf x := -9223372036854775808 ≤ x ∧ x ≤ 9223372036854775807
  len _ := rfl
  one x u hu := by simp at hu; subst hu; rfl
theorem intK_k : intK.k = 1 := rfl
theorem at1 {w : World} {b o : Nat} {g : Int} (h : AtK intK w b o g) : w.cell? ⟨b, o, none⟩ = some (.int .i64 g) := h 0 _ (by decide) rfl
/-- Whose pick a number is. -/
def whoF (p m : Int) : Int := if m < 1 then -1 else (p % 18446744073709551616) % m
theorem whoF_no {p m : Int} (h : m < 1) : whoF p m = -1 := if_pos h
theorem whoF_in {p m : Int} (h : 1 ≤ m) : 0 ≤ whoF p m ∧ whoF p m < m := by
  unfold whoF
  rw [if_neg (by omega)]
  exact ⟨Int.emod_nonneg _ (by omega), Int.emod_lt_of_pos _ (by omega)⟩
theorem u64_of (p : Int) : IntKind.u64.wrap p = p % 18446744073709551616 := by
  unfold IntKind.wrap
  simp [IntKind.bits, IntKind.signed]
theorem whoF_of {p m : Int} (h : 1 ≤ m) (h2 : m ≤ 9223372036854775807) : wrap64 ((IntKind.u64.wrap p).tmod m) = whoF p m := by
  have h3 := whoF_in (p := p) h
  rw [Int.tmod_eq_emod_of_nonneg (by rw [u64_of]; omega), u64_of]
  unfold whoF wrap64 at *
  rw [if_neg (by omega)] at *
  omega
theorem pbool {a b : Bool} (h : a = b) : Ending.returned (.bool a) = .returned (.bool b) := by rw [h]
theorem pint {k : IntKind} {a b : Int} (h : a = b) : Ending.returned (.int k a) = .returned (.int k b) := by rw [h]

/-! ### two lists of numbers compared -/
end Go.Proofs.Ytneegocbknkhjaa.Pk
