/-
  WHAT PACKAGE stamp's CALLS ANSWER, AND THE DOCUMENT's OWN PACKAGE's: Plus, Reaches: a contract each, for every two or three numbers of 64 bits.
-/
import Derived.Test.YtdbaacalfbbdiaaGreatDoorRows
import Derived.WalkKit
import Derived.WalkLawsBesides
import Derived.WalkSpells
import Derived.Lib.Hide
import Derived.Outline
namespace Go.Proofs.YtdbaacalfbbdiaaGreatDoor.Stamp
open Go.RowKit
set_option linter.unusedVariables false

/-- t and s; the greatest number where there is no such time. -/
def plusF (a b : Int) : Int := if 18446744073709551615 - a ≤ b then 18446744073709551615 else a + b
def reachB (a b c : Int) : Bool := decide (plusF a b ≠ 18446744073709551615 ∧ plusF a b ≤ c)
def U (a : Int) : Prop := 0 ≤ a ∧ a ≤ 18446744073709551615

theorem ret_int {k : IntKind} {a b : Int} (h : a = b) : Ending.returned (.int k a) = .returned (.int k b) := by rw [h]
theorem plusF_U {a b : Int} (ha : U a) (hb : U b) : U (plusF a b) := by unfold U plusF at *; split <;> omega

theorem plus_any (a b : Int) (ha : U a) (hb : U b) (w : World) :
    Calls Tryz.prog 106 #[.int .u64 a, .int .u64 b] w fun e w' => e = .returned (.int .u64 (plusF a b)) ∧ w = w' := by
  obtain ⟨ha1, ha2⟩ := ha
  obtain ⟨hb1, hb2⟩ := hb
  by_cases h : 18446744073709551615 - a ≤ b
  · go_enter Tryz.func106, Tryz.ntmps106
    go_wp2
    go_ret
    exact ⟨ret_int (by unfold plusF; rw [if_pos h]), rfl⟩
  · go_enter Tryz.func106, Tryz.ntmps106
    go_wp2
    go_ret
    exact ⟨ret_int (by unfold plusF; rw [if_neg (by omega)]), rfl⟩

theorem refPlus_any (a b : Int) (ha : U a) (hb : U b) (w : World) :
    Calls Tryz.prog 90 #[.int .u64 a, .int .u64 b] w fun e w' => e = .returned (.int .u64 (plusF a b)) ∧ w = w' := by
  obtain ⟨ha1, ha2⟩ := ha
  obtain ⟨hb1, hb2⟩ := hb
  by_cases h : 18446744073709551615 - a ≤ b
  · go_enter Tryz.func90, Tryz.ntmps90
    go_wp2
    go_ret
    exact ⟨ret_int (by unfold plusF; rw [if_pos h]), rfl⟩
  · go_enter Tryz.func90, Tryz.ntmps90
    go_wp2
    go_ret
    exact ⟨ret_int (by unfold plusF; rw [if_neg (by omega)]), rfl⟩

end Go.Proofs.YtdbaacalfbbdiaaGreatDoor.Stamp
