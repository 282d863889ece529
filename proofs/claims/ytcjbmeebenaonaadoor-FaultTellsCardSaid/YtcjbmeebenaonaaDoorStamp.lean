/-
  WHAT PACKAGE stamp's CALLS ANSWER, AND THE DOCUMENT's OWN PACKAGE's: Plus, Reaches: a contract each, for every two or three numbers of 64 bits.
-/
import Derived.Test.YtcjbmeebenaonaaDoorRows
import Derived.WalkKit
import Derived.WalkLawsBesides
import Derived.WalkSpells
import Derived.Lib.Hide
import Derived.Outline
namespace Go.Proofs.YtcjbmeebenaonaaDoor.Stamp
open Go.RowKit
set_option linter.unusedVariables false

/-- t and s; the greatest number where there is no such time. -/
def plusF (a b : Int) : Int := if 18446744073709551615 - a ≤ b then 18446744073709551615 else a + b
def reachB (a b c : Int) : Bool := decide (plusF a b ≠ 18446744073709551615 ∧ plusF a b ≤ c)
def U (a : Int) : Prop := 0 ≤ a ∧ a ≤ 18446744073709551615

theorem ret_int {k : IntKind} {a b : Int} (h : a = b) : Ending.returned (.int k a) = .returned (.int k b) := by rw [h]
theorem plusF_U {a b : Int} (ha : U a) (hb : U b) : U (plusF a b) := by unfold U plusF at *; split <;> omega

theorem plus_any (a b : Int) (ha : U a) (hb : U b) (w : World) :
    Calls Tryd.prog 8 #[.int .u64 a, .int .u64 b] w fun e w' => e = .returned (.int .u64 (plusF a b)) ∧ w = w' := by
  obtain ⟨ha1, ha2⟩ := ha
  obtain ⟨hb1, hb2⟩ := hb
  by_cases h : 18446744073709551615 - a ≤ b
  · go_enter Tryd.func8, Tryd.ntmps8
    go_wp2
    go_ret
    exact ⟨ret_int (by unfold plusF; rw [if_pos h]), rfl⟩
  · go_enter Tryd.func8, Tryd.ntmps8
    go_wp2
    go_ret
    exact ⟨ret_int (by unfold plusF; rw [if_neg (by omega)]), rfl⟩

theorem refPlus_any (a b : Int) (ha : U a) (hb : U b) (w : World) :
    Calls Tryd.prog 10 #[.int .u64 a, .int .u64 b] w fun e w' => e = .returned (.int .u64 (plusF a b)) ∧ w = w' := by
  obtain ⟨ha1, ha2⟩ := ha
  obtain ⟨hb1, hb2⟩ := hb
  by_cases h : 18446744073709551615 - a ≤ b
  · go_enter Tryd.func10, Tryd.ntmps10
    go_wp2
    go_ret
    exact ⟨ret_int (by unfold plusF; rw [if_pos h]), rfl⟩
  · go_enter Tryd.func10, Tryd.ntmps10
    go_wp2
    go_ret
    exact ⟨ret_int (by unfold plusF; rw [if_neg (by omega)]), rfl⟩

theorem reaches_any (a b c : Int) (ha : U a) (hb : U b) (hc : U c) (w : World) :
    Calls Tryd.prog 11 #[.int .u64 a, .int .u64 b, .int .u64 c] w fun e w' => e = .returned (.bool (reachB a b c)) ∧ w = w' := by
  have hp := plusF_U ha hb
  obtain ⟨hp1, hp2⟩ := hp
  by_cases h1 : plusF a b = 18446744073709551615
  · have e1 : (plusF a b != 18446744073709551615) = false := by rw [bne_eq_false_iff_eq]; exact h1
    have hr0 : reachB a b c = false := by unfold reachB; exact decide_eq_false (fun h => h.1 h1)
    have hr := Lib.hid hr0
    clear h1 hr0
    go_enter Tryd.func11, Tryd.ntmps11
    go_wp2_with (go_at_call 8; refine (plus_any a b ha hb _).mono ?_; rintro e w' ⟨rfl, rfl⟩)
    go_ret
    exact ⟨by rw [hr.out]; rfl, rfl⟩
  · have e1 : (plusF a b != 18446744073709551615) = true := by rw [bne_iff_ne]; exact h1
    have hr0 : reachB a b c = decide (plusF a b ≤ c) := by unfold reachB; exact decide_eq_decide.2 ⟨fun h => h.2, fun h => ⟨h1, h⟩⟩
    have hr := Lib.hid hr0
    clear h1 hr0
    go_enter Tryd.func11, Tryd.ntmps11
    go_wp2_with (go_at_call 8; refine (plus_any a b ha hb _).mono ?_; rintro e w' ⟨rfl, rfl⟩)
    go_ret
    exact ⟨by rw [hr.out]; rfl, rfl⟩

theorem refReaches_any (a b c : Int) (ha : U a) (hb : U b) (hc : U c) (w : World) :
    Calls Tryd.prog 12 #[.int .u64 a, .int .u64 b, .int .u64 c] w fun e w' => e = .returned (.bool (reachB a b c)) ∧ w = w' := by
  have hp := plusF_U ha hb
  obtain ⟨hp1, hp2⟩ := hp
  by_cases h1 : plusF a b = 18446744073709551615
  · have e1 : (plusF a b != 18446744073709551615) = false := by rw [bne_eq_false_iff_eq]; exact h1
    have hr0 : reachB a b c = false := by unfold reachB; exact decide_eq_false (fun h => h.1 h1)
    have hr := Lib.hid hr0
    clear h1 hr0
    go_enter Tryd.func12, Tryd.ntmps12
    go_wp2_with (go_at_call 10; refine (refPlus_any a b ha hb _).mono ?_; rintro e w' ⟨rfl, rfl⟩)
    go_ret
    exact ⟨by rw [hr.out]; rfl, rfl⟩
  · have e1 : (plusF a b != 18446744073709551615) = true := by rw [bne_iff_ne]; exact h1
    have hr0 : reachB a b c = decide (plusF a b ≤ c) := by unfold reachB; exact decide_eq_decide.2 ⟨fun h => h.2, fun h => ⟨h1, h⟩⟩
    have hr := Lib.hid hr0
    clear h1 hr0
    go_enter Tryd.func12, Tryd.ntmps12
    go_wp2_with (go_at_call 10; refine (refPlus_any a b ha hb _).mono ?_; rintro e w' ⟨rfl, rfl⟩)
    go_ret
    exact ⟨by rw [hr.out]; rfl, rfl⟩

theorem told_true (w : World) : Calls Tryd.prog 9 #[] w fun e w' => e = .returned (.bool true) ∧ w = w' := by
  go_enter Tryd.func9, Tryd.ntmps9
  go_wp2
  go_ret
  exact ⟨by kernel_rfl, rfl⟩
end Go.Proofs.YtcjbmeebenaonaaDoor.Stamp
