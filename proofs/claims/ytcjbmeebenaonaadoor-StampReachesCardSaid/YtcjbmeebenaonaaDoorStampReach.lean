/-
  THE WALK OF THE LAW StampReaches: it answers true at every four numbers of 64 bits; new blocks at most.
-/
import Derived.Test.YtcjbmeebenaonaaDoorStampLaws
import Derived.Deep.QuietTactic
import Derived.BigQuiet
namespace Go.Proofs.YtcjbmeebenaonaaDoor.Stamp
open Go.RowKit
set_option linter.unusedVariables false

theorem reach_later {a b c d : Int} (ha : U a) (hb : U b) (hc : U c) (hd : U d) (h : reachB a b c = true) : reachB a b (plusF c d) = true := by
  unfold reachB at *
  have hp := plusF_U ha hb
  have := (plusF_left hc hd).1
  generalize plusF a b = x at *
  generalize plusF c d = y at *
  simp only [decide_eq_true_eq] at *
  exact ⟨h.1, Int.le_trans h.2 this⟩
theorem reach_less {a b c d : Int} (ha : U a) (hb : U b) (hc : U c) (hd : U d) (h : reachB a (plusF b d) c = true) : reachB a b c = true := by
  unfold reachB plusF U at *
  simp only [decide_eq_true_eq] at *
  repeat' split at h
  all_goals (repeat' split)
  all_goals omega

set_option maxHeartbeats 1000000 in
theorem stampReaches_any (a b c d : Int) (ha : U a) (hb : U b) (hc : U c) (hd : U d) (w : World) :
    Calls Tryd.prog 5 #[.agg #[.int .u64 a, .int .u64 b, .int .u64 c, .int .u64 d]] w fun e w' => e = .returned (.bool true) ∧ Below w.heap.size w w' := by
  have hcd := plusF_U hc hd
  have hbd := plusF_U hb hd
  have hcases : (reachB a b c = true ∧ (plusF c d != 18446744073709551615) = true ∧ reachB a b (plusF c d) = true ∧ reachB a (plusF b d) c = true) ∨ (reachB a b c = true ∧ (plusF c d != 18446744073709551615) = true ∧ reachB a b (plusF c d) = true ∧ reachB a (plusF b d) c = false) ∨ (reachB a b c = true ∧ (plusF c d != 18446744073709551615) = false ∧ reachB a b (plusF c d) = true ∧ reachB a (plusF b d) c = true) ∨ (reachB a b c = true ∧ (plusF c d != 18446744073709551615) = false ∧ reachB a b (plusF c d) = true ∧ reachB a (plusF b d) c = false) ∨ (reachB a b c = false ∧ reachB a (plusF b d) c = false) := by
    have l1 := reach_later (a := a) (b := b) (c := c) (d := d) ha hb hc hd
    have l2 := reach_less (a := a) (b := b) (c := c) (d := d) ha hb hc hd
    cases h1 : reachB a b c <;> cases h3 : reachB a (plusF b d) c <;> cases h2 : (plusF c d != 18446744073709551615) <;> simp_all
  rcases hcases with ⟨h1, h2, h4, h3⟩ | ⟨h1, h2, h4, h3⟩ | ⟨h1, h2, h4, h3⟩ | ⟨h1, h2, h4, h3⟩ | ⟨h1, h3⟩
  all_goals
    go_enter Tryd.func5, Tryd.ntmps5
    go_wp2
    go_quiet (fail)
    go_wp2_with (first
      | (go_at_call 9; refine (told_true _).mono ?_; rintro e w' ⟨rfl, rfl⟩)
      | (go_at_call 11; refine (reaches_any _ _ _ (by assumption) (by assumption) (by assumption) _).mono ?_; rintro e w' ⟨rfl, rfl⟩)
      | (go_at_call 8; refine (plus_any _ _ (by assumption) (by assumption) _).mono ?_; rintro e w' ⟨rfl, rfl⟩))
    go_ret
    exact ⟨rfl, below_drewN ((Below.refl _ _).alloc (Nat.le_refl _) _) _⟩
end Go.Proofs.YtcjbmeebenaonaaDoor.Stamp
