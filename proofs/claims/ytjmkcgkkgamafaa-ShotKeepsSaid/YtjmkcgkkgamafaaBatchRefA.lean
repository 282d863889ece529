/-
  PACKAGE marchlandref03: within, before.
-/
import Derived.Test.YtjmkcgkkgamafaaJoined3
import Derived.Test.YtjmkcgkkgamafaaBatchRefMath
namespace Go.Proofs.Ytjmkcgkkgamafaa.Batch
open Go.RowKit
set_option linter.unusedVariables false

theorem within_any (d : Int) (w : World) : Calls Try.prog 97 #[.int .i64 d] w fun e w' => e = .returned (.bool (!overB d)) ∧ w = w' := by
  by_cases h1 : d < -576460752303423488
  · have hr := Lib.hid (show overB d = true from decide_eq_true (.inl h1))
    have g1 : decide (-576460752303423488 ≤ d) = false := decide_eq_false (by omega)
    go_enter Try.func97, Try.ntmps97
    go_wp2
    go_ret
    exact ⟨by rw [hr.out]; rfl, rfl⟩
  · by_cases h2 : 576460752303423488 < d
    · have hr := Lib.hid (show overB d = true from decide_eq_true (.inr h2))
      have g1 : decide (-576460752303423488 ≤ d) = true := decide_eq_true (by omega)
      have g2 : decide (d ≤ 576460752303423488) = false := decide_eq_false (by omega)
      go_enter Try.func97, Try.ntmps97
      go_wp2
      go_ret
      exact ⟨by rw [hr.out]; rfl, rfl⟩
    · have hr := Lib.hid (show overB d = false from decide_eq_false (fun h => h.elim h1 h2))
      have g1 : decide (-576460752303423488 ≤ d) = true := decide_eq_true (by omega)
      have g2 : decide (d ≤ 576460752303423488) = true := decide_eq_true (by omega)
      go_enter Try.func97, Try.ntmps97
      go_wp2
      go_ret
      exact ⟨by rw [hr.out]; rfl, rfl⟩

def ltB (x y : Ch) : Bool := decide (Lt x y)
theorem ltB_true {x y : Ch} (h : Lt x y) : ltB x y = true := decide_eq_true h
theorem ltB_false {x y : Ch} (h : ¬ Lt x y) : ltB x y = false := decide_eq_false h
set_option maxRecDepth 100000 in
set_option maxHeartbeats 2000000 in
theorem before_any (x y : Ch) (w : World) : Calls Try.prog 96 #[x.agg, y.agg] w fun e w' => e = .returned (.bool (ltB x y)) ∧ Below w.heap.size w w' := by
  obtain ⟨p, t, d⟩ := x
  obtain ⟨p', t', d'⟩ := y
  have hb : Below w.heap.size w ((w.alloc (.cells #[.int .i64 p, .int .u64 t, .int .i64 d] 82)).alloc (.cells #[.int .i64 p', .int .u64 t', .int .i64 d'] 82)) := ((Below.refl _ _).alloc (Nat.le_refl _) _).alloc (by simp) _
  by_cases h1 : p < p'
  · have hr := Lib.hid (ltB_true (x := ⟨p, t, d⟩) (y := ⟨p', t', d'⟩) (.inl h1))
    go_enter Try.func96, Try.ntmps96
    go_wp2
    go_ret
    exact ⟨by rw [hr.out]; rfl, hb⟩
  · by_cases h2 : p = p'
    · have e2 : (p == p') = true := by rw [beq_iff_eq]; exact h2
      by_cases h3 : t < t'
      · have hr := Lib.hid (ltB_true (x := ⟨p, t, d⟩) (y := ⟨p', t', d'⟩) (.inr ⟨h2, h3⟩))
        clear h2
        go_enter Try.func96, Try.ntmps96
        go_wp2
        go_ret
        exact ⟨by rw [hr.out]; rfl, hb⟩
      · have hr := Lib.hid (ltB_false (x := ⟨p, t, d⟩) (y := ⟨p', t', d'⟩) (fun h => h.elim h1 fun h => h3 h.2))
        clear h2
        go_enter Try.func96, Try.ntmps96
        go_wp2
        go_ret
        exact ⟨by rw [hr.out]; rfl, hb⟩
    · have e2 : (p == p') = false := by rw [beq_eq_false_iff_ne]; exact h2
      have hr := Lib.hid (ltB_false (x := ⟨p, t, d⟩) (y := ⟨p', t', d'⟩) (fun h => h.elim h1 fun h => h2 h.1))
      clear h2
      go_enter Try.func96, Try.ntmps96
      go_wp2
      go_ret
      exact ⟨by rw [hr.out]; rfl, hb⟩
end Go.Proofs.Ytjmkcgkkgamafaa.Batch
