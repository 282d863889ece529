
/-
  PACKAGE batch: a Change alone: is its count too great, may it be, which of two stands ahead.
-/
import Derived.Test.YtkcmeklgnbejiaaRows
import Derived.Test.YtkcmeklgnbejiaaBatchMem
import Derived.WalkKit
import Derived.WalkLawsBesides
import Derived.WalkSpells
import Derived.WalkSmall
import Derived.StillTactics
import Derived.StillTailTactics
import Derived.Lib.Hide
import Derived.Lib.AtoiErrMem
import Derived.Outline
namespace Go.Proofs.Ytkcmeklgnbejiaa.Batch
open Go.RowKit
set_option linter.unusedVariables false

theorem over_any (d : Int) (w : World) : Calls Try.prog 64 #[.int .i64 d] w fun e w' => e = .returned (.bool (overB d)) ∧ w = w' := by
  by_cases h1 : d < -576460752303423488
  · have hr := Lib.hid (show overB d = true from decide_eq_true (.inl h1))
    go_enter Try.func64, Try.ntmps64
    go_wp2
    go_ret
    exact ⟨by rw [hr.out]; rfl, rfl⟩
  · by_cases h2 : 576460752303423488 < d
    · have hr := Lib.hid (show overB d = true from decide_eq_true (.inr h2))
      go_enter Try.func64, Try.ntmps64
      go_wp2
      go_ret
      exact ⟨by rw [hr.out]; rfl, rfl⟩
    · have hr := Lib.hid (show overB d = false from decide_eq_false (fun h => h.elim h1 h2))
      go_enter Try.func64, Try.ntmps64
      go_wp2
      go_ret
      exact ⟨by rw [hr.out]; rfl, rfl⟩

theorem wrong_any (x : Ch) (w : World) : Calls Try.prog 63 #[x.agg] w fun e w' => e = .returned (.int .i64 (wrongN x)) ∧ Below w.heap.size w w' := by
  obtain ⟨p, t, d⟩ := x
  have hb : Below w.heap.size w (w.alloc (.cells #[.int .i64 p, .int .u64 t, .int .i64 d] 46)) := (Below.refl _ _).alloc (Nat.le_refl _) _
  by_cases h1 : p < 0
  · have hr := Lib.hid (show wrongN ⟨p, t, d⟩ = 2 from if_pos (.inl h1))
    go_enter Try.func63, Try.ntmps63
    go_wp2
    go_ret
    exact ⟨by rw [hr.out]; rfl, hb⟩
  · by_cases h2 : 64 ≤ p
    · have hr := Lib.hid (show wrongN ⟨p, t, d⟩ = 2 from if_pos (.inr h2))
      go_enter Try.func63, Try.ntmps63
      go_wp2
      go_ret
      exact ⟨by rw [hr.out]; rfl, hb⟩
    · by_cases h3 : t = 18446744073709551615
      · have hr := Lib.hid (show wrongN ⟨p, t, d⟩ = 1 by unfold wrongN; rw [if_neg (fun h => h.elim h1 h2), if_pos h3])
        have e3 : (t == 18446744073709551615) = true := by rw [beq_iff_eq]; exact h3
        clear h3
        go_enter Try.func63, Try.ntmps63
        go_wp2
        go_ret
        exact ⟨by rw [hr.out]; rfl, hb⟩
      · have e3 : (t == 18446744073709551615) = false := by rw [beq_eq_false_iff_ne]; exact h3
        cases h4 : overB d
        · have hr := Lib.hid (show wrongN ⟨p, t, d⟩ = 0 by unfold wrongN; rw [if_neg (fun h => h.elim h1 h2), if_neg h3, if_neg (by show ¬ overB d = true; rw [h4]; decide)])
          clear h3
          go_enter Try.func63, Try.ntmps63
          go_wp2_with (go_at_call 64; refine (over_any d _).mono ?_; rintro e w' ⟨rfl, rfl⟩)
          go_ret
          exact ⟨by rw [hr.out]; rfl, hb⟩
        · have hr := Lib.hid (show wrongN ⟨p, t, d⟩ = 10 by unfold wrongN; rw [if_neg (fun h => h.elim h1 h2), if_neg h3, if_pos (show overB d = true from h4)])
          clear h3
          go_enter Try.func63, Try.ntmps63
          go_wp2_with (go_at_call 64; refine (over_any d _).mono ?_; rintro e w' ⟨rfl, rfl⟩)
          go_ret
          exact ⟨by rw [hr.out]; rfl, hb⟩

theorem cmpInt_any (a b : Int) (w : World) : Calls Try.prog 62 #[.int .i64 a, .int .i64 b] w fun e w' => e = .returned (.int .i64 (cmpI a b)) ∧ w = w' := by
  by_cases h1 : a < b
  · have hr := Lib.hid (show cmpI a b = -1 from if_pos h1)
    go_enter Try.func62, Try.ntmps62
    go_wp2
    go_ret
    exact ⟨by rw [hr.out]; rfl, rfl⟩
  · by_cases h2 : b < a
    · have hr := Lib.hid (show cmpI a b = 1 by unfold cmpI; rw [if_neg h1, if_pos h2])
      go_enter Try.func62, Try.ntmps62
      go_wp2
      go_ret
      exact ⟨by rw [hr.out]; rfl, rfl⟩
    · have hr := Lib.hid (show cmpI a b = 0 by unfold cmpI; rw [if_neg h1, if_neg h2])
      go_enter Try.func62, Try.ntmps62
      go_wp2
      go_ret
      exact ⟨by rw [hr.out]; rfl, rfl⟩
theorem cmpU_any (a b : Int) (w : World) : Calls Try.prog 66 #[.int .u64 a, .int .u64 b] w fun e w' => e = .returned (.int .i64 (cmpI a b)) ∧ w = w' := by
  by_cases h1 : a < b
  · have hr := Lib.hid (show cmpI a b = -1 from if_pos h1)
    go_enter Try.func66, Try.ntmps66
    go_wp2
    go_ret
    exact ⟨by rw [hr.out]; rfl, rfl⟩
  · by_cases h2 : b < a
    · have hr := Lib.hid (show cmpI a b = 1 by unfold cmpI; rw [if_neg h1, if_pos h2])
      go_enter Try.func66, Try.ntmps66
      go_wp2
      go_ret
      exact ⟨by rw [hr.out]; rfl, rfl⟩
    · have hr := Lib.hid (show cmpI a b = 0 by unfold cmpI; rw [if_neg h1, if_neg h2])
      go_enter Try.func66, Try.ntmps66
      go_wp2
      go_ret
      exact ⟨by rw [hr.out]; rfl, rfl⟩

theorem or_any (a b : Int) (g : Nat) (w : World) (h0 : w.cell? ⟨g, 0, none⟩ = some (.int .i64 a)) (h1 : w.cell? ⟨g, 1, none⟩ = some (.int .i64 b)) :
    Calls Try.prog 65 #[.slice (some ⟨g, 0, none⟩) 2 2] w fun e w' => e = .returned (.int .i64 (if a = 0 then b else a)) ∧ w = w' := by
  by_cases ha : a = 0
  · subst ha
    by_cases hb : b = 0
    · subst hb
      go_enter Try.func65, Try.ntmps65
      go_wp2
      refine wp_loop_rounds 3 ?_
      rw [rounds_succ]
      go_wp2
      rw [rounds_succ]
      go_wp2
      rw [rounds_succ]
      go_wp2
      go_ret
      exact ⟨rfl, rfl⟩
    · have eb : (b != 0) = true := by rw [bne_iff_ne]; exact hb
      go_enter Try.func65, Try.ntmps65
      go_wp2
      refine wp_loop_rounds 3 ?_
      rw [rounds_succ]
      go_wp2
      rw [rounds_succ]
      go_wp2
      go_ret
      exact ⟨rfl, rfl⟩
  · have ea : (a != 0) = true := by rw [bne_iff_ne]; exact ha
    rw [if_neg ha]
    clear ha
    go_enter Try.func65, Try.ntmps65
    go_wp2
    refine wp_loop_rounds 3 ?_
    rw [rounds_succ]
    go_wp2
    go_ret
    exact ⟨rfl, rfl⟩
end Go.Proofs.Ytkcmeklgnbejiaa.Batch
