/-
  PACKAGE batch: a Change alone: is its count too great, may it be, which of two stands ahead.
  PACKAGE batch: which of two Changes stands ahead: by Port, then by Time.
-/
import Derived.Test.YtdllgeanmlmmfaaGreatDoorRows
import Derived.Test.YtdllgeanmlmmfaaGreatDoorBatchMem
import Derived.WalkKit
import Derived.WalkLawsBesides
import Derived.WalkSpells
import Derived.WalkSmall
import Derived.StillTactics
import Derived.StillTailTactics
import Derived.Lib.Hide
import Derived.Lib.AtoiErrMem
import Derived.Outline
import Derived.Sort.Grow
import Derived.Deep.RegionHeld3
import Derived.Lib.AppendIntMem
namespace Go.Proofs.YtdllgeanmlmmfaaGreatDoor.Batch
open Go.RowKit
set_option linter.unusedVariables false

theorem over_any (d : Int) (w : World) : Calls Tryz.prog 109 #[.int .i64 d] w fun e w' => e = .returned (.bool (overB d)) ∧ w = w' := by
  by_cases h1 : d < -576460752303423488
  · have hr := Lib.hid (show overB d = true from decide_eq_true (.inl h1))
    go_enter Tryz.func109, Tryz.ntmps109
    go_wp2
    go_ret
    exact ⟨by rw [hr.out]; rfl, rfl⟩
  · by_cases h2 : 576460752303423488 < d
    · have hr := Lib.hid (show overB d = true from decide_eq_true (.inr h2))
      go_enter Tryz.func109, Tryz.ntmps109
      go_wp2
      go_ret
      exact ⟨by rw [hr.out]; rfl, rfl⟩
    · have hr := Lib.hid (show overB d = false from decide_eq_false (fun h => h.elim h1 h2))
      go_enter Tryz.func109, Tryz.ntmps109
      go_wp2
      go_ret
      exact ⟨by rw [hr.out]; rfl, rfl⟩

theorem wrong_any (x : Ch) (w : World) : Calls Tryz.prog 129 #[x.agg] w fun e w' => e = .returned (.int .i64 (wrongN x)) ∧ Below w.heap.size w w' := by
  obtain ⟨p, t, d⟩ := x
  have hb : Below w.heap.size w (w.alloc (.cells #[.int .i64 p, .int .u64 t, .int .i64 d] 103)) := (Below.refl _ _).alloc (Nat.le_refl _) _
  by_cases h1 : p < 0
  · have hr := Lib.hid (show wrongN ⟨p, t, d⟩ = 2 from if_pos (.inl h1))
    go_enter Tryz.func129, Tryz.ntmps129
    go_wp2
    go_ret
    exact ⟨by rw [hr.out]; rfl, hb⟩
  · by_cases h2 : 64 ≤ p
    · have hr := Lib.hid (show wrongN ⟨p, t, d⟩ = 2 from if_pos (.inr h2))
      go_enter Tryz.func129, Tryz.ntmps129
      go_wp2
      go_ret
      exact ⟨by rw [hr.out]; rfl, hb⟩
    · by_cases h3 : t = 18446744073709551615
      · have hr := Lib.hid (show wrongN ⟨p, t, d⟩ = 1 by unfold wrongN; rw [if_neg (fun h => h.elim h1 h2), if_pos h3])
        have e3 : (t == 18446744073709551615) = true := by rw [beq_iff_eq]; exact h3
        clear h3
        go_enter Tryz.func129, Tryz.ntmps129
        go_wp2
        go_ret
        exact ⟨by rw [hr.out]; rfl, hb⟩
      · have e3 : (t == 18446744073709551615) = false := by rw [beq_eq_false_iff_ne]; exact h3
        cases h4 : overB d
        · have hr := Lib.hid (show wrongN ⟨p, t, d⟩ = 0 by unfold wrongN; rw [if_neg (fun h => h.elim h1 h2), if_neg h3, if_neg (by show ¬ overB d = true; rw [h4]; decide)])
          clear h3
          go_enter Tryz.func129, Tryz.ntmps129
          go_wp2_with (go_at_call 109; refine (over_any d _).mono ?_; rintro e w' ⟨rfl, rfl⟩)
          go_ret
          exact ⟨by rw [hr.out]; rfl, hb⟩
        · have hr := Lib.hid (show wrongN ⟨p, t, d⟩ = 10 by unfold wrongN; rw [if_neg (fun h => h.elim h1 h2), if_neg h3, if_pos (show overB d = true from h4)])
          clear h3
          go_enter Tryz.func129, Tryz.ntmps129
          go_wp2_with (go_at_call 109; refine (over_any d _).mono ?_; rintro e w' ⟨rfl, rfl⟩)
          go_ret
          exact ⟨by rw [hr.out]; rfl, hb⟩

theorem cmpInt_any (a b : Int) (w : World) : Calls Tryz.prog 113 #[.int .i64 a, .int .i64 b] w fun e w' => e = .returned (.int .i64 (cmpI a b)) ∧ w = w' := by
  by_cases h1 : a < b
  · have hr := Lib.hid (show cmpI a b = -1 from if_pos h1)
    go_enter Tryz.func113, Tryz.ntmps113
    go_wp2
    go_ret
    exact ⟨by rw [hr.out]; rfl, rfl⟩
  · by_cases h2 : b < a
    · have hr := Lib.hid (show cmpI a b = 1 by unfold cmpI; rw [if_neg h1, if_pos h2])
      go_enter Tryz.func113, Tryz.ntmps113
      go_wp2
      go_ret
      exact ⟨by rw [hr.out]; rfl, rfl⟩
    · have hr := Lib.hid (show cmpI a b = 0 by unfold cmpI; rw [if_neg h1, if_neg h2])
      go_enter Tryz.func113, Tryz.ntmps113
      go_wp2
      go_ret
      exact ⟨by rw [hr.out]; rfl, rfl⟩
theorem cmpU_any (a b : Int) (w : World) : Calls Tryz.prog 114 #[.int .u64 a, .int .u64 b] w fun e w' => e = .returned (.int .i64 (cmpI a b)) ∧ w = w' := by
  by_cases h1 : a < b
  · have hr := Lib.hid (show cmpI a b = -1 from if_pos h1)
    go_enter Tryz.func114, Tryz.ntmps114
    go_wp2
    go_ret
    exact ⟨by rw [hr.out]; rfl, rfl⟩
  · by_cases h2 : b < a
    · have hr := Lib.hid (show cmpI a b = 1 by unfold cmpI; rw [if_neg h1, if_pos h2])
      go_enter Tryz.func114, Tryz.ntmps114
      go_wp2
      go_ret
      exact ⟨by rw [hr.out]; rfl, rfl⟩
    · have hr := Lib.hid (show cmpI a b = 0 by unfold cmpI; rw [if_neg h1, if_neg h2])
      go_enter Tryz.func114, Tryz.ntmps114
      go_wp2
      go_ret
      exact ⟨by rw [hr.out]; rfl, rfl⟩

theorem or_any (a b : Int) (g : Nat) (w : World) (h0 : w.cell? ⟨g, 0, none⟩ = some (.int .i64 a)) (h1 : w.cell? ⟨g, 1, none⟩ = some (.int .i64 b)) :
    Calls Tryz.prog 112 #[.slice (some ⟨g, 0, none⟩) 2 2] w fun e w' => e = .returned (.int .i64 (if a = 0 then b else a)) ∧ w = w' := by
  by_cases ha : a = 0
  · subst ha
    by_cases hb : b = 0
    · subst hb
      go_enter Tryz.func112, Tryz.ntmps112
      go_wp2
      refine wp_loop_rounds 3 ?_
      rw [rounds_succ]
      go_wp2
      rw [rounds_succ]
      go_wp2
      rw [rounds_succ]
      go_wp2
      go_ret
      exact ⟨rfl, rfl⟩
    · have eb : (b != 0) = true := by rw [bne_iff_ne]; exact hb
      go_enter Tryz.func112, Tryz.ntmps112
      go_wp2
      refine wp_loop_rounds 3 ?_
      rw [rounds_succ]
      go_wp2
      rw [rounds_succ]
      go_wp2
      go_ret
      exact ⟨rfl, rfl⟩
  · have ea : (a != 0) = true := by rw [bne_iff_ne]; exact ha
    rw [if_neg ha]
    clear ha
    go_enter Tryz.func112, Tryz.ntmps112
    go_wp2
    refine wp_loop_rounds 3 ?_
    rw [rounds_succ]
    go_wp2
    go_ret
    exact ⟨rfl, rfl⟩
end Go.Proofs.YtdllgeanmlmmfaaGreatDoor.Batch
namespace Go.Proofs.YtdllgeanmlmmfaaGreatDoor.Batch
open Go.RowKit Go.Sort
set_option linter.unusedVariables false

theorem cell_new2 (W : World) (n : Nat) (x y : Value) (T : TypeId) (hn : W.heap.size = n) : (W.alloc (.cells #[x, y] T)).drew.cell? ⟨n, 0, none⟩ = some x ∧ (W.alloc (.cells #[x, y] T)).drew.cell? ⟨n, 1, none⟩ = some y := by
  subst hn
  exact ⟨by simp, by simp⟩
theorem new2 (w : World) (A B : Obj) (x y : Value) (T : TypeId) : ((((w.alloc A).alloc B).alloc (.cells #[x, y] T)).drew.cell? ⟨w.heap.size + 1 + 1, 0, none⟩ = some x) ∧ ((((w.alloc A).alloc B).alloc (.cells #[x, y] T)).drew.cell? ⟨w.heap.size + 1 + 1, 1, none⟩ = some y) :=
  cell_new2 _ _ _ _ _ (by simp)
theorem grow3 (w : World) (A B C : Obj) : ∃ q os, (((w.alloc A).alloc B).alloc C).drew = grow (w.drewN q) os := by
  refine ⟨1, #[A] ++ #[B] ++ #[C], ?_⟩
  rw [alloc_eq_grow, alloc_eq_grow, alloc_eq_grow, grow_grow, grow_grow]
  rfl
def orI (a b : Int) : Int := if a = 0 then b else a
theorem or_any' (a b : Int) (g : Nat) (w : World) (h : w.cell? ⟨g, 0, none⟩ = some (.int .i64 a) ∧ w.cell? ⟨g, 1, none⟩ = some (.int .i64 b)) :
    Calls Tryz.prog 112 #[.slice (some ⟨g, 0, none⟩) 2 2] w fun e w' => e = .returned (.int .i64 (orI a b)) ∧ w = w' := or_any a b g w h.1 h.2
set_option maxRecDepth 100000 in
set_option maxHeartbeats 2000000 in
theorem compare_any (x y : Ch) (w : World) : Calls Tryz.prog 108 #[x.agg, y.agg] w fun e w' => e = .returned (.int .i64 (ordI x y)) ∧ ∃ q os, w' = grow (w.drewN q) os := by
  obtain ⟨p, t, d⟩ := x
  obtain ⟨p', t', d'⟩ := y
  have hr := Lib.hid (show ordI ⟨p, t, d⟩ ⟨p', t', d'⟩ = orI (cmpI p p') (cmpI t t') from rfl)
  go_enter Tryz.func108, Tryz.ntmps108
  go_wp2_with fail
  go_region_held3 (fun w' => w'.cell? ⟨w.heap.size, 0, none⟩ = some (.int .i64 p) ∧ w'.cell? ⟨w.heap.size, 1, none⟩ = some (.int .u64 t) ∧ w'.cell? ⟨w.heap.size + 1, 0, none⟩ = some (.int .i64 p') ∧ w'.cell? ⟨w.heap.size + 1, 1, none⟩ = some (.int .u64 t'))
    (go_keep)
    (first
      | (go_at_call 113; refine (cmpInt_any _ _ _).mono ?_; rintro e w' ⟨rfl, rfl⟩)
      | (go_at_call 114; refine (cmpU_any _ _ _).mono ?_; rintro e w' ⟨rfl, rfl⟩)
      | (go_at_call 112; refine (or_any' (cmpI p p') (cmpI t t') (w.heap.size + 1 + 1) _ (new2 _ _ _ _ _ _)).mono ?_; rintro e w' ⟨rfl, rfl⟩))
  go_wp2_with fail
  go_ret
  exact ⟨by rw [hr.out]; rfl, grow3 _ _ _ _⟩
end Go.Proofs.YtdllgeanmlmmfaaGreatDoor.Batch
