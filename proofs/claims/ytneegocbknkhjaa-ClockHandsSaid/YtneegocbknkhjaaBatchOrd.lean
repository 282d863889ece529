/-
  PACKAGE batch: which of two Changes stands ahead: by Port, then by Time.
-/
import Derived.Test.YtneegocbknkhjaaBatchCmp
import Derived.Sort.Grow
import Derived.Deep.RegionHeld3
import Derived.Lib.AppendIntMem
namespace Go.Proofs.Ytneegocbknkhjaa.Batch
open Go.RowKit Go.Sort
set_option linter.unusedVariables false

theorem cell_new2 (W : World) (n : Nat) (x y : Value) (T : TypeId) (hn : W.heap.size = n) : (W.alloc (.cells #[x, y] T)).drew.cell? ⟨n, 0, none⟩ = some x ∧ (W.alloc (.cells #[x, y] T)).drew.cell? ⟨n, 1, none⟩ = some y := by
  subst hn
  exact ⟨by simp, by simp⟩
theorem new2 (w : World) (A B : Obj) (x y : Value) (T : TypeId) : ((((w.alloc A).alloc B).alloc (.cells #[x, y] T)).drew.cell? ⟨w.heap.size + 1 + 1, 0, none⟩ = some x) ∧ ((((w.alloc A).alloc B).alloc (.cells #[x, y] T)).drew.cell? ⟨w.heap.size + 1 + 1, 1, none⟩ = some y) :=
  cell_new2 _ _ _ _ _ (by simp)
theorem grow3 (w : World) (A B C : Obj) : ∃ q os, (((w.alloc A).alloc B).alloc C).drew = grow (w.drewN q) os := by
  refine ⟨1, #[A] ++ #[B] ++ #[C], ?_⟩
  rw [alloc_eq_grow, alloc_eq_grow, alloc_eq_grow, grow_grow, grow_grow]
  rfl
def orI (a b : Int) : Int := if a = 0 then b else a
theorem or_any' (a b : Int) (g : Nat) (w : World) (h : w.cell? ⟨g, 0, none⟩ = some (.int .i64 a) ∧ w.cell? ⟨g, 1, none⟩ = some (.int .i64 b)) :
    Calls Try.prog 120 #[.slice (some ⟨g, 0, none⟩) 2 2] w fun e w' => e = .returned (.int .i64 (orI a b)) ∧ w = w' := or_any a b g w h.1 h.2
set_option maxRecDepth 100000 in
set_option maxHeartbeats 2000000 in
theorem compare_any (x y : Ch) (w : World) : Calls Try.prog 117 #[x.agg, y.agg] w fun e w' => e = .returned (.int .i64 (ordI x y)) ∧ ∃ q os, w' = grow (w.drewN q) os := by
  obtain ⟨p, t, d⟩ := x
  obtain ⟨p', t', d'⟩ := y
  have hr := Lib.hid (show ordI ⟨p, t, d⟩ ⟨p', t', d'⟩ = orI (cmpI p p') (cmpI t t') from rfl)
  go_enter Try.func117, Try.ntmps117
  go_wp2_with fail
  go_region_held3 (fun w' => w'.cell? ⟨w.heap.size, 0, none⟩ = some (.int .i64 p) ∧ w'.cell? ⟨w.heap.size, 1, none⟩ = some (.int .u64 t) ∧ w'.cell? ⟨w.heap.size + 1, 0, none⟩ = some (.int .i64 p') ∧ w'.cell? ⟨w.heap.size + 1, 1, none⟩ = some (.int .u64 t'))
    (go_keep)
    (first
      | (go_at_call 121; refine (cmpInt_any _ _ _).mono ?_; rintro e w' ⟨rfl, rfl⟩)
      | (go_at_call 122; refine (cmpU_any _ _ _).mono ?_; rintro e w' ⟨rfl, rfl⟩)
      | (go_at_call 120; refine (or_any' (cmpI p p') (cmpI t t') (w.heap.size + 1 + 1) _ (new2 _ _ _ _ _ _)).mono ?_; rintro e w' ⟨rfl, rfl⟩))
  go_wp2_with fail
  go_ret
  exact ⟨by rw [hr.out]; rfl, grow3 _ _ _ _⟩
end Go.Proofs.Ytneegocbknkhjaa.Batch
