/-
  PACKAGE model: the methods of a Model that there isn't.
  PACKAGE model: the nine cells of a Model; has, may.
-/
import Derived.Test.YtdllgeanmlmmfaaGreatDoorRowMem
import Derived.Laws.Build
namespace Go.Proofs.YtdllgeanmlmmfaaGreatDoor.Md
open Go.RowKit
set_option linter.unusedVariables false
set_option linter.unusedSimpArgs false

set_option maxRecDepth 1000000 in
set_option maxHeartbeats 8000000 in
theorem mdNilDo (k i h p t : Int) (la : Option Addr) (ln lc : Nat) (y : Int) (w : World) : Calls Tryz.prog 11 #[.pointer none, .agg #[.int .i64 k, .int .i64 i, .int .i64 h, .int .i64 p, .int .u64 t, .slice la ln lc, .int .i64 y]] w fun e w' => e = .returned (.agg #[.int .i64 (-1), .int .i64 1, .slice none 0 0]) ∧ Below w.heap.size w w' := by
  have HB := Lib.hid (show Below w.heap.size w (w.alloc (.cells #[.int .i64 k, .int .i64 i, .int .i64 h, .int .i64 p, .int .u64 t, .slice la ln lc, .int .i64 y] 53)) from (Below.refl _ _).alloc (Nat.le_refl _) _)
  go_enter Tryz.func11, Tryz.ntmps11
  go_wp2_with fail
  refine bodyPost_ret (v := .agg #[.int .i64 (-1), .int .i64 1, .slice none 0 0]) (by simp [results, Tryz.results11, go_sem]) rfl ⟨rfl, ?_⟩
  exact HB.out.alloc (by simp) _
set_option maxRecDepth 1000000 in
theorem mdNilAll (w : World) : Calls Tryz.prog 12 #[.pointer none] w fun e w' => e = .returned (.slice none 0 0) ∧ w' = w := by
  go_enter Tryz.func12, Tryz.ntmps12
  go_wp2_with fail
  go_ret
  exact ⟨rfl, rfl⟩
set_option maxRecDepth 1000000 in
theorem mdNilFolded (w : World) : Calls Tryz.prog 13 #[.pointer none] w fun e w' => e = .returned (.slice none 0 0) ∧ w' = w := by
  go_enter Tryz.func13, Tryz.ntmps13
  go_wp2_with fail
  go_ret
  exact ⟨rfl, rfl⟩
set_option maxRecDepth 1000000 in
theorem mdNilShown (w : World) : Calls Tryz.prog 14 #[.pointer none] w fun e w' => e = .returned (.slice none 0 0) ∧ w' = w := by
  go_enter Tryz.func14, Tryz.ntmps14
  go_wp2_with fail
  go_ret
  exact ⟨rfl, rfl⟩
set_option maxRecDepth 1000000 in
theorem mdNilHas (i : Int) (w : World) : Calls Tryz.prog 45 #[.pointer none, .int .i64 i] w fun e w' => e = .returned (.bool false) ∧ w' = w := by
  go_enter Tryz.func45, Tryz.ntmps45
  go_wp2_with fail
  go_ret
  exact ⟨rfl, rfl⟩
set_option maxRecDepth 1000000 in
theorem mdNilWaiting (i : Int) (w : World) : Calls Tryz.prog 15 #[.pointer none, .int .i64 i] w fun e w' => e = .returned (.int .i64 0) ∧ w' = w := by
  go_enter Tryz.func15, Tryz.ntmps15
  go_wp2_with fail
  go_at_call 45
  refine (mdNilHas i _).mono ?_
  rintro e w' ⟨rfl, rfl⟩
  go_wp2_with fail
  go_ret
  exact ⟨rfl, rfl⟩
set_option maxRecDepth 1000000 in
theorem mdNilClosed (w : World) : Calls Tryz.prog 16 #[.pointer none] w fun e w' => e = .returned (.bool false) ∧ w' = w := by
  go_enter Tryz.func16, Tryz.ntmps16
  go_wp2_with fail
  go_ret
  exact ⟨rfl, rfl⟩
set_option maxRecDepth 1000000 in
theorem mdNilOwn (i : Int) (w : World) : Calls Tryz.prog 17 #[.pointer none, .int .i64 i] w fun e w' => e = .returned (.agg #[.slice none 0 0, .slice none 0 0]) ∧ Below w.heap.size w w' := by
  go_enter Tryz.func17, Tryz.ntmps17
  go_wp2_with fail
  go_at_call 45
  refine (mdNilHas i _).mono ?_
  rintro e w' ⟨rfl, rfl⟩
  go_wp2_with fail
  refine bodyPost_ret (v := .agg #[.slice none 0 0, .slice none 0 0]) (by simp [results, Tryz.results17, go_sem]) rfl ⟨rfl, ?_⟩
  exact (Below.refl _ _).alloc (Nat.le_refl _) _
end Go.Proofs.YtdllgeanmlmmfaaGreatDoor.Md
namespace Go.Proofs.YtdllgeanmlmmfaaGreatDoor.Md
open Go.RowKit
set_option linter.unusedVariables false
set_option linter.unusedSimpArgs false

/-- A Model's own cells. -/
structure Mc where
  vp : Value
  room : Int
  vt : Value
  th : Option Addr
  n : Nat
  cth : Nat
  pool : Value
  staged : Value
  folded : Value
  sh : Option Addr
  p : Nat
  csh : Nat
  cl : Bool
def McAt (w : World) (b : Nat) (c : Mc) : Prop := w.heap[b]? = some (.cells #[c.vp, .int .i64 c.room, c.vt, .slice c.th c.n c.cth, c.pool, c.staged, c.folded, .slice c.sh c.p c.csh, .bool c.cl] 84 (0, 0))
theorem McAt.lt {w : World} {b : Nat} {c : Mc} (h : McAt w b c) : b < w.heap.size := (Array.getElem?_eq_some_iff.1 h).1
theorem McAt.below {w w' : World} {B b : Nat} {c : Mc} (h : McAt w b c) (hb : Below B w w') (hB : b < B) : McAt w' b c := (hb.block b hB).trans h
theorem McAt.c3 {w : World} {b : Nat} {c : Mc} (h : McAt w b c) : w.cell? ⟨b, 3, none⟩ = some (.slice c.th c.n c.cth) := by unfold McAt at h; simp [World.cell?, h]
theorem McAt.c7 {w : World} {b : Nat} {c : Mc} (h : McAt w b c) : w.cell? ⟨b, 7, none⟩ = some (.slice c.sh c.p c.csh) := by unfold McAt at h; simp [World.cell?, h]
theorem McAt.c8 {w : World} {b : Nat} {c : Mc} (h : McAt w b c) : w.cell? ⟨b, 8, none⟩ = some (.bool c.cl) := by unfold McAt at h; simp [World.cell?, h]
theorem McAt.free {w : World} {b : Nat} {c : Mc} (h : McAt w b c) (o : Nat) : w.frozen? ⟨b, o, none⟩ = false := by unfold McAt at h; simp [World.frozen?, h]
def hasM (c : Mc) (i : Int) : Bool := decide (0 ≤ i) && decide (i < (c.n : Int))
def mayM (c : Mc) (k i : Int) : Bool := decide (0 ≤ k) && (decide (k ≤ 11) && (decide (k = 9) || (decide (k = 11) || hasM c i)))
set_option maxRecDepth 1000000 in
set_option maxHeartbeats 8000000 in
theorem mdHas_any {w : World} {b : Nat} {c : Mc} (h : McAt w b c) (i : Int) :
    Calls Tryz.prog 45 #[.pointer (some ⟨b, 0, none⟩), .int .i64 i] w fun e w' => e = .returned (.bool (hasM c i)) ∧ w' = w := by
  have c3 := h.c3
  by_cases h0 : (0 : Int) ≤ i
  · have d0 : decide ((0 : Int) ≤ i) = true := decide_eq_true h0
    by_cases h1 : i < (c.n : Int)
    · have d1 : decide (i < (c.n : Int)) = true := decide_eq_true h1
      have HR := Lib.hid (show hasM c i = true from by simp [hasM, h0, h1])
      clear h0
      go_enter Tryz.func45, Tryz.ntmps45
      go_wp2_with fail
      go_ret
      exact ⟨by rw [HR.out]; rfl, rfl⟩
    · have d1 : decide (i < (c.n : Int)) = false := decide_eq_false h1
      have HR := Lib.hid (show hasM c i = false from by simp [hasM, h1])
      clear h0
      go_enter Tryz.func45, Tryz.ntmps45
      go_wp2_with fail
      go_ret
      exact ⟨by rw [HR.out]; rfl, rfl⟩
  · have d0 : decide ((0 : Int) ≤ i) = false := decide_eq_false h0
    have HR := Lib.hid (show hasM c i = false from by simp [hasM, h0])
    clear h0
    go_enter Tryz.func45, Tryz.ntmps45
    go_wp2_with fail
    go_ret
    exact ⟨by rw [HR.out]; rfl, rfl⟩
set_option maxRecDepth 1000000 in
set_option maxHeartbeats 8000000 in
theorem mdMay_any {w : World} {b : Nat} {c : Mc} (h : McAt w b c) (k i hd p t : Int) (la : Option Addr) (ln lc : Nat) (y : Int) :
    Calls Tryz.prog 34 #[.pointer (some ⟨b, 0, none⟩), .agg #[.int .i64 k, .int .i64 i, .int .i64 hd, .int .i64 p, .int .u64 t, .slice la ln lc, .int .i64 y]] w fun e w' => e = .returned (.bool (mayM c k i)) ∧ Below w.heap.size w w' := by
  have HB := Lib.hid (show Below w.heap.size w (w.alloc (.cells #[.int .i64 k, .int .i64 i, .int .i64 hd, .int .i64 p, .int .u64 t, .slice la ln lc, .int .i64 y] 53)) from (Below.refl _ _).alloc (Nat.le_refl _) _)
  have HM := Lib.hid (h.below HB.out h.lt)
  clear h
  by_cases h0 : k < 0
  · have d0 : decide (k < 0) = true := decide_eq_true h0
    have HR := Lib.hid (show mayM c k i = false from by simp [mayM]; omega)
    clear h0
    go_enter Tryz.func34, Tryz.ntmps34
    go_wp2_with fail
    go_ret
    exact ⟨by rw [HR.out]; rfl, HB.out⟩
  have d0 : decide (k < 0) = false := decide_eq_false h0
  by_cases h1 : 11 < k
  · have d1 : decide (11 < k) = true := decide_eq_true h1
    have HR := Lib.hid (show mayM c k i = false from by simp [mayM]; omega)
    clear h0 h1
    go_enter Tryz.func34, Tryz.ntmps34
    go_wp2_with fail
    go_ret
    exact ⟨by rw [HR.out]; rfl, HB.out⟩
  have d1 : decide (11 < k) = false := decide_eq_false h1
  by_cases h2 : k = 9
  · have HR := Lib.hid (show mayM c k i = true from by subst h2; simp [mayM])
    have e2 : (k == 9) = true := by simp [h2]
    clear h0 h1 h2
    go_enter Tryz.func34, Tryz.ntmps34
    go_wp2_with fail
    go_ret
    exact ⟨by rw [HR.out]; rfl, HB.out⟩
  have e2 : (k == 9) = false := by simp [h2]
  by_cases h3 : k = 11
  · have HR := Lib.hid (show mayM c k i = true from by subst h3; simp [mayM])
    have e3 : (k == 11) = true := by simp [h3]
    clear h0 h1 h2 h3
    go_enter Tryz.func34, Tryz.ntmps34
    go_wp2_with fail
    go_ret
    exact ⟨by rw [HR.out]; rfl, HB.out⟩
  have e3 : (k == 11) = false := by simp [h3]
  have HR := Lib.hid (show mayM c k i = hasM c i from by unfold mayM; rw [decide_eq_true (by omega), decide_eq_true (by omega), decide_eq_false h2, decide_eq_false h3]; rfl)
  clear h0 h1 h2 h3
  go_enter Tryz.func34, Tryz.ntmps34
  go_wp2_with fail
  go_at_call 45
  refine (mdHas_any HM.out i).mono ?_
  rintro e w' ⟨rfl, rfl⟩
  go_wp2_with fail
  go_ret
  exact ⟨by rw [HR.out]; rfl, HB.out⟩
end Go.Proofs.YtdllgeanmlmmfaaGreatDoor.Md
