/-
  PACKAGE model: Do of Shut.
  PACKAGE model: ask: Done and Wait.
-/
import Derived.Test.YtdllgeanmlmmfaaGreatDoorJoined1
import Derived.Test.YtdllgeanmlmmfaaGreatDoorGTo
import Derived.Deep.Cut
import Derived.Deep.QuietTactic
import Derived.BigQuiet
namespace Go.Proofs.YtdllgeanmlmmfaaGreatDoor.Md
open Go.RowKit Gr
set_option linter.unusedVariables false
set_option linter.unusedSimpArgs false

/-- Of what was there only block b is another one. -/
def OnlyB (w : World) (b : Nat) (w' : World) : Prop := w.heap.size ≤ w'.heap.size ∧ Below 0 w w' ∧ ∀ i, i < w.heap.size → i ≠ b → w'.heap[i]? = w.heap[i]?
theorem OnlyB.of_below {w w' : World} {b : Nat} (h : Below w.heap.size w w') : OnlyB w b w' := ⟨h.size, h.mono (Nat.zero_le _), fun i hi _ => h.block i hi⟩
theorem OnlyB.trans {w w' w'' : World} {b : Nat} (h : OnlyB w b w') (k : OnlyB w' b w'') : OnlyB w b w'' := ⟨Nat.le_trans h.1 k.1, h.2.1.trans k.2.1, fun i hi hn => (k.2.2 i (Nat.lt_of_lt_of_le hi h.1) hn).trans (h.2.2 i hi hn)⟩
theorem OnlyB.set {w w' : World} {b o : Nat} {u : Value} (h : OnlyB w b w') : OnlyB w b (w'.setCell ⟨b, o, none⟩ u) :=
  ⟨by simpa using h.1, h.2.1.setCell (Nat.zero_le _) _, fun i hi hn => (heap_setCell_other _ _ _ _ (by simpa using hn)).trans (h.2.2 i hi hn)⟩
theorem OnlyB.new {w w' : World} {b g o : Nat} {u : Value} (h : OnlyB w b w') (hg : w.heap.size ≤ g) : OnlyB w b (w'.setCell ⟨g, o, none⟩ u) :=
  ⟨by simpa using h.1, h.2.1.setCell (Nat.zero_le _) _, fun i hi hn => (heap_setCell_other _ _ _ _ (by show i ≠ g; omega)).trans (h.2.2 i hi hn)⟩
set_option maxRecDepth 1000000 in
set_option maxHeartbeats 8000000 in
theorem mdShut_any {w : World} {b : Nat} {c : Mc} (h : McAt w b c) (i hd p t : Int) (la : Option Addr) (ln lc : Nat) (y : Int) (hi : hasM c i = true) :
    Calls Tryz.prog 11 #[.pointer (some ⟨b, 0, none⟩), .agg #[.int .i64 7, .int .i64 i, .int .i64 hd, .int .i64 p, .int .u64 t, .slice la ln lc, .int .i64 y]] w fun e w' => e = .returned (.agg #[.int .i64 0, .int .i64 0, .slice none 0 0]) ∧ McAt w' b { c with cl := true } ∧ OnlyB w b w' := by
  obtain ⟨w1, hw1⟩ : ∃ w1, w1 = (w.alloc (.cells #[.int .i64 7, .int .i64 i, .int .i64 hd, .int .i64 p, .int .u64 t, .slice la ln lc, .int .i64 y] 53)).alloc (.cells #[.int .i64 0, .int .i64 0, .slice none 0 0] 48) := ⟨_, rfl⟩
  have HB := Lib.hid (show Below w.heap.size w w1 by rw [hw1]; exact ((Below.refl _ _).alloc (Nat.le_refl _) _).alloc (by simp) _)
  have HX := Lib.hid (show w1.heap[w.heap.size]? = some (.cells #[.int .i64 7, .int .i64 i, .int .i64 hd, .int .i64 p, .int .u64 t, .slice la ln lc, .int .i64 y] 53 (0, 0)) by rw [hw1, heap_alloc_old _ _ (by simp)]; exact heap_alloc_new w _)
  have HZ := Lib.hid (show w1.heap[w.heap.size + 1]? = some (.cells #[.int .i64 0, .int .i64 0, .slice none 0 0] 48 (0, 0)) by
    rw [hw1]; have h := heap_alloc_new (w.alloc (.cells #[.int .i64 7, .int .i64 i, .int .i64 hd, .int .i64 p, .int .u64 t, .slice la ln lc, .int .i64 y] 53)) (.cells #[.int .i64 0, .int .i64 0, .slice none 0 0] 48); simpa using h)
  have HM := Lib.hid (h.below HB.out h.lt)
  have HLT := Lib.hid h.lt
  have HL1 := Lib.hid (show w.heap.size + 1 < w1.heap.size from (Array.getElem?_eq_some_iff.1 HZ.out).1)
  have HHI := Lib.hid (show mayM c 7 i = true by unfold mayM; rw [hi]; rfl)
  obtain ⟨y0, y1, y2, y3, y4, y5, y6⟩ : w1.cell? ⟨w.heap.size, 0, none⟩ = some (.int .i64 7) ∧ w1.cell? ⟨w.heap.size, 1, none⟩ = some (.int .i64 i) ∧ w1.cell? ⟨w.heap.size, 2, none⟩ = some (.int .i64 hd) ∧ w1.cell? ⟨w.heap.size, 3, none⟩ = some (.int .i64 p) ∧ w1.cell? ⟨w.heap.size, 4, none⟩ = some (.int .u64 t) ∧ w1.cell? ⟨w.heap.size, 5, none⟩ = some (.slice la ln lc) ∧ w1.cell? ⟨w.heap.size, 6, none⟩ = some (.int .i64 y) := by simp [World.cell?, HX.out]
  clear h hi
  go_enter Tryz.func11, Tryz.ntmps11
  go_upto_region 1 with fail
  rw [← hw1]
  clear hw1
  go_wp2_with fail
  go_at_call 34
  refine (mdMay_any HM.out 7 i hd p t la ln lc y).mono ?_
  rw [HHI.out]
  rintro e w2 ⟨rfl, hb⟩
  have hx2 := (hb.block _ (by have := HL1.out; omega)).trans HX.out
  have hz2 := (hb.block _ HL1.out).trans HZ.out
  have HM2 := Lib.hid (HM.out.below hb (by have := HLT.out; have := HB.out.size; omega))
  have HB2 := Lib.hid (HB.out.trans (hb.mono HB.out.size))
  clear y0 y1 y2 y3 y4 y5 y6 hb
  obtain ⟨x0, _⟩ : w2.cell? ⟨w.heap.size, 0, none⟩ = some (.int .i64 7) ∧ True := by simp [World.cell?, hx2]
  obtain ⟨z0, z1, z2, zf⟩ := three_cells hz2
  have zf0 := zf 0
  have zf1 := zf 1
  have zf2 := zf 2
  have c8 := HM2.out.c8
  have cf8 := HM2.out.free 8
  have hne1 : ¬ w.heap.size + 1 = b := by have := HLT.out; omega
  have hne2 : ¬ b = w.heap.size + 1 := by have := HLT.out; omega
  have hb8 := heap_setCell_same w2 b 8 _ _ (.bool true) HM2.out
  have hz8 : (w2.setCell ⟨b, 8, none⟩ (.bool true)).heap[w.heap.size + 1]? = some (.cells #[.int .i64 0, .int .i64 0, .slice none 0 0] 48 (0, 0)) := (heap_setCell_other _ _ _ _ (by show w.heap.size + 1 ≠ b; exact hne1)).trans hz2
  have HR := Lib.hid (three_cells (heap_setCell_same _ (w.heap.size + 1) 2 _ _ (.slice none 0 0) (heap_setCell_same _ (w.heap.size + 1) 1 _ _ (.int .i64 0) (heap_setCell_same _ (w.heap.size + 1) 0 _ _ (.int .i64 0) hz8))))
  have HBB := Lib.hid (show McAt ((((w2.setCell ⟨b, 8, none⟩ (.bool true)).setCell ⟨w.heap.size + 1, 0, none⟩ (.int .i64 0)).setCell ⟨w.heap.size + 1, 1, none⟩ (.int .i64 0)).setCell ⟨w.heap.size + 1, 2, none⟩ (.slice none 0 0)) b { c with cl := true } by
    unfold McAt
    rw [heap_setCell_other _ _ _ _ (by show b ≠ w.heap.size + 1; exact hne2), heap_setCell_other _ _ _ _ (by show b ≠ w.heap.size + 1; exact hne2), heap_setCell_other _ _ _ _ (by show b ≠ w.heap.size + 1; exact hne2), hb8]
    rfl)
  clear zf hx2 hz2 hb8 hz8
  go_wp2_with fail
  obtain ⟨r0, r1, r2, _⟩ := HR.out
  refine bodyPost_ret (v := .agg #[.int .i64 0, .int .i64 0, .slice none 0 0]) (by simp [results, Tryz.results11, go_sem, r0, r1, r2]) rfl ⟨rfl, HBB.out, ?_⟩
  exact ((((OnlyB.of_below HB2.out).set).new (Nat.le_succ _)).new (Nat.le_succ _)).new (Nat.le_succ _)
end Go.Proofs.YtdllgeanmlmmfaaGreatDoor.Md
namespace Go.Proofs.YtdllgeanmlmmfaaGreatDoor.Md
open Go.RowKit Gr
set_option linter.unusedVariables false
set_option linter.unusedSimpArgs false

/-- The fronts that are shown, as they read. -/
def ShAt (w : World) (c : Mc) (F : Nat → Int) : Prop := ∃ g o, c.sh = some ⟨g, o, none⟩ ∧ ∀ j, j < c.p → w.cell? ⟨g, o + j, none⟩ = some (.int .u64 (F j))
theorem ShAt.below {w w' : World} {c : Mc} {F : Nat → Int} (h : ShAt w c F) (hb : Below w.heap.size w w') : ShAt w' c F := by
  obtain ⟨g, o, h1, h2⟩ := h
  exact ⟨g, o, h1, fun j hj => (hb.cell (p := ⟨g, o + j, none⟩) (Lib.lt_of_cell (h2 j hj))).trans (h2 j hj)⟩
def askM (c : Mc) (F : Nat → Int) (k p t : Int) : Int × Int :=
  if p < 0 ∨ (c.p : Int) ≤ p then (0, 2) else if k = 6 ∧ c.cl = true then (0, 8) else if t < F p.toNat then (1, 0) else (0, 0)
def askV (x : Int × Int) : Value := .agg #[.int .i64 x.1, .int .i64 x.2, .slice none 0 0]
set_option maxRecDepth 1000000 in
set_option maxHeartbeats 16000000 in
theorem mdAsk_any {w : World} {b : Nat} {c : Mc} {F : Nat → Int} (h : McAt w b c) (hS : ShAt w c F) (hp : c.p ≤ 64) (k i hd p t : Int) (la : Option Addr) (ln lc : Nat) (y : Int) :
    Calls Tryz.prog 35 #[.pointer (some ⟨b, 0, none⟩), .agg #[.int .i64 k, .int .i64 i, .int .i64 hd, .int .i64 p, .int .u64 t, .slice la ln lc, .int .i64 y]] w fun e w' => e = .returned (askV (askM c F k p t)) ∧ Below w.heap.size w w' := by
  obtain ⟨w1, hw1⟩ : ∃ w1, w1 = (w.alloc (.cells #[.int .i64 k, .int .i64 i, .int .i64 hd, .int .i64 p, .int .u64 t, .slice la ln lc, .int .i64 y] 53)).alloc (.cells #[.int .i64 0, .int .i64 0, .slice none 0 0] 48) := ⟨_, rfl⟩
  have HB := Lib.hid (show Below w.heap.size w w1 by rw [hw1]; exact ((Below.refl _ _).alloc (Nat.le_refl _) _).alloc (by simp) _)
  have HX := Lib.hid (show w1.heap[w.heap.size]? = some (.cells #[.int .i64 k, .int .i64 i, .int .i64 hd, .int .i64 p, .int .u64 t, .slice la ln lc, .int .i64 y] 53 (0, 0)) by rw [hw1, heap_alloc_old _ _ (by simp)]; exact heap_alloc_new w _)
  have HZ := Lib.hid (show w1.heap[w.heap.size + 1]? = some (.cells #[.int .i64 0, .int .i64 0, .slice none 0 0] 48 (0, 0)) by
    rw [hw1]; have h := heap_alloc_new (w.alloc (.cells #[.int .i64 k, .int .i64 i, .int .i64 hd, .int .i64 p, .int .u64 t, .slice la ln lc, .int .i64 y] 53)) (.cells #[.int .i64 0, .int .i64 0, .slice none 0 0] 48); simpa using h)
  have HM := Lib.hid (h.below HB.out h.lt)
  have HS := Lib.hid (hS.below HB.out)
  clear h hS
  obtain ⟨y0, y1, y2, y3, y4, y5, y6⟩ : w1.cell? ⟨w.heap.size, 0, none⟩ = some (.int .i64 k) ∧ w1.cell? ⟨w.heap.size, 1, none⟩ = some (.int .i64 i) ∧ w1.cell? ⟨w.heap.size, 2, none⟩ = some (.int .i64 hd) ∧ w1.cell? ⟨w.heap.size, 3, none⟩ = some (.int .i64 p) ∧ w1.cell? ⟨w.heap.size, 4, none⟩ = some (.int .u64 t) ∧ w1.cell? ⟨w.heap.size, 5, none⟩ = some (.slice la ln lc) ∧ w1.cell? ⟨w.heap.size, 6, none⟩ = some (.int .i64 y) := by simp [World.cell?, HX.out]
  obtain ⟨z0, z1, z2, zf⟩ := three_cells HZ.out
  have zf0 := zf 0
  have zf1 := zf 1
  have zf2 := zf 2
  have c7 := HM.out.c7
  have c8 := HM.out.c8
  clear zf
  go_enter Tryz.func35, Tryz.ntmps35
  go_upto_region 1 with fail
  rw [← hw1]
  clear hw1
  by_cases h0 : p < 0
  · have d0 : decide (p < 0) = true := decide_eq_true h0
    have HA := Lib.hid (show askM c F k p t = (0, 2) from if_pos (.inl h0))
    clear h0
    go_quiet (fail)
    obtain ⟨w2, hw2⟩ : ∃ w2, w2 = w1.drewN nq := ⟨_, rfl⟩
    rw [← hw2]
    have hbq : Below w1.heap.size w1 w2 := by rw [hw2]; exact below_drewN (Below.refl _ _) nq
    clear hw2 y0 y1 y2 y3 y4 y5 y6 z0 z1 z2 zf0 zf1 zf2 c7 c8
    replace HX := Lib.hid ((hbq.block _ (Array.getElem?_eq_some_iff.1 HX.out).1).trans HX.out)
    replace HZ := Lib.hid ((hbq.block _ (Array.getElem?_eq_some_iff.1 HZ.out).1).trans HZ.out)
    replace HM := Lib.hid (HM.out.below hbq HM.out.lt)
    replace HS := Lib.hid (HS.out.below hbq)
    replace HB := Lib.hid (HB.out.trans (hbq.mono HB.out.size))
    clear hbq
    obtain ⟨y0, y1, y2, y3, y4, y5, y6⟩ : w2.cell? ⟨w.heap.size, 0, none⟩ = some (.int .i64 k) ∧ w2.cell? ⟨w.heap.size, 1, none⟩ = some (.int .i64 i) ∧ w2.cell? ⟨w.heap.size, 2, none⟩ = some (.int .i64 hd) ∧ w2.cell? ⟨w.heap.size, 3, none⟩ = some (.int .i64 p) ∧ w2.cell? ⟨w.heap.size, 4, none⟩ = some (.int .u64 t) ∧ w2.cell? ⟨w.heap.size, 5, none⟩ = some (.slice la ln lc) ∧ w2.cell? ⟨w.heap.size, 6, none⟩ = some (.int .i64 y) := by simp [World.cell?, HX.out]
    obtain ⟨z0, z1, z2, zf⟩ := three_cells HZ.out
    have zf0 := zf 0
    have zf1 := zf 1
    have zf2 := zf 2
    have c7 := HM.out.c7
    have c8 := HM.out.c8
    clear zf
    have HR := Lib.hid (three_cells (heap_setCell_same _ (w.heap.size + 1) 2 _ _ (.slice none 0 0) (heap_setCell_same _ (w.heap.size + 1) 1 _ _ (.int .i64 2) (heap_setCell_same _ (w.heap.size + 1) 0 _ _ (.int .i64 0) HZ.out))))
    go_wp2_with fail
    obtain ⟨r0, r1, r2, _⟩ := HR.out
    refine bodyPost_ret (v := .agg #[.int .i64 0, .int .i64 2, .slice none 0 0]) (by simp [results, Tryz.results35, go_sem, r0, r1, r2]) rfl ⟨by rw [HA.out]; rfl, ?_⟩
    exact ((HB.out.setCell (Nat.le_succ _) _).setCell (Nat.le_succ _) _).setCell (Nat.le_succ _) _
  have d0 : decide (p < 0) = false := decide_eq_false h0
  by_cases h1 : (c.p : Int) ≤ p
  · have d1 : decide ((c.p : Int) ≤ p) = true := decide_eq_true h1
    have HA := Lib.hid (show askM c F k p t = (0, 2) from if_pos (.inr h1))
    clear h0 h1
    go_quiet (fail)
    obtain ⟨w2, hw2⟩ : ∃ w2, w2 = w1.drewN nq := ⟨_, rfl⟩
    rw [← hw2]
    have hbq : Below w1.heap.size w1 w2 := by rw [hw2]; exact below_drewN (Below.refl _ _) nq
    clear hw2 y0 y1 y2 y3 y4 y5 y6 z0 z1 z2 zf0 zf1 zf2 c7 c8
    replace HX := Lib.hid ((hbq.block _ (Array.getElem?_eq_some_iff.1 HX.out).1).trans HX.out)
    replace HZ := Lib.hid ((hbq.block _ (Array.getElem?_eq_some_iff.1 HZ.out).1).trans HZ.out)
    replace HM := Lib.hid (HM.out.below hbq HM.out.lt)
    replace HS := Lib.hid (HS.out.below hbq)
    replace HB := Lib.hid (HB.out.trans (hbq.mono HB.out.size))
    clear hbq
    obtain ⟨y0, y1, y2, y3, y4, y5, y6⟩ : w2.cell? ⟨w.heap.size, 0, none⟩ = some (.int .i64 k) ∧ w2.cell? ⟨w.heap.size, 1, none⟩ = some (.int .i64 i) ∧ w2.cell? ⟨w.heap.size, 2, none⟩ = some (.int .i64 hd) ∧ w2.cell? ⟨w.heap.size, 3, none⟩ = some (.int .i64 p) ∧ w2.cell? ⟨w.heap.size, 4, none⟩ = some (.int .u64 t) ∧ w2.cell? ⟨w.heap.size, 5, none⟩ = some (.slice la ln lc) ∧ w2.cell? ⟨w.heap.size, 6, none⟩ = some (.int .i64 y) := by simp [World.cell?, HX.out]
    obtain ⟨z0, z1, z2, zf⟩ := three_cells HZ.out
    have zf0 := zf 0
    have zf1 := zf 1
    have zf2 := zf 2
    have c7 := HM.out.c7
    have c8 := HM.out.c8
    clear zf
    have HR := Lib.hid (three_cells (heap_setCell_same _ (w.heap.size + 1) 2 _ _ (.slice none 0 0) (heap_setCell_same _ (w.heap.size + 1) 1 _ _ (.int .i64 2) (heap_setCell_same _ (w.heap.size + 1) 0 _ _ (.int .i64 0) HZ.out))))
    go_wp2_with fail
    obtain ⟨r0, r1, r2, _⟩ := HR.out
    refine bodyPost_ret (v := .agg #[.int .i64 0, .int .i64 2, .slice none 0 0]) (by simp [results, Tryz.results35, go_sem, r0, r1, r2]) rfl ⟨by rw [HA.out]; rfl, ?_⟩
    exact ((HB.out.setCell (Nat.le_succ _) _).setCell (Nat.le_succ _) _).setCell (Nat.le_succ _) _
  have d1 : decide ((c.p : Int) ≤ p) = false := decide_eq_false h1
  have HN := Lib.hid (show ¬ (p < 0 ∨ (c.p : Int) ≤ p) by omega)
  have hp0 : (0 : Int) ≤ p := by omega
  have hp1 : p < (c.p : Int) := by omega
  obtain ⟨q, rfl⟩ : ∃ q : Nat, p = (q : Int) := ⟨p.toNat, by omega⟩
  have hq : q < c.p := by omega
  have HQ := Lib.hid hq
  clear h0 h1 hq
  go_quiet (fail)
  obtain ⟨w2, hw2⟩ : ∃ w2, w2 = w1.drewN nq := ⟨_, rfl⟩
  rw [← hw2]
  have hbq : Below w1.heap.size w1 w2 := by rw [hw2]; exact below_drewN (Below.refl _ _) nq
  clear hw2 y0 y1 y2 y3 y4 y5 y6 z0 z1 z2 zf0 zf1 zf2 c7 c8
  replace HX := Lib.hid ((hbq.block _ (Array.getElem?_eq_some_iff.1 HX.out).1).trans HX.out)
  replace HZ := Lib.hid ((hbq.block _ (Array.getElem?_eq_some_iff.1 HZ.out).1).trans HZ.out)
  replace HM := Lib.hid (HM.out.below hbq HM.out.lt)
  replace HS := Lib.hid (HS.out.below hbq)
  replace HB := Lib.hid (HB.out.trans (hbq.mono HB.out.size))
  clear hbq
  obtain ⟨y0, y1, y2, y3, y4, y5, y6⟩ : w2.cell? ⟨w.heap.size, 0, none⟩ = some (.int .i64 k) ∧ w2.cell? ⟨w.heap.size, 1, none⟩ = some (.int .i64 i) ∧ w2.cell? ⟨w.heap.size, 2, none⟩ = some (.int .i64 hd) ∧ w2.cell? ⟨w.heap.size, 3, none⟩ = some (.int .i64 (q : Int)) ∧ w2.cell? ⟨w.heap.size, 4, none⟩ = some (.int .u64 t) ∧ w2.cell? ⟨w.heap.size, 5, none⟩ = some (.slice la ln lc) ∧ w2.cell? ⟨w.heap.size, 6, none⟩ = some (.int .i64 y) := by simp [World.cell?, HX.out]
  obtain ⟨z0, z1, z2, zf⟩ := three_cells HZ.out
  have zf0 := zf 0
  have zf1 := zf 1
  have zf2 := zf 2
  have c7 := HM.out.c7
  have c8 := HM.out.c8
  clear zf
  by_cases h6 : k = 6
  · have e6 : (k == 6) = true := by simp [h6]
    cases hcl : c.cl with
    | true =>
      have HA := Lib.hid (show askM c F k (q : Int) t = (0, 8) by rw [askM, if_neg HN.out, if_pos ⟨h6, hcl⟩])
      rw [hcl] at c8
      clear h6 hcl
      have HR := Lib.hid (three_cells (heap_setCell_same _ (w.heap.size + 1) 2 _ _ (.slice none 0 0) (heap_setCell_same _ (w.heap.size + 1) 1 _ _ (.int .i64 8) (heap_setCell_same _ (w.heap.size + 1) 0 _ _ (.int .i64 0) HZ.out))))
      go_wp2_with fail
      obtain ⟨r0, r1, r2, _⟩ := HR.out
      refine bodyPost_ret (v := .agg #[.int .i64 0, .int .i64 8, .slice none 0 0]) (by simp [results, Tryz.results35, go_sem, r0, r1, r2]) rfl ⟨by rw [HA.out]; rfl, ?_⟩
      exact ((HB.out.setCell (Nat.le_succ _) _).setCell (Nat.le_succ _) _).setCell (Nat.le_succ _) _
    | false =>
      have HG := Lib.hid (show ¬ (k = 6 ∧ c.cl = true) by rw [hcl]; simp)
      rw [hcl] at c8
      clear h6 hcl
      obtain ⟨g, o, hsh, hrow⟩ := HS.out
      have hv := hrow q HQ.out
      rw [hsh] at c7
      clear hrow
      go_upto_region 5 with fail
      by_cases h7 : t < F q
      · have d7 : decide (t < F q) = true := decide_eq_true h7
        have HA := Lib.hid (show askM c F k (q : Int) t = (1, 0) by rw [askM, if_neg HN.out, if_neg HG.out, Int.toNat_natCast, if_pos h7])
        clear h7
        go_quiet (fail)
        obtain ⟨w3, hw3⟩ : ∃ w3, w3 = w2.drewN nq := ⟨_, rfl⟩
        rw [← hw3]
        have hbq : Below w2.heap.size w2 w3 := by rw [hw3]; exact below_drewN (Below.refl _ _) nq
        clear hw3 y0 y1 y2 y3 y4 y5 y6 z0 z1 z2 zf0 zf1 zf2 c7 c8
        replace HX := Lib.hid ((hbq.block _ (Array.getElem?_eq_some_iff.1 HX.out).1).trans HX.out)
        replace HZ := Lib.hid ((hbq.block _ (Array.getElem?_eq_some_iff.1 HZ.out).1).trans HZ.out)
        replace HM := Lib.hid (HM.out.below hbq HM.out.lt)
        replace HS := Lib.hid (HS.out.below hbq)
        replace HB := Lib.hid (HB.out.trans (hbq.mono HB.out.size))
        clear hbq
        obtain ⟨y0, y1, y2, y3, y4, y5, y6⟩ : w3.cell? ⟨w.heap.size, 0, none⟩ = some (.int .i64 k) ∧ w3.cell? ⟨w.heap.size, 1, none⟩ = some (.int .i64 i) ∧ w3.cell? ⟨w.heap.size, 2, none⟩ = some (.int .i64 hd) ∧ w3.cell? ⟨w.heap.size, 3, none⟩ = some (.int .i64 (q : Int)) ∧ w3.cell? ⟨w.heap.size, 4, none⟩ = some (.int .u64 t) ∧ w3.cell? ⟨w.heap.size, 5, none⟩ = some (.slice la ln lc) ∧ w3.cell? ⟨w.heap.size, 6, none⟩ = some (.int .i64 y) := by simp [World.cell?, HX.out]
        obtain ⟨z0, z1, z2, zf⟩ := three_cells HZ.out
        have zf0 := zf 0
        have zf1 := zf 1
        have zf2 := zf 2
        have c7 := HM.out.c7
        have c8 := HM.out.c8
        clear zf
        have HR := Lib.hid (three_cells (heap_setCell_same _ (w.heap.size + 1) 2 _ _ (.slice none 0 0) (heap_setCell_same _ (w.heap.size + 1) 1 _ _ (.int .i64 0) (heap_setCell_same _ (w.heap.size + 1) 0 _ _ (.int .i64 1) HZ.out))))
        go_wp2_with fail
        obtain ⟨r0, r1, r2, _⟩ := HR.out
        refine bodyPost_ret (v := .agg #[.int .i64 1, .int .i64 0, .slice none 0 0]) (by simp [results, Tryz.results35, go_sem, r0, r1, r2]) rfl ⟨by rw [HA.out]; rfl, ?_⟩
        exact ((HB.out.setCell (Nat.le_succ _) _).setCell (Nat.le_succ _) _).setCell (Nat.le_succ _) _
      · have d7 : decide (t < F q) = false := decide_eq_false h7
        have HA := Lib.hid (show askM c F k (q : Int) t = (0, 0) by rw [askM, if_neg HN.out, if_neg HG.out, Int.toNat_natCast, if_neg h7])
        clear h7
        go_quiet (fail)
        obtain ⟨w3, hw3⟩ : ∃ w3, w3 = w2.drewN nq := ⟨_, rfl⟩
        rw [← hw3]
        have hbq : Below w2.heap.size w2 w3 := by rw [hw3]; exact below_drewN (Below.refl _ _) nq
        clear hw3 y0 y1 y2 y3 y4 y5 y6 z0 z1 z2 zf0 zf1 zf2 c7 c8
        replace HX := Lib.hid ((hbq.block _ (Array.getElem?_eq_some_iff.1 HX.out).1).trans HX.out)
        replace HZ := Lib.hid ((hbq.block _ (Array.getElem?_eq_some_iff.1 HZ.out).1).trans HZ.out)
        replace HM := Lib.hid (HM.out.below hbq HM.out.lt)
        replace HS := Lib.hid (HS.out.below hbq)
        replace HB := Lib.hid (HB.out.trans (hbq.mono HB.out.size))
        clear hbq
        obtain ⟨y0, y1, y2, y3, y4, y5, y6⟩ : w3.cell? ⟨w.heap.size, 0, none⟩ = some (.int .i64 k) ∧ w3.cell? ⟨w.heap.size, 1, none⟩ = some (.int .i64 i) ∧ w3.cell? ⟨w.heap.size, 2, none⟩ = some (.int .i64 hd) ∧ w3.cell? ⟨w.heap.size, 3, none⟩ = some (.int .i64 (q : Int)) ∧ w3.cell? ⟨w.heap.size, 4, none⟩ = some (.int .u64 t) ∧ w3.cell? ⟨w.heap.size, 5, none⟩ = some (.slice la ln lc) ∧ w3.cell? ⟨w.heap.size, 6, none⟩ = some (.int .i64 y) := by simp [World.cell?, HX.out]
        obtain ⟨z0, z1, z2, zf⟩ := three_cells HZ.out
        have zf0 := zf 0
        have zf1 := zf 1
        have zf2 := zf 2
        have c7 := HM.out.c7
        have c8 := HM.out.c8
        clear zf
        have HR := Lib.hid (three_cells (heap_setCell_same _ (w.heap.size + 1) 2 _ _ (.slice none 0 0) (heap_setCell_same _ (w.heap.size + 1) 1 _ _ (.int .i64 0) (heap_setCell_same _ (w.heap.size + 1) 0 _ _ (.int .i64 0) HZ.out))))
        go_wp2_with fail
        obtain ⟨r0, r1, r2, _⟩ := HR.out
        refine bodyPost_ret (v := .agg #[.int .i64 0, .int .i64 0, .slice none 0 0]) (by simp [results, Tryz.results35, go_sem, r0, r1, r2]) rfl ⟨by rw [HA.out]; rfl, ?_⟩
        exact ((HB.out.setCell (Nat.le_succ _) _).setCell (Nat.le_succ _) _).setCell (Nat.le_succ _) _
  · have e6 : (k == 6) = false := by simp [h6]
    have HG := Lib.hid (show ¬ (k = 6 ∧ c.cl = true) from fun h => h6 h.1)
    clear h6
    obtain ⟨g, o, hsh, hrow⟩ := HS.out
    have hv := hrow q HQ.out
    rw [hsh] at c7
    clear hrow
    go_upto_region 5 with fail
    by_cases h7 : t < F q
    · have d7 : decide (t < F q) = true := decide_eq_true h7
      have HA := Lib.hid (show askM c F k (q : Int) t = (1, 0) by rw [askM, if_neg HN.out, if_neg HG.out, Int.toNat_natCast, if_pos h7])
      clear h7
      go_quiet (fail)
      obtain ⟨w3, hw3⟩ : ∃ w3, w3 = w2.drewN nq := ⟨_, rfl⟩
      rw [← hw3]
      have hbq : Below w2.heap.size w2 w3 := by rw [hw3]; exact below_drewN (Below.refl _ _) nq
      clear hw3 y0 y1 y2 y3 y4 y5 y6 z0 z1 z2 zf0 zf1 zf2 c7 c8
      replace HX := Lib.hid ((hbq.block _ (Array.getElem?_eq_some_iff.1 HX.out).1).trans HX.out)
      replace HZ := Lib.hid ((hbq.block _ (Array.getElem?_eq_some_iff.1 HZ.out).1).trans HZ.out)
      replace HM := Lib.hid (HM.out.below hbq HM.out.lt)
      replace HS := Lib.hid (HS.out.below hbq)
      replace HB := Lib.hid (HB.out.trans (hbq.mono HB.out.size))
      clear hbq
      obtain ⟨y0, y1, y2, y3, y4, y5, y6⟩ : w3.cell? ⟨w.heap.size, 0, none⟩ = some (.int .i64 k) ∧ w3.cell? ⟨w.heap.size, 1, none⟩ = some (.int .i64 i) ∧ w3.cell? ⟨w.heap.size, 2, none⟩ = some (.int .i64 hd) ∧ w3.cell? ⟨w.heap.size, 3, none⟩ = some (.int .i64 (q : Int)) ∧ w3.cell? ⟨w.heap.size, 4, none⟩ = some (.int .u64 t) ∧ w3.cell? ⟨w.heap.size, 5, none⟩ = some (.slice la ln lc) ∧ w3.cell? ⟨w.heap.size, 6, none⟩ = some (.int .i64 y) := by simp [World.cell?, HX.out]
      obtain ⟨z0, z1, z2, zf⟩ := three_cells HZ.out
      have zf0 := zf 0
      have zf1 := zf 1
      have zf2 := zf 2
      have c7 := HM.out.c7
      have c8 := HM.out.c8
      clear zf
      have HR := Lib.hid (three_cells (heap_setCell_same _ (w.heap.size + 1) 2 _ _ (.slice none 0 0) (heap_setCell_same _ (w.heap.size + 1) 1 _ _ (.int .i64 0) (heap_setCell_same _ (w.heap.size + 1) 0 _ _ (.int .i64 1) HZ.out))))
      go_wp2_with fail
      obtain ⟨r0, r1, r2, _⟩ := HR.out
      refine bodyPost_ret (v := .agg #[.int .i64 1, .int .i64 0, .slice none 0 0]) (by simp [results, Tryz.results35, go_sem, r0, r1, r2]) rfl ⟨by rw [HA.out]; rfl, ?_⟩
      exact ((HB.out.setCell (Nat.le_succ _) _).setCell (Nat.le_succ _) _).setCell (Nat.le_succ _) _
    · have d7 : decide (t < F q) = false := decide_eq_false h7
      have HA := Lib.hid (show askM c F k (q : Int) t = (0, 0) by rw [askM, if_neg HN.out, if_neg HG.out, Int.toNat_natCast, if_neg h7])
      clear h7
      go_quiet (fail)
      obtain ⟨w3, hw3⟩ : ∃ w3, w3 = w2.drewN nq := ⟨_, rfl⟩
      rw [← hw3]
      have hbq : Below w2.heap.size w2 w3 := by rw [hw3]; exact below_drewN (Below.refl _ _) nq
      clear hw3 y0 y1 y2 y3 y4 y5 y6 z0 z1 z2 zf0 zf1 zf2 c7 c8
      replace HX := Lib.hid ((hbq.block _ (Array.getElem?_eq_some_iff.1 HX.out).1).trans HX.out)
      replace HZ := Lib.hid ((hbq.block _ (Array.getElem?_eq_some_iff.1 HZ.out).1).trans HZ.out)
      replace HM := Lib.hid (HM.out.below hbq HM.out.lt)
      replace HS := Lib.hid (HS.out.below hbq)
      replace HB := Lib.hid (HB.out.trans (hbq.mono HB.out.size))
      clear hbq
      obtain ⟨y0, y1, y2, y3, y4, y5, y6⟩ : w3.cell? ⟨w.heap.size, 0, none⟩ = some (.int .i64 k) ∧ w3.cell? ⟨w.heap.size, 1, none⟩ = some (.int .i64 i) ∧ w3.cell? ⟨w.heap.size, 2, none⟩ = some (.int .i64 hd) ∧ w3.cell? ⟨w.heap.size, 3, none⟩ = some (.int .i64 (q : Int)) ∧ w3.cell? ⟨w.heap.size, 4, none⟩ = some (.int .u64 t) ∧ w3.cell? ⟨w.heap.size, 5, none⟩ = some (.slice la ln lc) ∧ w3.cell? ⟨w.heap.size, 6, none⟩ = some (.int .i64 y) := by simp [World.cell?, HX.out]
      obtain ⟨z0, z1, z2, zf⟩ := three_cells HZ.out
      have zf0 := zf 0
      have zf1 := zf 1
      have zf2 := zf 2
      have c7 := HM.out.c7
      have c8 := HM.out.c8
      clear zf
      have HR := Lib.hid (three_cells (heap_setCell_same _ (w.heap.size + 1) 2 _ _ (.slice none 0 0) (heap_setCell_same _ (w.heap.size + 1) 1 _ _ (.int .i64 0) (heap_setCell_same _ (w.heap.size + 1) 0 _ _ (.int .i64 0) HZ.out))))
      go_wp2_with fail
      obtain ⟨r0, r1, r2, _⟩ := HR.out
      refine bodyPost_ret (v := .agg #[.int .i64 0, .int .i64 0, .slice none 0 0]) (by simp [results, Tryz.results35, go_sem, r0, r1, r2]) rfl ⟨by rw [HA.out]; rfl, ?_⟩
      exact ((HB.out.setCell (Nat.le_succ _) _).setCell (Nat.le_succ _) _).setCell (Nat.le_succ _) _
end Go.Proofs.YtdllgeanmlmmfaaGreatDoor.Md
