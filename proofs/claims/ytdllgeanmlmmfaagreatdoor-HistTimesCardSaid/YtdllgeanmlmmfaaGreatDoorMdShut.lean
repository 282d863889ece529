/-
  PACKAGE model: Do of Shut.
-/
import Derived.Test.YtdllgeanmlmmfaaGreatDoorJoined1
import Derived.Test.YtdllgeanmlmmfaaGreatDoorGTo
import Derived.Deep.Cut
namespace Go.Proofs.YtdllgeanmlmmfaaGreatDoor.Md
open Go.RowKit Gr
set_option linter.unusedVariables false
set_option linter.unusedSimpArgs false

/-- Of what was there only block b is another one. -/
def OnlyB (w : World) (b : Nat) (w' : World) : Prop := w.heap.size ≤ w'.heap.size ∧ Below 0 w w' ∧ ∀ i, i < w.heap.size → i ≠ b → w'.heap[i]? = w.heap[i]?
theorem OnlyB.of_below {w w' : World} {b : Nat} (h : Below w.heap.size w w') : OnlyB w b w' := ⟨h.size, h.mono (Nat.zero_le _), fun i hi _ => h.block i hi⟩
theorem OnlyB.trans {w w' w'' : World} {b : Nat} (h : OnlyB w b w') (k : OnlyB w' b w'') : OnlyB w b w'' := ⟨Nat.le_trans h.1 k.1, h.2.1.trans k.2.1, fun i hi hn => (k.2.2 i (Nat.lt_of_lt_of_le hi h.1) hn).trans (h.2.2 i hi hn)⟩
theorem OnlyB.set {w w' : World} {b o : Nat} {u : Value} (h : OnlyB w b w') : OnlyB w b (w'.setCell ⟨b, o, none⟩ u) :=
  ⟨by simpa using h.1, h.2.1.setCell (Nat.zero_le _) _, fun i hi hn => (heap_setCell_other _ _ _ _ (by simpa using hn)).trans (h.2.2 i hi hn)⟩
theorem OnlyB.new {w w' : World} {b g o : Nat} {u : Value} (h : OnlyB w b w') (hg : w.heap.size ≤ g) : OnlyB w b (w'.setCell ⟨g, o, none⟩ u) :=
  ⟨by simpa using h.1, h.2.1.setCell (Nat.zero_le _) _, fun i hi hn => (heap_setCell_other _ _ _ _ (by show i ≠ g; omega)).trans (h.2.2 i hi hn)⟩
set_option maxRecDepth 1000000 in
set_option maxHeartbeats 8000000 in
theorem mdShut_any {w : World} {b : Nat} {c : Mc} (h : McAt w b c) (i hd p t : Int) (la : Option Addr) (ln lc : Nat) (y : Int) (hi : hasM c i = true) :
    Calls Tryz.prog 11 #[.pointer (some ⟨b, 0, none⟩), .agg #[.int .i64 7, .int .i64 i, .int .i64 hd, .int .i64 p, .int .u64 t, .slice la ln lc, .int .i64 y]] w fun e w' => e = .returned (.agg #[.int .i64 0, .int .i64 0, .slice none 0 0]) ∧ McAt w' b { c with cl := true } ∧ OnlyB w b w' := by
  obtain ⟨w1, hw1⟩ : ∃ w1, w1 = (w.alloc (.cells #[.int .i64 7, .int .i64 i, .int .i64 hd, .int .i64 p, .int .u64 t, .slice la ln lc, .int .i64 y] 53)).alloc (.cells #[.int .i64 0, .int .i64 0, .slice none 0 0] 48) := ⟨_, rfl⟩
  have HB := Lib.hid (show Below w.heap.size w w1 by rw [hw1]; exact ((Below.refl _ _).alloc (Nat.le_refl _) _).alloc (by simp) _)
  have HX := Lib.hid (show w1.heap[w.heap.size]? = some (.cells #[.int .i64 7, .int .i64 i, .int .i64 hd, .int .i64 p, .int .u64 t, .slice la ln lc, .int .i64 y] 53 (0, 0)) by rw [hw1, heap_alloc_old _ _ (by simp)]; exact heap_alloc_new w _)
  have HZ := Lib.hid (show w1.heap[w.heap.size + 1]? = some (.cells #[.int .i64 0, .int .i64 0, .slice none 0 0] 48 (0, 0)) by
    rw [hw1]; have h := heap_alloc_new (w.alloc (.cells #[.int .i64 7, .int .i64 i, .int .i64 hd, .int .i64 p, .int .u64 t, .slice la ln lc, .int .i64 y] 53)) (.cells #[.int .i64 0, .int .i64 0, .slice none 0 0] 48); simpa using h)
  have HM := Lib.hid (h.below HB.out h.lt)
  have HLT := Lib.hid h.lt
  have HL1 := Lib.hid (show w.heap.size + 1 < w1.heap.size from (Array.getElem?_eq_some_iff.1 HZ.out).1)
  have HHI := Lib.hid (show mayM c 7 i = true by unfold mayM; rw [hi]; rfl)
  obtain ⟨y0, y1, y2, y3, y4, y5, y6⟩ : w1.cell? ⟨w.heap.size, 0, none⟩ = some (.int .i64 7) ∧ w1.cell? ⟨w.heap.size, 1, none⟩ = some (.int .i64 i) ∧ w1.cell? ⟨w.heap.size, 2, none⟩ = some (.int .i64 hd) ∧ w1.cell? ⟨w.heap.size, 3, none⟩ = some (.int .i64 p) ∧ w1.cell? ⟨w.heap.size, 4, none⟩ = some (.int .u64 t) ∧ w1.cell? ⟨w.heap.size, 5, none⟩ = some (.slice la ln lc) ∧ w1.cell? ⟨w.heap.size, 6, none⟩ = some (.int .i64 y) := by simp [World.cell?, HX.out]
  clear h hi
  go_enter Tryz.func11, Tryz.ntmps11
  go_upto_region 1 with fail
  rw [← hw1]
  clear hw1
  go_wp2_with fail
  go_at_call 34
  refine (mdMay_any HM.out 7 i hd p t la ln lc y).mono ?_
  rw [HHI.out]
  rintro e w2 ⟨rfl, hb⟩
  have hx2 := (hb.block _ (by have := HL1.out; omega)).trans HX.out
  have hz2 := (hb.block _ HL1.out).trans HZ.out
  have HM2 := Lib.hid (HM.out.below hb (by have := HLT.out; have := HB.out.size; omega))
  have HB2 := Lib.hid (HB.out.trans (hb.mono HB.out.size))
  clear y0 y1 y2 y3 y4 y5 y6 hb
  obtain ⟨x0, _⟩ : w2.cell? ⟨w.heap.size, 0, none⟩ = some (.int .i64 7) ∧ True := by simp [World.cell?, hx2]
  obtain ⟨z0, z1, z2, zf⟩ := three_cells hz2
  have zf0 := zf 0
  have zf1 := zf 1
  have zf2 := zf 2
  have c8 := HM2.out.c8
  have cf8 := HM2.out.free 8
  have hne1 : ¬ w.heap.size + 1 = b := by have := HLT.out; omega
  have hne2 : ¬ b = w.heap.size + 1 := by have := HLT.out; omega
  have hb8 := heap_setCell_same w2 b 8 _ _ (.bool true) HM2.out
  have hz8 : (w2.setCell ⟨b, 8, none⟩ (.bool true)).heap[w.heap.size + 1]? = some (.cells #[.int .i64 0, .int .i64 0, .slice none 0 0] 48 (0, 0)) := (heap_setCell_other _ _ _ _ (by show w.heap.size + 1 ≠ b; exact hne1)).trans hz2
  have HR := Lib.hid (three_cells (heap_setCell_same _ (w.heap.size + 1) 2 _ _ (.slice none 0 0) (heap_setCell_same _ (w.heap.size + 1) 1 _ _ (.int .i64 0) (heap_setCell_same _ (w.heap.size + 1) 0 _ _ (.int .i64 0) hz8))))
  have HBB := Lib.hid (show McAt ((((w2.setCell ⟨b, 8, none⟩ (.bool true)).setCell ⟨w.heap.size + 1, 0, none⟩ (.int .i64 0)).setCell ⟨w.heap.size + 1, 1, none⟩ (.int .i64 0)).setCell ⟨w.heap.size + 1, 2, none⟩ (.slice none 0 0)) b { c with cl := true } by
    unfold McAt
    rw [heap_setCell_other _ _ _ _ (by show b ≠ w.heap.size + 1; exact hne2), heap_setCell_other _ _ _ _ (by show b ≠ w.heap.size + 1; exact hne2), heap_setCell_other _ _ _ _ (by show b ≠ w.heap.size + 1; exact hne2), hb8]
    rfl)
  clear zf hx2 hz2 hb8 hz8
  go_wp2_with fail
  obtain ⟨r0, r1, r2, _⟩ := HR.out
  refine bodyPost_ret (v := .agg #[.int .i64 0, .int .i64 0, .slice none 0 0]) (by simp [results, Tryz.results11, go_sem, r0, r1, r2]) rfl ⟨rfl, HBB.out, ?_⟩
  exact ((((OnlyB.of_below HB2.out).set).new (Nat.le_succ _)).new (Nat.le_succ _)).new (Nat.le_succ _)
end Go.Proofs.YtdllgeanmlmmfaaGreatDoor.Md
