/-
  YtlkljeedlkbkgaaGreatDoorClRefStale
  YtlkljeedlkbkgaaGreatDoorClRefOpenNo
-/
import Derived.Test.YtlkljeedlkbkgaaGreatDoorJoined22
import Derived.Test.YtlkljeedlkbkgaaGreatDoorJoined11
import Derived.Test.YtlkljeedlkbkgaaGreatDoorGRef
import Derived.BigQuiet
namespace Go.Proofs.YtlkljeedlkbkgaaGreatDoor.Cl
open Go.RowKit Gr Go.Proofs.YtlkljeedlkbkgaaGreatDoor.Fault
set_option linter.unusedVariables false
theorem rdp_heap {w : World} {g : Nat} {b : ByteArray} {n : Int} {T : TypeId} (h : w.heap[g]? = some (.cells #[.string b, .int .i64 n] T (0, 0))) : RdP w (.slice (some ⟨g, 0, none⟩) 1 1) [(b, n)] := by
  refine ⟨_, _, rfl, .inr ⟨g, 0, rfl, fun i s' n' hx => ?_⟩⟩
  have hi : i = 0 := by have := (List.getElem?_eq_some_iff.1 hx).1; simp at this; exact this
  subst hi
  simp at hx
  obtain ⟨rfl, rfl⟩ := hx
  obtain ⟨h0, h1, _⟩ := pair_cells h
  exact ⟨by simpa using h0, by simpa using h1⟩
theorem refstale_any (h : Int) (w : World) : Calls Tryz.prog 74 #[.int .i64 h] w fun e w' => e = .returned (.tuple #[.slice (some ⟨w.heap.size, 0, none⟩) 1 1, .int .i64 7]) ∧ w'.heap[w.heap.size]? = some (.cells #[.string handleS, .int .i64 h] 146 (0, 0)) ∧ Below w.heap.size w w' := by
  have hr := Lib.hid (heap_alloc_new w (.cells #[.string handleS, .int .i64 h] 146))
  have hb : Below w.heap.size w (w.alloc (.cells #[.string handleS, .int .i64 h] 146)) := (Below.refl _ _).alloc (Nat.le_refl _) _
  have HB := Lib.hid hb
  clear hb
  go_enter Tryz.func74, Tryz.ntmps74
  go_wp2_with fail
  exact bodyPost_ret (v := .tuple #[.slice (some ⟨w.heap.size, 0, none⟩) 1 1, .int .i64 7]) (by simp [results, Tryz.results74, go_sem]) rfl ⟨rfl, hr.out, HB.out⟩
set_option maxRecDepth 1000000 in
set_option maxHeartbeats 8000000 in
theorem refadvance_stale {w : World} {vh vb : Value} {H : List Ed} {B : List Batch.Ch} (id t : Int) (hH : Sl w vh H) (hB : Batch.Sl w vb B) (hr : Rise H) (hno : hasB H id = false) :
    Calls Tryz.prog 33 #[.agg #[vh, vb], .int .i64 id, .int .u64 t] w fun e w' => ∃ v, e = .returned (.tuple #[.agg #[vh, vb], .slice none 0 0, v, .int .i64 7]) ∧ RdP w' v [(handleS, id)] ∧ Below w.heap.size w w' := by
  have HH := Lib.hid hH
  have HN := Lib.hid (refIdx_no hno)
  have HRR := Lib.hid hr
  obtain ⟨ah, ch, e1, _⟩ := hH
  obtain ⟨ab, cb, e2, _⟩ := hB
  subst e1 e2
  obtain ⟨w0, hw0⟩ : ∃ w0, w0 = (w.alloc (.cells #[.slice ah H.length ch, .slice ab B.length cb] 29)).alloc (.cells #[.slice none 0 0, .slice none 0 0] 29) := ⟨_, rfl⟩
  have hb0 : Below w.heap.size w w0 := by rw [hw0]; exact ((Below.refl _ _).alloc (Nat.le_refl _) _).alloc (by simp) _
  have hs0 : w0.heap.size = w.heap.size + 1 + 1 := by rw [hw0]; simp
  have hx0 : w0.heap[w.heap.size]? = some (.cells #[.slice ah H.length ch, .slice ab B.length cb] 29 (0, 0)) := by rw [hw0, heap_alloc_old _ _ (by simp)]; exact heap_alloc_new w _
  have hy0 : w0.heap[w.heap.size + 1]? = some (.cells #[.slice none 0 0, .slice none 0 0] 29 (0, 0)) := by
    rw [hw0]; have := heap_alloc_new (w.alloc (.cells #[.slice ah H.length ch, .slice ab B.length cb] 29)) (.cells #[.slice none 0 0, .slice none 0 0] 29); simpa using this
  have HX := Lib.hid hx0
  have HY := Lib.hid hy0
  have HB := Lib.hid hb0
  have HS := Lib.hid hs0
  obtain ⟨x0, x1, _⟩ := pair_cells hx0
  clear hb0 hx0 hy0 hs0 hno hr
  go_enter Tryz.func33, Tryz.ntmps33
  go_upto_region 1 with fail
  rw [← hw0]
  clear hw0
  go_wp2_with fail
  go_at_call 12
  refine (reffind_any id (HH.out.below HB.out) HRR.out).mono ?_
  rw [HN.out]
  rintro e w1 ⟨rfl, hb⟩
  replace HX := Lib.hid ((hb.block _ (by have := HS.out; omega)).trans HX.out)
  replace HY := Lib.hid ((hb.block _ (by have := HS.out; omega)).trans HY.out)
  replace HB := Lib.hid (HB.out.trans (hb.mono HB.out.size))
  have hs1 := hb.size
  clear hb x0 x1
  go_wp2_with fail
  go_at_call 74
  refine (refstale_any id w1).mono ?_
  rintro e w2 ⟨rfl, hpl, hb⟩
  replace HX := Lib.hid ((hb.block _ (Array.getElem?_eq_some_iff.1 HX.out).1).trans HX.out)
  have hg1 : w.heap.size + 1 < w1.heap.size := (Array.getElem?_eq_some_iff.1 HY.out).1
  replace HY := Lib.hid ((hb.block _ hg1).trans HY.out)
  replace HB := Lib.hid (HB.out.trans (hb.mono HB.out.size))
  have HPL := Lib.hid (show (((w2.setCell ⟨w.heap.size + 1, 0, none⟩ (.slice ah H.length ch)).setCell ⟨w.heap.size + 1, 1, none⟩ (.slice ab B.length cb))).heap[w1.heap.size]? = some (.cells #[.string handleS, .int .i64 id] 146 (0, 0)) by
    rw [heap_setCell_other _ _ _ _ (by dsimp only; omega), heap_setCell_other _ _ _ _ (by dsimp only; omega)]; exact hpl)
  obtain ⟨G1, hG1⟩ : ∃ G1, G1 = w1.heap.size := ⟨_, rfl⟩
  rw [← hG1] at HPL
  have HR := Lib.hid (pair_cells (heap_setCell_same _ (w.heap.size + 1) 1 _ _ (.slice ab B.length cb) (heap_setCell_same w2 (w.heap.size + 1) 0 _ _ (.slice ah H.length ch) HY.out)))
  have HBE := Lib.hid ((HB.out.setCell (p := ⟨w.heap.size + 1, 0, none⟩) (Nat.le_succ _) (.slice ah H.length ch)).setCell (p := ⟨w.heap.size + 1, 1, none⟩) (Nat.le_succ _) (.slice ab B.length cb))
  clear hb hs1 hpl hg1
  rw [← hG1]
  clear hG1
  obtain ⟨x0, x1, _⟩ := pair_cells HX.out
  obtain ⟨y0, y1, yf⟩ := pair_cells HY.out
  have yf0 := yf 0
  have yf1 := yf 1
  clear yf
  go_wp2_with fail
  obtain ⟨r0, r1, _⟩ := HR.out
  refine bodyPost_ret (v := .tuple #[.agg #[.slice ah H.length ch, .slice ab B.length cb], .slice none 0 0, .slice (some ⟨G1, 0, none⟩) 1 1, .int .i64 7]) (by simp [results, Tryz.results33, go_sem, r0, r1]) rfl ⟨_, rfl, rdp_heap HPL.out, HBE.out⟩
set_option maxRecDepth 1000000 in
set_option maxHeartbeats 8000000 in
theorem refclose_stale {w : World} {vh vb : Value} {H : List Ed} {B : List Batch.Ch} (id : Int) (hH : Sl w vh H) (hB : Batch.Sl w vb B) (hr : Rise H) (hno : hasB H id = false) :
    Calls Tryz.prog 34 #[.agg #[vh, vb], .int .i64 id] w fun e w' => ∃ v, e = .returned (.tuple #[.agg #[vh, vb], .slice none 0 0, v, .int .i64 7]) ∧ RdP w' v [(handleS, id)] ∧ Below w.heap.size w w' := by
  have HH := Lib.hid hH
  have HN := Lib.hid (refIdx_no hno)
  have HRR := Lib.hid hr
  obtain ⟨ah, ch, e1, _⟩ := hH
  obtain ⟨ab, cb, e2, _⟩ := hB
  subst e1 e2
  obtain ⟨w0, hw0⟩ : ∃ w0, w0 = (w.alloc (.cells #[.slice ah H.length ch, .slice ab B.length cb] 29)).alloc (.cells #[.slice none 0 0, .slice none 0 0] 29) := ⟨_, rfl⟩
  have hb0 : Below w.heap.size w w0 := by rw [hw0]; exact ((Below.refl _ _).alloc (Nat.le_refl _) _).alloc (by simp) _
  have hs0 : w0.heap.size = w.heap.size + 1 + 1 := by rw [hw0]; simp
  have hx0 : w0.heap[w.heap.size]? = some (.cells #[.slice ah H.length ch, .slice ab B.length cb] 29 (0, 0)) := by rw [hw0, heap_alloc_old _ _ (by simp)]; exact heap_alloc_new w _
  have hy0 : w0.heap[w.heap.size + 1]? = some (.cells #[.slice none 0 0, .slice none 0 0] 29 (0, 0)) := by
    rw [hw0]; have := heap_alloc_new (w.alloc (.cells #[.slice ah H.length ch, .slice ab B.length cb] 29)) (.cells #[.slice none 0 0, .slice none 0 0] 29); simpa using this
  have HX := Lib.hid hx0
  have HY := Lib.hid hy0
  have HB := Lib.hid hb0
  have HS := Lib.hid hs0
  obtain ⟨x0, x1, _⟩ := pair_cells hx0
  clear hb0 hx0 hy0 hs0 hno hr
  go_enter Tryz.func34, Tryz.ntmps34
  go_upto_region 1 with fail
  rw [← hw0]
  clear hw0
  go_wp2_with fail
  go_at_call 12
  refine (reffind_any id (HH.out.below HB.out) HRR.out).mono ?_
  rw [HN.out]
  rintro e w1 ⟨rfl, hb⟩
  replace HX := Lib.hid ((hb.block _ (by have := HS.out; omega)).trans HX.out)
  replace HY := Lib.hid ((hb.block _ (by have := HS.out; omega)).trans HY.out)
  replace HB := Lib.hid (HB.out.trans (hb.mono HB.out.size))
  have hs1 := hb.size
  clear hb x0 x1
  go_wp2_with fail
  go_at_call 74
  refine (refstale_any id w1).mono ?_
  rintro e w2 ⟨rfl, hpl, hb⟩
  replace HX := Lib.hid ((hb.block _ (Array.getElem?_eq_some_iff.1 HX.out).1).trans HX.out)
  have hg1 : w.heap.size + 1 < w1.heap.size := (Array.getElem?_eq_some_iff.1 HY.out).1
  replace HY := Lib.hid ((hb.block _ hg1).trans HY.out)
  replace HB := Lib.hid (HB.out.trans (hb.mono HB.out.size))
  have HPL := Lib.hid (show (((w2.setCell ⟨w.heap.size + 1, 0, none⟩ (.slice ah H.length ch)).setCell ⟨w.heap.size + 1, 1, none⟩ (.slice ab B.length cb))).heap[w1.heap.size]? = some (.cells #[.string handleS, .int .i64 id] 146 (0, 0)) by
    rw [heap_setCell_other _ _ _ _ (by dsimp only; omega), heap_setCell_other _ _ _ _ (by dsimp only; omega)]; exact hpl)
  obtain ⟨G1, hG1⟩ : ∃ G1, G1 = w1.heap.size := ⟨_, rfl⟩
  rw [← hG1] at HPL
  have HR := Lib.hid (pair_cells (heap_setCell_same _ (w.heap.size + 1) 1 _ _ (.slice ab B.length cb) (heap_setCell_same w2 (w.heap.size + 1) 0 _ _ (.slice ah H.length ch) HY.out)))
  have HBE := Lib.hid ((HB.out.setCell (p := ⟨w.heap.size + 1, 0, none⟩) (Nat.le_succ _) (.slice ah H.length ch)).setCell (p := ⟨w.heap.size + 1, 1, none⟩) (Nat.le_succ _) (.slice ab B.length cb))
  clear hb hs1 hpl hg1
  rw [← hG1]
  clear hG1
  obtain ⟨x0, x1, _⟩ := pair_cells HX.out
  obtain ⟨y0, y1, yf⟩ := pair_cells HY.out
  have yf0 := yf 0
  have yf1 := yf 1
  clear yf
  go_wp2_with fail
  obtain ⟨r0, r1, _⟩ := HR.out
  refine bodyPost_ret (v := .tuple #[.agg #[.slice ah H.length ch, .slice ab B.length cb], .slice none 0 0, .slice (some ⟨G1, 0, none⟩) 1 1, .int .i64 7]) (by simp [results, Tryz.results34, go_sem, r0, r1]) rfl ⟨_, rfl, rdp_heap HPL.out, HBE.out⟩
set_option maxRecDepth 1000000 in
set_option maxHeartbeats 8000000 in
theorem refopen_stale {w : World} {vh vb : Value} {H : List Ed} {B : List Batch.Ch} (id t : Int) (hH : Sl w vh H) (hB : Batch.Sl w vb B) (hr : Rise H) (hno : hasB H id = false) :
    Calls Tryz.prog 32 #[.agg #[vh, vb], .int .i64 id, .int .i64 t] w fun e w' => ∃ v, e = .returned (.tuple #[.agg #[vh, vb], .slice none 0 0, v, .int .i64 7]) ∧ RdP w' v [(handleS, id)] ∧ Below w.heap.size w w' := by
  have HH := Lib.hid hH
  have HN := Lib.hid (refIdx_no hno)
  have HRR := Lib.hid hr
  obtain ⟨ah, ch, e1, _⟩ := hH
  obtain ⟨ab, cb, e2, _⟩ := hB
  subst e1 e2
  obtain ⟨w0, hw0⟩ : ∃ w0, w0 = (w.alloc (.cells #[.slice ah H.length ch, .slice ab B.length cb] 29)).alloc (.cells #[.slice none 0 0, .slice none 0 0] 29) := ⟨_, rfl⟩
  have hb0 : Below w.heap.size w w0 := by rw [hw0]; exact ((Below.refl _ _).alloc (Nat.le_refl _) _).alloc (by simp) _
  have hs0 : w0.heap.size = w.heap.size + 1 + 1 := by rw [hw0]; simp
  have hx0 : w0.heap[w.heap.size]? = some (.cells #[.slice ah H.length ch, .slice ab B.length cb] 29 (0, 0)) := by rw [hw0, heap_alloc_old _ _ (by simp)]; exact heap_alloc_new w _
  have hy0 : w0.heap[w.heap.size + 1]? = some (.cells #[.slice none 0 0, .slice none 0 0] 29 (0, 0)) := by
    rw [hw0]; have := heap_alloc_new (w.alloc (.cells #[.slice ah H.length ch, .slice ab B.length cb] 29)) (.cells #[.slice none 0 0, .slice none 0 0] 29); simpa using this
  have HX := Lib.hid hx0
  have HY := Lib.hid hy0
  have HB := Lib.hid hb0
  have HS := Lib.hid hs0
  obtain ⟨x0, x1, _⟩ := pair_cells hx0
  clear hb0 hx0 hy0 hs0 hno hr
  go_enter Tryz.func32, Tryz.ntmps32
  go_upto_region 1 with fail
  rw [← hw0]
  clear hw0
  go_wp2_with fail
  go_at_call 12
  refine (reffind_any id (HH.out.below HB.out) HRR.out).mono ?_
  rw [HN.out]
  rintro e w1 ⟨rfl, hb⟩
  replace HX := Lib.hid ((hb.block _ (by have := HS.out; omega)).trans HX.out)
  replace HY := Lib.hid ((hb.block _ (by have := HS.out; omega)).trans HY.out)
  replace HB := Lib.hid (HB.out.trans (hb.mono HB.out.size))
  have hs1 := hb.size
  clear hb x0 x1
  go_wp2_with fail
  go_at_call 74
  refine (refstale_any id w1).mono ?_
  rintro e w2 ⟨rfl, hpl, hb⟩
  replace HX := Lib.hid ((hb.block _ (Array.getElem?_eq_some_iff.1 HX.out).1).trans HX.out)
  have hg1 : w.heap.size + 1 < w1.heap.size := (Array.getElem?_eq_some_iff.1 HY.out).1
  replace HY := Lib.hid ((hb.block _ hg1).trans HY.out)
  replace HB := Lib.hid (HB.out.trans (hb.mono HB.out.size))
  have HPL := Lib.hid (show (((w2.setCell ⟨w.heap.size + 1, 0, none⟩ (.slice ah H.length ch)).setCell ⟨w.heap.size + 1, 1, none⟩ (.slice ab B.length cb))).heap[w1.heap.size]? = some (.cells #[.string handleS, .int .i64 id] 146 (0, 0)) by
    rw [heap_setCell_other _ _ _ _ (by dsimp only; omega), heap_setCell_other _ _ _ _ (by dsimp only; omega)]; exact hpl)
  obtain ⟨G1, hG1⟩ : ∃ G1, G1 = w1.heap.size := ⟨_, rfl⟩
  rw [← hG1] at HPL
  have HR := Lib.hid (pair_cells (heap_setCell_same _ (w.heap.size + 1) 1 _ _ (.slice ab B.length cb) (heap_setCell_same w2 (w.heap.size + 1) 0 _ _ (.slice ah H.length ch) HY.out)))
  have HBE := Lib.hid ((HB.out.setCell (p := ⟨w.heap.size + 1, 0, none⟩) (Nat.le_succ _) (.slice ah H.length ch)).setCell (p := ⟨w.heap.size + 1, 1, none⟩) (Nat.le_succ _) (.slice ab B.length cb))
  clear hb hs1 hpl hg1
  rw [← hG1]
  clear hG1
  obtain ⟨x0, x1, _⟩ := pair_cells HX.out
  obtain ⟨y0, y1, yf⟩ := pair_cells HY.out
  have yf0 := yf 0
  have yf1 := yf 1
  clear yf
  go_wp2_with fail
  obtain ⟨r0, r1, _⟩ := HR.out
  refine bodyPost_ret (v := .tuple #[.agg #[.slice ah H.length ch, .slice ab B.length cb], .slice none 0 0, .slice (some ⟨G1, 0, none⟩) 1 1, .int .i64 7]) (by simp [results, Tryz.results32, go_sem, r0, r1]) rfl ⟨_, rfl, rdp_heap HPL.out, HBE.out⟩
end Go.Proofs.YtlkljeedlkbkgaaGreatDoor.Cl
namespace Go.Proofs.YtlkljeedlkbkgaaGreatDoor.Cl
open Go.RowKit Gr Go.Proofs.YtlkljeedlkbkgaaGreatDoor.Fault
set_option linter.unusedVariables false
set_option maxRecDepth 1000000 in
set_option maxHeartbeats 8000000 in
theorem refopen_neg {w : World} {vh vb : Value} {H : List Ed} {B : List Batch.Ch} (id id2 : Int) (hH : Sl w vh H) (hB : Batch.Sl w vb B) (hr : Rise H) (hyes : hasB H id = true) (hneg : id2 < 0) :
    Calls Tryz.prog 32 #[.agg #[vh, vb], .int .i64 id, .int .i64 id2] w fun e w' => e = .returned (.tuple #[.agg #[vh, vb], .slice none 0 0, .slice none 0 0, .int .i64 1]) ∧ Below w.heap.size w w' := by
  have HH := Lib.hid hH
  have HN := Lib.hid (refIdx_yes hyes)
  have HRR := Lib.hid hr
  obtain ⟨ah, ch, e1, _⟩ := hH
  obtain ⟨ab, cb, e2, _⟩ := hB
  subst e1 e2
  obtain ⟨w0, hw0⟩ : ∃ w0, w0 = (w.alloc (.cells #[.slice ah H.length ch, .slice ab B.length cb] 29)).alloc (.cells #[.slice none 0 0, .slice none 0 0] 29) := ⟨_, rfl⟩
  have hb0 : Below w.heap.size w w0 := by rw [hw0]; exact ((Below.refl _ _).alloc (Nat.le_refl _) _).alloc (by simp) _
  have hs0 : w0.heap.size = w.heap.size + 1 + 1 := by rw [hw0]; simp
  have hx0 : w0.heap[w.heap.size]? = some (.cells #[.slice ah H.length ch, .slice ab B.length cb] 29 (0, 0)) := by rw [hw0, heap_alloc_old _ _ (by simp)]; exact heap_alloc_new w _
  have hy0 : w0.heap[w.heap.size + 1]? = some (.cells #[.slice none 0 0, .slice none 0 0] 29 (0, 0)) := by
    rw [hw0]; have := heap_alloc_new (w.alloc (.cells #[.slice ah H.length ch, .slice ab B.length cb] 29)) (.cells #[.slice none 0 0, .slice none 0 0] 29); simpa using this
  have HX := Lib.hid hx0
  have HY := Lib.hid hy0
  have HB := Lib.hid hb0
  have HS := Lib.hid hs0
  obtain ⟨x0, x1, _⟩ := pair_cells hx0
  clear hb0 hx0 hy0 hs0 hyes hr
  have hd2 : decide (id2 < 0) = true := decide_eq_true hneg
  go_enter Tryz.func32, Tryz.ntmps32
  go_upto_region 1 with fail
  rw [← hw0]
  clear hw0
  go_wp2_with fail
  go_at_call 12
  refine (reffind_any id (HH.out.below HB.out) HRR.out).mono ?_
  rw [HN.out]
  rintro e w1 ⟨rfl, hb⟩
  replace HX := Lib.hid ((hb.block _ (by have := HS.out; omega)).trans HX.out)
  replace HY := Lib.hid ((hb.block _ (by have := HS.out; omega)).trans HY.out)
  replace HB := Lib.hid (HB.out.trans (hb.mono HB.out.size))
  clear hb x0 x1
  have hi0 : (0 : Int) ≤ (idx H id : Int) := Int.natCast_nonneg _
  generalize idx H id = ix at *
  have HR := Lib.hid (pair_cells (heap_setCell_same _ (w.heap.size + 1) 1 _ _ (.slice ab B.length cb) (heap_setCell_same w1 (w.heap.size + 1) 0 _ _ (.slice ah H.length ch) HY.out)))
  have HBE := Lib.hid ((HB.out.setCell (p := ⟨w.heap.size + 1, 0, none⟩) (Nat.le_succ _) (.slice ah H.length ch)).setCell (p := ⟨w.heap.size + 1, 1, none⟩) (Nat.le_succ _) (.slice ab B.length cb))
  obtain ⟨x0, x1, _⟩ := pair_cells HX.out
  obtain ⟨y0, y1, yf⟩ := pair_cells HY.out
  have yf0 := yf 0
  have yf1 := yf 1
  clear yf
  go_wp2_with fail
  obtain ⟨r0, r1, _⟩ := HR.out
  refine bodyPost_ret (v := .tuple #[.agg #[.slice ah H.length ch, .slice ab B.length cb], .slice none 0 0, .slice none 0 0, .int .i64 1]) (by simp [results, Tryz.results32, go_sem, r0, r1]) rfl ⟨rfl, HBE.out⟩
set_option maxRecDepth 1000000 in
set_option maxHeartbeats 8000000 in
theorem refopen_has {w : World} {vh vb : Value} {H : List Ed} {B : List Batch.Ch} (id id2 : Int) (hH : Sl w vh H) (hB : Batch.Sl w vb B) (hr : Rise H) (hyes : hasB H id = true) (hneg : ¬ id2 < 0) (h2 : hasB H id2 = true) :
    Calls Tryz.prog 32 #[.agg #[vh, vb], .int .i64 id, .int .i64 id2] w fun e w' => e = .returned (.tuple #[.agg #[vh, vb], .slice none 0 0, .slice none 0 0, .int .i64 1]) ∧ Below w.heap.size w w' := by
  have HH := Lib.hid hH
  have HN := Lib.hid (refIdx_yes hyes)
  have HRR := Lib.hid hr
  obtain ⟨ah, ch, e1, _⟩ := hH
  obtain ⟨ab, cb, e2, _⟩ := hB
  subst e1 e2
  obtain ⟨w0, hw0⟩ : ∃ w0, w0 = (w.alloc (.cells #[.slice ah H.length ch, .slice ab B.length cb] 29)).alloc (.cells #[.slice none 0 0, .slice none 0 0] 29) := ⟨_, rfl⟩
  have hb0 : Below w.heap.size w w0 := by rw [hw0]; exact ((Below.refl _ _).alloc (Nat.le_refl _) _).alloc (by simp) _
  have hs0 : w0.heap.size = w.heap.size + 1 + 1 := by rw [hw0]; simp
  have hx0 : w0.heap[w.heap.size]? = some (.cells #[.slice ah H.length ch, .slice ab B.length cb] 29 (0, 0)) := by rw [hw0, heap_alloc_old _ _ (by simp)]; exact heap_alloc_new w _
  have hy0 : w0.heap[w.heap.size + 1]? = some (.cells #[.slice none 0 0, .slice none 0 0] 29 (0, 0)) := by
    rw [hw0]; have := heap_alloc_new (w.alloc (.cells #[.slice ah H.length ch, .slice ab B.length cb] 29)) (.cells #[.slice none 0 0, .slice none 0 0] 29); simpa using this
  have HX := Lib.hid hx0
  have HY := Lib.hid hy0
  have HB := Lib.hid hb0
  have HS := Lib.hid hs0
  obtain ⟨x0, x1, _⟩ := pair_cells hx0
  clear hb0 hx0 hy0 hs0 hyes hr
  have hd2 : decide (id2 < 0) = false := decide_eq_false hneg
  have HN2 := Lib.hid (refIdx_yes h2)
  go_enter Tryz.func32, Tryz.ntmps32
  go_upto_region 1 with fail
  rw [← hw0]
  clear hw0
  go_wp2_with fail
  go_at_call 12
  refine (reffind_any id (HH.out.below HB.out) HRR.out).mono ?_
  rw [HN.out]
  rintro e w1 ⟨rfl, hb⟩
  replace HX := Lib.hid ((hb.block _ (by have := HS.out; omega)).trans HX.out)
  replace HY := Lib.hid ((hb.block _ (by have := HS.out; omega)).trans HY.out)
  replace HB := Lib.hid (HB.out.trans (hb.mono HB.out.size))
  clear hb x0 x1
  have hi0 : (0 : Int) ≤ (idx H id : Int) := Int.natCast_nonneg _
  generalize idx H id = ix at *
  obtain ⟨x0, x1, _⟩ := pair_cells HX.out
  go_wp2_with fail
  go_at_call 12
  refine (reffind_any id2 (HH.out.below HB.out) HRR.out).mono ?_
  rw [HN2.out]
  rintro e w2 ⟨rfl, hb⟩
  replace HX := Lib.hid ((hb.block _ (Array.getElem?_eq_some_iff.1 HX.out).1).trans HX.out)
  replace HY := Lib.hid ((hb.block _ (Array.getElem?_eq_some_iff.1 HY.out).1).trans HY.out)
  replace HB := Lib.hid (HB.out.trans (hb.mono HB.out.size))
  clear hb x0 x1
  have hi2 : (0 : Int) ≤ (idx H id2 : Int) := Int.natCast_nonneg _
  generalize idx H id2 = ix2 at *
  have HR := Lib.hid (pair_cells (heap_setCell_same _ (w.heap.size + 1) 1 _ _ (.slice ab B.length cb) (heap_setCell_same w2 (w.heap.size + 1) 0 _ _ (.slice ah H.length ch) HY.out)))
  have HBE := Lib.hid ((HB.out.setCell (p := ⟨w.heap.size + 1, 0, none⟩) (Nat.le_succ _) (.slice ah H.length ch)).setCell (p := ⟨w.heap.size + 1, 1, none⟩) (Nat.le_succ _) (.slice ab B.length cb))
  obtain ⟨x0, x1, _⟩ := pair_cells HX.out
  obtain ⟨y0, y1, yf⟩ := pair_cells HY.out
  have yf0 := yf 0
  have yf1 := yf 1
  clear yf
  go_wp2_with fail
  obtain ⟨r0, r1, _⟩ := HR.out
  refine bodyPost_ret (v := .tuple #[.agg #[.slice ah H.length ch, .slice ab B.length cb], .slice none 0 0, .slice none 0 0, .int .i64 1]) (by simp [results, Tryz.results32, go_sem, r0, r1]) rfl ⟨rfl, HBE.out⟩
end Go.Proofs.YtlkljeedlkbkgaaGreatDoor.Cl
