/-
  marchlandlaw18: To, From: a Cmd of the program's out of the document's, and back. (gen/scto.py)
-/
import Derived.Test.YtdbaacalfbbdiaaGreatDoorScLine2
import Derived.Test.YtdbaacalfbbdiaaGreatDoorScGuess
import Derived.Test.YtdbaacalfbbdiaaGreatDoorJoined9
import Derived.Test.YtdbaacalfbbdiaaGreatDoorJoined2
namespace Go.Proofs.YtdbaacalfbbdiaaGreatDoor.Sc
open Go.RowKit Go.Deep
set_option linter.unusedVariables false
set_option linter.unusedSimpArgs false
theorem freeC {w : World} {b : Nat} {T : TypeId} {cs : Array Value} (h : w.heap[b]? = some (.cells cs T (0, 0))) (o : Nat) : w.frozen? ⟨b, o, none⟩ = false := by simp [World.frozen?, h]
set_option maxRecDepth 1000000 in
set_option maxHeartbeats 16000000 in
theorem cmdTo_any {w : World} {L : List Batch.Ch} {al : Option Addr} {cl : Nat} (k hd p t : Int) (hl : L.length ≤ 100000) (hv : Batch.Rd w (.slice al L.length cl) L) :
    Calls Tryz.prog 9 #[.agg #[.int .i64 k, .int .i64 hd, .int .i64 p, .int .u64 t, .slice al L.length cl]] w fun e w' => ∃ la lc, e = .returned (.agg #[.int .i64 k, .int .i64 hd, .int .i64 p, .int .u64 t, .slice la L.length lc]) ∧ Batch.Sl w' (.slice la L.length lc) L ∧ Below w.heap.size w w' := by
  have HV := Lib.hid hv
  have HLL := Lib.hid hl
  clear hv hl
  obtain ⟨w1, hw1⟩ : ∃ w1, w1 = (w.alloc (.cells #[.int .i64 k, .int .i64 hd, .int .i64 p, .int .u64 t, .slice al L.length cl] 25)).alloc (.cells #[.int .i64 0, .int .i64 0, .int .i64 0, .int .u64 0, .slice none 0 0] 29) := ⟨_, rfl⟩
  have HX := Lib.hid (show w1.heap[w.heap.size]? = some (.cells #[.int .i64 k, .int .i64 hd, .int .i64 p, .int .u64 t, .slice al L.length cl] 25 (0, 0)) by rw [hw1, heap_alloc_old _ _ (by simp)]; exact heap_alloc_new w _)
  have HZ := Lib.hid (show w1.heap[w.heap.size + 1]? = some (.cells #[.int .i64 0, .int .i64 0, .int .i64 0, .int .u64 0, .slice none 0 0] 29 (0, 0)) by
    rw [hw1]; have h := heap_alloc_new (w.alloc (.cells #[.int .i64 k, .int .i64 hd, .int .i64 p, .int .u64 t, .slice al L.length cl] 25)) (.cells #[.int .i64 0, .int .i64 0, .int .i64 0, .int .u64 0, .slice none 0 0] 29); simpa using h)
  have HB1 := Lib.hid (show Below w.heap.size w w1 by rw [hw1]; exact ((Below.refl _ _).alloc (Nat.le_refl _) _).alloc (by simp) _)
  have hlt1 : w.heap.size < w1.heap.size := (Array.getElem?_eq_some_iff.1 HX.out).1
  have HLT2 := Lib.hid (show w.heap.size + 1 < w1.heap.size from (Array.getElem?_eq_some_iff.1 HZ.out).1)
  go_enter Tryz.func9, Tryz.ntmps9
  go_upto_region 1 with fail
  rw [← hw1]
  clear hw1
  obtain ⟨y0, y1, y2, y3, y4⟩ := cells5 HX.out
  refine wp_region_held_drew (S := (fun w' => w'.cell? ⟨w.heap.size, 0, none⟩ = some (.int .i64 k) ∧ w'.cell? ⟨w.heap.size, 1, none⟩ = some (.int .i64 hd) ∧ w'.cell? ⟨w.heap.size, 2, none⟩ = some (.int .i64 p) ∧ w'.cell? ⟨w.heap.size, 3, none⟩ = some (.int .u64 t) ∧ w'.cell? ⟨w.heap.size, 4, none⟩ = some (.slice al L.length cl))) (by kernel_rfl) ?_ (fun hHeld => ?_)
  · ((try dsimp only); exact ⟨y0, y1, y2, y3, y4⟩)
  refine tk 0 (fun _ => ?_)
  refine tk 1 (fun _ => ?_)
  refine tk 2 (fun _ => ?_)
  refine tk 3 (fun _ => ?_)
  refine tk 4 (fun _ => ?_)
  refine tk 5 (fun _ => ?_)
  refine tk 6 (fun _ => ?_)
  refine tk 7 (fun _ => ?_)
  refine tk 8 (fun _ => ?_)
  refine tk 9 (fun _ => ?_)
  refine wpAnyH_ready (rs := [10]) (by kernel_rfl) (by simp) ?_
  refine AllReadyH.cons rfl (fun K hK => ?_) AllReadyH.nil
  go_simp
  go_at_call 34
  refine (Batch.to_any ((HV.out.below HB1.out).below (below_drewN (Below.refl _ _) 1)) HLL.out).mono ?_
  rintro e w3 ⟨v2, rfl, ho, hcb⟩
  have hb2 := (below_drewN (Below.refl w1.heap.size w1) 1).trans (hcb.mono (by first | exact Nat.le_refl _ | simp))
  obtain ⟨a2, c2, rfl⟩ : ∃ a c, v2 = .slice a L.length c := by
    rcases ho.2 with ⟨e, h0⟩ | ⟨g, cap, cur, e, _⟩
    · exact ⟨none, 0, by rw [e]; congr 1; omega⟩
    · exact ⟨_, _, e⟩
  have HO := Lib.hid (ownSet5 (b := w.heap.size + 1) ho (by have := HLT2.out; simp; omega) (.int .i64 k) (.int .i64 hd) (.int .i64 p) (.int .u64 t) (.slice a2 L.length c2))
  clear hcb ho
  try go_wp2_with fail
  have hz3 := (hb2.block _ HLT2.out).trans HZ.out
  obtain ⟨z0, z1, z2, z3, z4⟩ := cells5 hz3
  have zf := freeC hz3
  have zf0 := zf 0
  have zf1 := zf 1
  have zf2 := zf 2
  have zf3 := zf 3
  have zf4 := zf 4
  have HB3 := Lib.hid (HB1.out.trans (hb2.mono HB1.out.size))
  have HZ3 := Lib.hid hz3
  clear zf hz3 HX
  refine hK.out _ _ ?_ (fun hHeld => ?_)
  · ((try dsimp only); exact ⟨(hb2.cell (p := ⟨w.heap.size, 0, none⟩) hlt1).trans y0, (hb2.cell (p := ⟨w.heap.size, 1, none⟩) hlt1).trans y1, (hb2.cell (p := ⟨w.heap.size, 2, none⟩) hlt1).trans y2, (hb2.cell (p := ⟨w.heap.size, 3, none⟩) hlt1).trans y3, (hb2.cell (p := ⟨w.heap.size, 4, none⟩) hlt1).trans y4⟩)
  clear hK K
  try simp only [Act.put, List.setIfInBounds_toArray, List.set_cons_zero, List.set_cons_succ, List.getElem_toArray, List.getElem_cons_zero, List.getElem_cons_succ]
  refine tk 11 (fun _ => ?_)
  refine wpAnyH_ready (rs := [12]) (by kernel_rfl) (by simp) ?_
  refine AllReadyH.cons rfl (fun K hK => ?_) AllReadyH.nil
  go_simp
  refine hK.out _ _ ?_ (fun hHeld => ?_)
  · ((try dsimp only); exact ⟨by simp [World.cell?_setCell_far, y0]; first | done | (exact (hb2.cell (p := ⟨w.heap.size, 0, none⟩) hlt1).trans y0), by simp [World.cell?_setCell_far, y1]; first | done | (exact (hb2.cell (p := ⟨w.heap.size, 1, none⟩) hlt1).trans y1), by simp [World.cell?_setCell_far, y2]; first | done | (exact (hb2.cell (p := ⟨w.heap.size, 2, none⟩) hlt1).trans y2), by simp [World.cell?_setCell_far, y3]; first | done | (exact (hb2.cell (p := ⟨w.heap.size, 3, none⟩) hlt1).trans y3), by simp [World.cell?_setCell_far, y4]; first | done | (exact (hb2.cell (p := ⟨w.heap.size, 4, none⟩) hlt1).trans y4)⟩)
  clear hK K
  try simp only [Act.put, List.setIfInBounds_toArray, List.set_cons_zero, List.set_cons_succ, List.getElem_toArray, List.getElem_cons_zero, List.getElem_cons_succ]
  refine wpAnyH_done (by kernel_rfl) ?_ _
  have hz3 := HZ3.out
  have HR := Lib.hid (cells5 (heap_setCell_same _ (w.heap.size + 1) 4 _ _ (.slice a2 L.length c2) (heap_setCell_same _ (w.heap.size + 1) 3 _ _ (.int .u64 t) (heap_setCell_same _ (w.heap.size + 1) 2 _ _ (.int .i64 p) (heap_setCell_same _ (w.heap.size + 1) 1 _ _ (.int .i64 hd) (heap_setCell_same _ (w.heap.size + 1) 0 _ _ (.int .i64 k) hz3))))))
  clear hz3 z0 z1 z2 z3 z4 zf0 zf1 zf2 zf3 zf4
  go_wp2_with fail
  obtain ⟨r0, r1, r2, r3, r4⟩ := HR.out
  refine bodyPost_ret (v := .agg #[.int .i64 k, .int .i64 hd, .int .i64 p, .int .u64 t, .slice a2 L.length c2]) (by simp [results, Tryz.results9, go_sem, r0, r1, r2, r3, r4]) rfl ⟨_, _, rfl, ?_, ((((((HB3.out).setCell (p := ⟨w.heap.size + 1, 0, none⟩) (Nat.le_succ _) _).setCell (p := ⟨w.heap.size + 1, 1, none⟩) (Nat.le_succ _) _).setCell (p := ⟨w.heap.size + 1, 2, none⟩) (Nat.le_succ _) _).setCell (p := ⟨w.heap.size + 1, 3, none⟩) (Nat.le_succ _) _).setCell (p := ⟨w.heap.size + 1, 4, none⟩) (Nat.le_succ _) _)⟩
  exact Batch.Own.sl (T := 68) HO.out HV.out.wf
set_option maxRecDepth 1000000 in
set_option maxHeartbeats 16000000 in
theorem cmdFrom_any {w : World} {L : List Batch.Ch} {al : Option Addr} {cl : Nat} (k hd p t : Int) (hl : L.length ≤ 100000) (hv : Batch.Rd w (.slice al L.length cl) L) :
    Calls Tryz.prog 11 #[.agg #[.int .i64 k, .int .i64 hd, .int .i64 p, .int .u64 t, .slice al L.length cl]] w fun e w' => ∃ la lc, e = .returned (.agg #[.int .i64 k, .int .i64 hd, .int .i64 p, .int .u64 t, .slice la L.length lc]) ∧ Batch.Sl w' (.slice la L.length lc) L ∧ Below w.heap.size w w' := by
  have HV := Lib.hid hv
  have HLL := Lib.hid hl
  clear hv hl
  obtain ⟨w1, hw1⟩ : ∃ w1, w1 = (w.alloc (.cells #[.int .i64 k, .int .i64 hd, .int .i64 p, .int .u64 t, .slice al L.length cl] 29)).alloc (.cells #[.int .i64 0, .int .i64 0, .int .i64 0, .int .u64 0, .slice none 0 0] 25) := ⟨_, rfl⟩
  have HX := Lib.hid (show w1.heap[w.heap.size]? = some (.cells #[.int .i64 k, .int .i64 hd, .int .i64 p, .int .u64 t, .slice al L.length cl] 29 (0, 0)) by rw [hw1, heap_alloc_old _ _ (by simp)]; exact heap_alloc_new w _)
  have HZ := Lib.hid (show w1.heap[w.heap.size + 1]? = some (.cells #[.int .i64 0, .int .i64 0, .int .i64 0, .int .u64 0, .slice none 0 0] 25 (0, 0)) by
    rw [hw1]; have h := heap_alloc_new (w.alloc (.cells #[.int .i64 k, .int .i64 hd, .int .i64 p, .int .u64 t, .slice al L.length cl] 29)) (.cells #[.int .i64 0, .int .i64 0, .int .i64 0, .int .u64 0, .slice none 0 0] 25); simpa using h)
  have HB1 := Lib.hid (show Below w.heap.size w w1 by rw [hw1]; exact ((Below.refl _ _).alloc (Nat.le_refl _) _).alloc (by simp) _)
  have hlt1 : w.heap.size < w1.heap.size := (Array.getElem?_eq_some_iff.1 HX.out).1
  have HLT2 := Lib.hid (show w.heap.size + 1 < w1.heap.size from (Array.getElem?_eq_some_iff.1 HZ.out).1)
  go_enter Tryz.func11, Tryz.ntmps11
  go_upto_region 1 with fail
  rw [← hw1]
  clear hw1
  obtain ⟨y0, y1, y2, y3, y4⟩ := cells5 HX.out
  refine wp_region_held_drew (S := (fun w' => w'.cell? ⟨w.heap.size, 0, none⟩ = some (.int .i64 k) ∧ w'.cell? ⟨w.heap.size, 1, none⟩ = some (.int .i64 hd) ∧ w'.cell? ⟨w.heap.size, 2, none⟩ = some (.int .i64 p) ∧ w'.cell? ⟨w.heap.size, 3, none⟩ = some (.int .u64 t) ∧ w'.cell? ⟨w.heap.size, 4, none⟩ = some (.slice al L.length cl))) (by kernel_rfl) ?_ (fun hHeld => ?_)
  · ((try dsimp only); exact ⟨y0, y1, y2, y3, y4⟩)
  refine tk 0 (fun _ => ?_)
  refine tk 1 (fun _ => ?_)
  refine tk 2 (fun _ => ?_)
  refine tk 3 (fun _ => ?_)
  refine tk 4 (fun _ => ?_)
  refine tk 5 (fun _ => ?_)
  refine tk 6 (fun _ => ?_)
  refine tk 7 (fun _ => ?_)
  refine tk 8 (fun _ => ?_)
  refine tk 9 (fun _ => ?_)
  refine wpAnyH_ready (rs := [10]) (by kernel_rfl) (by simp) ?_
  refine AllReadyH.cons rfl (fun K hK => ?_) AllReadyH.nil
  go_simp
  go_at_call 36
  refine (Batch.from_any ((HV.out.below HB1.out).below (below_drewN (Below.refl _ _) 1)) HLL.out).mono ?_
  rintro e w3 ⟨v2, rfl, ho, hcb⟩
  have hb2 := (below_drewN (Below.refl w1.heap.size w1) 1).trans (hcb.mono (by first | exact Nat.le_refl _ | simp))
  obtain ⟨a2, c2, rfl⟩ : ∃ a c, v2 = .slice a L.length c := by
    rcases ho.2 with ⟨e, h0⟩ | ⟨g, cap, cur, e, _⟩
    · exact ⟨none, 0, by rw [e]; congr 1; omega⟩
    · exact ⟨_, _, e⟩
  have HO := Lib.hid (ownSet5 (b := w.heap.size + 1) ho (by have := HLT2.out; simp; omega) (.int .i64 k) (.int .i64 hd) (.int .i64 p) (.int .u64 t) (.slice a2 L.length c2))
  clear hcb ho
  try go_wp2_with fail
  have hz3 := (hb2.block _ HLT2.out).trans HZ.out
  obtain ⟨z0, z1, z2, z3, z4⟩ := cells5 hz3
  have zf := freeC hz3
  have zf0 := zf 0
  have zf1 := zf 1
  have zf2 := zf 2
  have zf3 := zf 3
  have zf4 := zf 4
  have HB3 := Lib.hid (HB1.out.trans (hb2.mono HB1.out.size))
  have HZ3 := Lib.hid hz3
  clear zf hz3 HX
  refine hK.out _ _ ?_ (fun hHeld => ?_)
  · ((try dsimp only); exact ⟨(hb2.cell (p := ⟨w.heap.size, 0, none⟩) hlt1).trans y0, (hb2.cell (p := ⟨w.heap.size, 1, none⟩) hlt1).trans y1, (hb2.cell (p := ⟨w.heap.size, 2, none⟩) hlt1).trans y2, (hb2.cell (p := ⟨w.heap.size, 3, none⟩) hlt1).trans y3, (hb2.cell (p := ⟨w.heap.size, 4, none⟩) hlt1).trans y4⟩)
  clear hK K
  try simp only [Act.put, List.setIfInBounds_toArray, List.set_cons_zero, List.set_cons_succ, List.getElem_toArray, List.getElem_cons_zero, List.getElem_cons_succ]
  refine tk 11 (fun _ => ?_)
  refine wpAnyH_ready (rs := [12]) (by kernel_rfl) (by simp) ?_
  refine AllReadyH.cons rfl (fun K hK => ?_) AllReadyH.nil
  go_simp
  refine hK.out _ _ ?_ (fun hHeld => ?_)
  · ((try dsimp only); exact ⟨by simp [World.cell?_setCell_far, y0]; first | done | (exact (hb2.cell (p := ⟨w.heap.size, 0, none⟩) hlt1).trans y0), by simp [World.cell?_setCell_far, y1]; first | done | (exact (hb2.cell (p := ⟨w.heap.size, 1, none⟩) hlt1).trans y1), by simp [World.cell?_setCell_far, y2]; first | done | (exact (hb2.cell (p := ⟨w.heap.size, 2, none⟩) hlt1).trans y2), by simp [World.cell?_setCell_far, y3]; first | done | (exact (hb2.cell (p := ⟨w.heap.size, 3, none⟩) hlt1).trans y3), by simp [World.cell?_setCell_far, y4]; first | done | (exact (hb2.cell (p := ⟨w.heap.size, 4, none⟩) hlt1).trans y4)⟩)
  clear hK K
  try simp only [Act.put, List.setIfInBounds_toArray, List.set_cons_zero, List.set_cons_succ, List.getElem_toArray, List.getElem_cons_zero, List.getElem_cons_succ]
  refine wpAnyH_done (by kernel_rfl) ?_ _
  have hz3 := HZ3.out
  have HR := Lib.hid (cells5 (heap_setCell_same _ (w.heap.size + 1) 4 _ _ (.slice a2 L.length c2) (heap_setCell_same _ (w.heap.size + 1) 3 _ _ (.int .u64 t) (heap_setCell_same _ (w.heap.size + 1) 2 _ _ (.int .i64 p) (heap_setCell_same _ (w.heap.size + 1) 1 _ _ (.int .i64 hd) (heap_setCell_same _ (w.heap.size + 1) 0 _ _ (.int .i64 k) hz3))))))
  clear hz3 z0 z1 z2 z3 z4 zf0 zf1 zf2 zf3 zf4
  go_wp2_with fail
  obtain ⟨r0, r1, r2, r3, r4⟩ := HR.out
  refine bodyPost_ret (v := .agg #[.int .i64 k, .int .i64 hd, .int .i64 p, .int .u64 t, .slice a2 L.length c2]) (by simp [results, Tryz.results11, go_sem, r0, r1, r2, r3, r4]) rfl ⟨_, _, rfl, ?_, ((((((HB3.out).setCell (p := ⟨w.heap.size + 1, 0, none⟩) (Nat.le_succ _) _).setCell (p := ⟨w.heap.size + 1, 1, none⟩) (Nat.le_succ _) _).setCell (p := ⟨w.heap.size + 1, 2, none⟩) (Nat.le_succ _) _).setCell (p := ⟨w.heap.size + 1, 3, none⟩) (Nat.le_succ _) _).setCell (p := ⟨w.heap.size + 1, 4, none⟩) (Nat.le_succ _) _)⟩
  exact Batch.Own.sl (T := 117) HO.out HV.out.wf
end Go.Proofs.YtdbaacalfbbdiaaGreatDoor.Sc
