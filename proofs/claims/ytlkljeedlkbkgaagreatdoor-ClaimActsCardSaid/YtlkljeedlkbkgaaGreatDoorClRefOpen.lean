/-
  YtlkljeedlkbkgaaGreatDoorClRefOpen
-/
import Derived.Test.YtlkljeedlkbkgaaGreatDoorJoined25
import Derived.Test.YtlkljeedlkbkgaaGreatDoorClWith
import Derived.Test.YtlkljeedlkbkgaaGreatDoorJoined12
import Derived.BigQuiet
import Derived.Deep.RegionHeldLaw
namespace Go.Proofs.YtlkljeedlkbkgaaGreatDoor.Cl
open Go.RowKit Gr Go.Proofs.YtlkljeedlkbkgaaGreatDoor.Fault
set_option linter.unusedVariables false
set_option linter.unusedSimpArgs false
theorem one_wf0 {x : Ed} (h : x.Wf) : (⟨x.t, x.a, 1⟩ : Batch.Ch).Wf := ⟨h.t0, h.t1, h.a0, h.a1, by dsimp only; decide, by dsimp only; decide⟩
set_option maxRecDepth 1000000 in
set_option maxHeartbeats 8000000 in
theorem refopen_ok {w : World} {vh vb : Value} {H : List Ed} {B : List Batch.Ch} {x : Ed} (id id2 : Int) (hH : Sl w vh H) (hB : Batch.Sl w vb B) (hr : Rise H) (hl : H.length ≤ 10000) (hyes : hasB H id = true) (hx : H[idx H id]? = some x) (hneg : ¬ id2 < 0) (h2 : hasB H id2 = false) :
    Calls Tryz.prog 32 #[.agg #[vh, vb], .int .i64 id, .int .i64 id2] w fun e w' => ∃ vh' v, e = .returned (.tuple #[.agg #[vh', vb], v, .slice none 0 0, .int .i64 0]) ∧ Own w' w.heap.size 50 vh' (withL H ⟨id2, x.t, x.a⟩) ∧ Batch.Own w' w.heap.size 67 v [⟨x.t, x.a, 1⟩] ∧ Below w.heap.size w w' := by
  have HH := Lib.hid hH
  have HXX := Lib.hid hx
  have HN := Lib.hid (refIdx_yes hyes)
  have HN2 := Lib.hid (refIdx_no h2)
  have HRR := Lib.hid hr
  have HXW := Lib.hid (hH.wf x (List.mem_of_getElem? hx))
  obtain ⟨L, hL⟩ : ∃ L, L = withL H ⟨id2, x.t, x.a⟩ := ⟨_, rfl⟩
  have HWI := Lib.hid (fun W (hW : Below w.heap.size w W) => refwith_any (h := ⟨id2, x.t, x.a⟩) (hH.below hW) hr hl)
  rw [← hL] at HWI
  rw [← hL]
  clear hL
  have hd2 : decide (id2 < 0) = false := decide_eq_false hneg
  obtain ⟨ah, ch, e1, _⟩ := hH
  obtain ⟨ab, cb, e2, _⟩ := hB
  subst e1 e2
  obtain ⟨w0, hw0⟩ : ∃ w0, w0 = (w.alloc (.cells #[.slice ah H.length ch, .slice ab B.length cb] 29)).alloc (.cells #[.slice none 0 0, .slice none 0 0] 29) := ⟨_, rfl⟩
  have hb0 : Below w.heap.size w w0 := by rw [hw0]; exact ((Below.refl _ _).alloc (Nat.le_refl _) _).alloc (by simp) _
  have hs0 : w0.heap.size = w.heap.size + 1 + 1 := by rw [hw0]; simp
  have hx0 : w0.heap[w.heap.size]? = some (.cells #[.slice ah H.length ch, .slice ab B.length cb] 29 (0, 0)) := by rw [hw0, heap_alloc_old _ _ (by simp)]; exact heap_alloc_new w _
  have hy0 : w0.heap[w.heap.size + 1]? = some (.cells #[.slice none 0 0, .slice none 0 0] 29 (0, 0)) := by
    rw [hw0]; have := heap_alloc_new (w.alloc (.cells #[.slice ah H.length ch, .slice ab B.length cb] 29)) (.cells #[.slice none 0 0, .slice none 0 0] 29); simpa using this
  have HX := Lib.hid hx0
  have HY := Lib.hid hy0
  have HB := Lib.hid hb0
  have HS := Lib.hid hs0
  obtain ⟨x0, x1, _⟩ := pair_cells hx0
  clear hb0 hx0 hy0 hs0 hyes hr hx hneg h2 hl
  go_enter Tryz.func32, Tryz.ntmps32
  go_upto_region 1 with fail
  rw [← hw0]
  clear hw0
  go_wp2_with fail
  go_at_call 12
  refine (reffind_any id (HH.out.below HB.out) HRR.out).mono ?_
  rw [HN.out]
  rintro e w1 ⟨rfl, hb⟩
  replace HX := Lib.hid ((hb.block _ (by have := HS.out; omega)).trans HX.out)
  replace HY := Lib.hid ((hb.block _ (by have := HS.out; omega)).trans HY.out)
  replace HB := Lib.hid (HB.out.trans (hb.mono HB.out.size))
  clear hb x0 x1
  have hi0 : (0 : Int) ≤ (idx H id : Int) := Int.natCast_nonneg _
  obtain ⟨ix, hix⟩ : ∃ ix, ix = idx H id := ⟨_, rfl⟩
  rw [← hix] at HXX hi0
  rw [← hix]
  have HIX := Lib.hid hix
  clear hix
  have hil := (List.getElem?_eq_some_iff.1 HXX.out).1
  have hi1 : (ix : Int) < (H.length : Int) := by omega
  obtain ⟨qo, qc, qe, qcell, _⟩ := HH.out.below HB.out
  simp only [Value.slice.injEq] at qe
  obtain ⟨rfl, _, rfl⟩ := qe
  obtain ⟨qb, qf, rfl, qcc⟩ := qcell.resolve_left (fun h => by rw [h.2] at hil; simp at hil)
  obtain ⟨c0, c1, c2⟩ := qcc _ x HXX.out
  obtain ⟨x0, x1, _⟩ := pair_cells HX.out
  go_wp2_with fail
  go_at_call 12
  refine (reffind_any id2 (HH.out.below HB.out) HRR.out).mono ?_
  rw [HN2.out]
  rintro e w11 ⟨rfl, hb⟩
  have hlb := HH.out
  replace HX := Lib.hid ((hb.block _ (Array.getElem?_eq_some_iff.1 HX.out).1).trans HX.out)
  replace HY := Lib.hid ((hb.block _ (Array.getElem?_eq_some_iff.1 HY.out).1).trans HY.out)
  have hqb : qb < w1.heap.size := Lib.lt_of_cell c0
  replace c0 := (hb.cell (p := ⟨qb, _, none⟩) hqb).trans c0
  replace c1 := (hb.cell (p := ⟨qb, _, none⟩) hqb).trans c1
  replace c2 := (hb.cell (p := ⟨qb, _, none⟩) hqb).trans c2
  replace HB := Lib.hid (HB.out.trans (hb.mono HB.out.size))
  clear hb x0 x1 hlb hqb
  obtain ⟨xf, xt, xa⟩ := x
  simp only at c0 c1 c2
  clear qcell qcc hil
  obtain ⟨x0, x1, _⟩ := pair_cells HX.out
  obtain ⟨M, hM⟩ : ∃ M, M = w11.heap.size := ⟨_, rfl⟩
  obtain ⟨w2, hw2⟩ : ∃ w2, w2 = w11.alloc (.cells #[.int .i64 id2, .int .i64 xt, .int .u64 xa] 50) := ⟨_, rfl⟩
  have hb : Below w11.heap.size w11 w2 := by rw [hw2]; exact (Below.refl _ _).alloc (Nat.le_refl _) _
  have HM := Lib.hid (show w2.heap[M]? = some (.cells #[.int .i64 id2, .int .i64 xt, .int .u64 xa] 50 (0, 0)) by rw [hw2, hM]; exact heap_alloc_new w11 _)
  have HMS := Lib.hid (show w.heap.size + 1 < M by rw [hM]; exact (Array.getElem?_eq_some_iff.1 HY.out).1)
  go_upto_region 9 with fail
  rw [← hw2, ← hM]
  clear hw2 hM x0 x1 c0 c1 c2
  replace HX := Lib.hid ((hb.block _ (Array.getElem?_eq_some_iff.1 HX.out).1).trans HX.out)
  replace HY := Lib.hid ((hb.block _ (Array.getElem?_eq_some_iff.1 HY.out).1).trans HY.out)
  replace HB := Lib.hid (HB.out.trans (hb.mono HB.out.size))
  clear hb
  obtain ⟨m0, m1, m2, _⟩ := trip_cells HM.out
  obtain ⟨x0, x1, _⟩ := pair_cells HX.out
  have hms := HMS.out
  have hlM := (Array.getElem?_eq_some_iff.1 HM.out).1
  have hn1 : ¬ M = w.heap.size + 1 := by omega
  have hn3 : ¬ w.heap.size + 1 = M := by omega
  have hn2 : ¬ w.heap.size = w.heap.size + 1 := by omega
  have hlw1 : w.heap.size + 1 < w2.heap.size := by omega
  have HCW := Lib.hid (one_wf0 HXW.out)
  refine wp_region_held_drew (S := (fun w' => w'.cell? ⟨w.heap.size, 0, none⟩ = some (.slice (some ⟨qb, qf, none⟩) H.length ch) ∧ w'.cell? ⟨w.heap.size, 1, none⟩ = some (.slice ab B.length cb) ∧ w'.cell? ⟨M, 0, none⟩ = some (.int .i64 id2) ∧ w'.cell? ⟨M, 1, none⟩ = some (.int .i64 xt) ∧ w'.cell? ⟨M, 2, none⟩ = some (.int .u64 xa))) (by kernel_rfl) ?_ (fun hHeld => ?_)
  · ((try dsimp only); exact ⟨x0, x1, m0, m1, m2⟩)
  refine wpAnyH_take (i := 0) (v := ?_) rfl (by kernel_rfl) (by kernel_rfl) (by kernel_rfl) (fun _ _ _ h => h) (Or.inl ⟨by rfl, ?_⟩) (by assumption) ?_
  rotate_left 1
  · (intro w hSw; (try dsimp only at hSw); first | (go_simp; done) | (go_simp; with_reducible rfl))
  try simp only [Act.put, List.setIfInBounds_toArray, List.set_cons_zero, List.set_cons_succ, List.getElem_toArray, List.getElem_cons_zero]
  refine wpAnyH_take (i := 1) (v := ?_) rfl (by kernel_rfl) (by kernel_rfl) (by kernel_rfl) (fun _ _ _ h => h) (Or.inl ⟨by rfl, ?_⟩) (by assumption) ?_
  rotate_left 1
  · (intro w hSw; (try dsimp only at hSw); first | (go_simp; done) | (go_simp; with_reducible rfl))
  try simp only [Act.put, List.setIfInBounds_toArray, List.set_cons_zero, List.set_cons_succ, List.getElem_toArray, List.getElem_cons_zero, List.getElem_cons_succ]
  refine wpAnyH_take (i := 2) (v := ?_) rfl (by kernel_rfl) (by kernel_rfl) (by kernel_rfl) (fun _ _ _ h => h) (Or.inl ⟨by rfl, ?_⟩) (by assumption) ?_
  rotate_left 1
  · (intro w hSw; (try dsimp only at hSw); first | (go_simp; done) | (go_simp; with_reducible rfl))
  try simp only [Act.put, List.setIfInBounds_toArray, List.set_cons_zero, List.set_cons_succ, List.getElem_toArray, List.getElem_cons_zero, List.getElem_cons_succ]
  refine wpAnyH_take (i := 4) (v := ?_) rfl (by kernel_rfl) (by kernel_rfl) (by kernel_rfl) (fun _ _ _ h => h) (Or.inl ⟨by rfl, ?_⟩) (by assumption) ?_
  rotate_left 1
  · (intro w hSw; (try dsimp only at hSw); first | (go_simp; done) | (go_simp; with_reducible rfl))
  try simp only [Act.put, List.setIfInBounds_toArray, List.set_cons_zero, List.set_cons_succ, List.getElem_toArray, List.getElem_cons_zero, List.getElem_cons_succ]
  refine wpAnyH_take (i := 5) (v := ?_) rfl (by kernel_rfl) (by kernel_rfl) (by kernel_rfl) (fun _ _ _ h => h) (Or.inl ⟨by rfl, ?_⟩) (by assumption) ?_
  rotate_left 1
  · (intro w hSw; (try dsimp only at hSw); first | (go_simp; done) | (go_simp; with_reducible rfl))
  try simp only [Act.put, List.setIfInBounds_toArray, List.set_cons_zero, List.set_cons_succ, List.getElem_toArray, List.getElem_cons_zero, List.getElem_cons_succ]
  refine wpAnyH_take (i := 7) (v := ?_) rfl (by kernel_rfl) (by kernel_rfl) (by kernel_rfl) (fun _ _ _ h => h) (Or.inl ⟨by rfl, ?_⟩) (by assumption) ?_
  rotate_left 1
  · (intro w hSw; (try dsimp only at hSw); first | (go_simp; done) | (go_simp; with_reducible rfl))
  try simp only [Act.put, List.setIfInBounds_toArray, List.set_cons_zero, List.set_cons_succ, List.getElem_toArray, List.getElem_cons_zero, List.getElem_cons_succ]
  refine wpAnyH_take (i := 8) (v := ?_) rfl (by kernel_rfl) (by kernel_rfl) (by kernel_rfl) (fun _ _ _ h => h) (Or.inl ⟨by rfl, ?_⟩) (by assumption) ?_
  rotate_left 1
  · (intro w hSw; (try dsimp only at hSw); first | (go_simp; done) | (go_simp; with_reducible rfl))
  try simp only [Act.put, List.setIfInBounds_toArray, List.set_cons_zero, List.set_cons_succ, List.getElem_toArray, List.getElem_cons_zero, List.getElem_cons_succ]
  refine wpAnyH_take (i := 9) (v := ?_) rfl (by kernel_rfl) (by kernel_rfl) (by kernel_rfl) (fun _ _ _ h => h) (Or.inl ⟨by rfl, ?_⟩) (by assumption) ?_
  rotate_left 1
  · (intro w hSw; (try dsimp only at hSw); first | (go_simp; done) | (go_simp; with_reducible rfl))
  try simp only [Act.put, List.setIfInBounds_toArray, List.set_cons_zero, List.set_cons_succ, List.getElem_toArray, List.getElem_cons_zero, List.getElem_cons_succ]
  refine wpAnyH_take (i := 10) (v := ?_) rfl (by kernel_rfl) (by kernel_rfl) (by kernel_rfl) (fun _ _ _ h => h) (Or.inl ⟨by rfl, ?_⟩) (by assumption) ?_
  rotate_left 1
  · (intro w hSw; (try dsimp only at hSw); first | (go_simp; done) | (go_simp; with_reducible rfl))
  try simp only [Act.put, List.setIfInBounds_toArray, List.set_cons_zero, List.set_cons_succ, List.getElem_toArray, List.getElem_cons_zero, List.getElem_cons_succ]
  refine wpAnyH_take (i := 11) (v := ?_) rfl (by kernel_rfl) (by kernel_rfl) (by kernel_rfl) (fun _ _ _ h => h) (Or.inl ⟨by rfl, ?_⟩) (by assumption) ?_
  rotate_left 1
  · (intro w hSw; (try dsimp only at hSw); first | (go_simp; done) | (go_simp; with_reducible rfl))
  try simp only [Act.put, List.setIfInBounds_toArray, List.set_cons_zero, List.set_cons_succ, List.getElem_toArray, List.getElem_cons_zero, List.getElem_cons_succ]
  refine wpAnyH_ready (rs := [3, 12]) (by kernel_rfl) (by simp) ?_
  refine AllReadyH.cons rfl (fun K hK => ?_) (AllReadyH.cons rfl (fun K hK => ?_) AllReadyH.nil)
  · go_simp
    go_at_call 22
    refine (HWI.out _ (below_drewN HB.out 1)).mono ?_
    rintro e w6 ⟨vw, rfl, how, hcb⟩
    obtain ⟨aw, cw, rfl⟩ := formH how
    have hcb0 : Below w2.heap.size w2 w6 := (below_drewN (Below.refl w2.heap.size w2) 1).trans hcb
    try go_wp2_with fail
    refine hK.out _ _ ?_ (fun hHeld => ?_)
    · ((try dsimp only); exact ⟨(hcb0.cell (p := ⟨w.heap.size, 0, none⟩) (by simp; omega)).trans x0, (hcb0.cell (p := ⟨w.heap.size, 1, none⟩) (by simp; omega)).trans x1, (hcb0.cell (p := ⟨M, 0, none⟩) (by simp; omega)).trans m0, (hcb0.cell (p := ⟨M, 1, none⟩) (by simp; omega)).trans m1, (hcb0.cell (p := ⟨M, 2, none⟩) (by simp; omega)).trans m2⟩)
    clear hK K
    try simp only [Act.put, List.setIfInBounds_toArray, List.set_cons_zero, List.set_cons_succ, List.getElem_toArray, List.getElem_cons_zero, List.getElem_cons_succ]
    refine wpAnyH_take (i := 6) (v := ?_) rfl (by kernel_rfl) (by kernel_rfl) (by kernel_rfl) (fun _ _ _ h => h) (Or.inl ⟨by rfl, ?_⟩) (by assumption) ?_
    rotate_left 1
    · (intro w hSw; (try dsimp only at hSw); first | (go_simp; done) | (go_simp; with_reducible rfl))
    try simp only [Act.put, List.setIfInBounds_toArray, List.set_cons_zero, List.set_cons_succ, List.getElem_toArray, List.getElem_cons_zero, List.getElem_cons_succ]
    have hca : Below w6.heap.size w6 (w6.alloc (.cells #[.int .i64 xt, .int .u64 xa, .int .i64 1] 67)) := (Below.refl _ _).alloc (Nat.le_refl _) _
    have hs6 := hcb0.size
    have hcc := hcb0.trans (hca.mono hcb0.size)
    refine wpAnyH_ready (rs := [12, 13]) (by kernel_rfl) (by simp) ?_
    refine AllReadyH.cons rfl (fun K hK => ?_) (AllReadyH.cons rfl (fun K hK => ?_) AllReadyH.nil)
    · go_simp
      try go_wp2_with fail
      refine hK.out _ _ ?_ (fun hHeld => ?_)
      · ((try dsimp only); exact ⟨(hcc.cell (p := ⟨w.heap.size, 0, none⟩) (by simp; omega)).trans x0, (hcc.cell (p := ⟨w.heap.size, 1, none⟩) (by simp; omega)).trans x1, (hcc.cell (p := ⟨M, 0, none⟩) (by simp; omega)).trans m0, (hcc.cell (p := ⟨M, 1, none⟩) (by simp; omega)).trans m1, (hcc.cell (p := ⟨M, 2, none⟩) (by simp; omega)).trans m2⟩)
      clear hK K
      try simp only [Act.put, List.setIfInBounds_toArray, List.set_cons_zero, List.set_cons_succ, List.getElem_toArray, List.getElem_cons_zero, List.getElem_cons_succ]
      obtain ⟨y0, y1, yf⟩ := pair_cells ((hcc.block (w.heap.size + 1) hlw1).trans HY.out)
      have yf0 := yf 0
      have yf1 := yf 1
      clear yf
      refine wpAnyH_ready (rs := [13]) (by kernel_rfl) (by simp) ?_
      refine AllReadyH.cons rfl (fun K hK => ?_) AllReadyH.nil
      go_simp
      try go_wp2_with fail
      refine hK.out _ _ ?_ (fun hHeld => ?_)
      · ((try dsimp only); go_keep)
      clear hK K
      try simp only [Act.put, List.setIfInBounds_toArray, List.set_cons_zero, List.set_cons_succ, List.getElem_toArray, List.getElem_cons_zero, List.getElem_cons_succ]
      refine wpAnyH_take (i := 14) (v := ?_) rfl (by kernel_rfl) (by kernel_rfl) (by kernel_rfl) (fun _ _ _ h => h) (Or.inl ⟨by rfl, ?_⟩) (by assumption) ?_
      rotate_left 1
      · (intro w hSw; (try dsimp only at hSw); first | (go_simp; done) | (go_simp; with_reducible rfl))
      try simp only [Act.put, List.setIfInBounds_toArray, List.set_cons_zero, List.set_cons_succ, List.getElem_toArray, List.getElem_cons_zero, List.getElem_cons_succ]
      refine wpAnyH_take (i := 15) (v := ?_) rfl (by kernel_rfl) (by kernel_rfl) (by kernel_rfl) (fun _ _ _ h => h) (Or.inl ⟨by rfl, ?_⟩) (by assumption) ?_
      rotate_left 1
      · (intro w hSw; (try dsimp only at hSw); first | (go_simp; done) | (go_simp; with_reducible rfl))
      try simp only [Act.put, List.setIfInBounds_toArray, List.set_cons_zero, List.set_cons_succ, List.getElem_toArray, List.getElem_cons_zero, List.getElem_cons_succ]
      refine wpAnyH_take (i := 16) (v := ?_) rfl (by kernel_rfl) (by kernel_rfl) (by kernel_rfl) (fun _ _ _ h => h) (Or.inl ⟨by rfl, ?_⟩) (by assumption) ?_
      rotate_left 1
      · (intro w hSw; (try dsimp only at hSw); first | (go_simp; done) | (go_simp; with_reducible rfl))
      try simp only [Act.put, List.setIfInBounds_toArray, List.set_cons_zero, List.set_cons_succ, List.getElem_toArray, List.getElem_cons_zero, List.getElem_cons_succ]
      refine wpAnyH_done (by kernel_rfl) ?_ _
      go_wp2_with fail
      obtain ⟨r0, r1, _⟩ := pair_cells (heap_setCell_same _ (w.heap.size + 1) 1 _ _ (.slice ab B.length cb) (heap_setCell_same (w6.alloc (.cells #[.int .i64 xt, .int .u64 xa, .int .i64 1] 67)) (w.heap.size + 1) 0 _ _ (.slice aw L.length cw) ((hcc.block _ hlw1).trans HY.out)))
      refine bodyPost_ret (v := .tuple #[.agg #[.slice aw L.length cw, .slice ab B.length cb], .slice (some ⟨w6.heap.size, 0, none⟩) 1 1, .slice none 0 0, .int .i64 0]) (by simp [results, Tryz.results32, go_sem, r0, r1]) rfl ⟨_, _, rfl, ?_, ?_, ?_⟩
      · have h1 := how.below hca
        have h2 := World.ownsRow.lt h1
        exact Own.mono (ownsRow_setCell_other (ownsRow_setCell_other h1 (fun e => by have h := (h2 _ e).1; simp at h; omega) _) (fun e => by have h := (h2 _ e).1; simp at h; omega) _) (by simp; omega)
      · have h1 : Batch.Own (w6.alloc (.cells #[.int .i64 xt, .int .u64 xa, .int .i64 1] 67)) w.heap.size 67 (.slice (some ⟨w6.heap.size, 0, none⟩) 1 1) [⟨xt, xa, 1⟩] := World.ownsRow_lit w6 _ 1 (by omega) (by decide) rfl
        exact ownsRow_setCell_other (ownsRow_setCell_other h1 (fun e => by simp [Value.ownBlock] at e; omega) _) (fun e => by simp [Value.ownBlock] at e; omega) _
      · exact ((HB.out.trans (hcc.mono HB.out.size)).setCell (p := ⟨w.heap.size + 1, 0, none⟩) (Nat.le_succ _) _).setCell (p := ⟨w.heap.size + 1, 1, none⟩) (Nat.le_succ _) _
    · obtain ⟨y0, y1, yf⟩ := pair_cells ((hcb0.block (w.heap.size + 1) hlw1).trans HY.out)
      have yf0 := yf 0
      have yf1 := yf 1
      clear yf
      go_simp
      try go_wp2_with fail
      refine hK.out _ _ ?_ (fun hHeld => ?_)
      · ((try dsimp only); go_keep)
      clear hK K
      try simp only [Act.put, List.setIfInBounds_toArray, List.set_cons_zero, List.set_cons_succ, List.getElem_toArray, List.getElem_cons_zero, List.getElem_cons_succ]
      clear y0 y1 yf0 yf1
      have hsz : ((w6.setCell ⟨w.heap.size + 1, 0, none⟩ (.slice aw L.length cw)).setCell ⟨w.heap.size + 1, 1, none⟩ (.slice ab B.length cb)).heap.size = w6.heap.size := by simp [World.setCell]
      obtain ⟨r0, r1, _⟩ := pair_cells (heap_setCell_same _ (w.heap.size + 1) 1 _ _ (.slice ab B.length cb) (heap_setCell_same w6 (w.heap.size + 1) 0 _ _ (.slice aw L.length cw) ((hcb0.block _ hlw1).trans HY.out)))
      have hbz : Below (w.heap.size + 1) w6 ((w6.setCell ⟨w.heap.size + 1, 0, none⟩ (.slice aw L.length cw)).setCell ⟨w.heap.size + 1, 1, none⟩ (.slice ab B.length cb)) := ((Below.refl _ _).setCell (p := ⟨w.heap.size + 1, 0, none⟩) (Nat.le_refl _) _).setCell (p := ⟨w.heap.size + 1, 1, none⟩) (Nat.le_refl _) _
      have h1 := World.ownsRow.lt how
      have hown : Own ((w6.setCell ⟨w.heap.size + 1, 0, none⟩ (.slice aw L.length cw)).setCell ⟨w.heap.size + 1, 1, none⟩ (.slice ab B.length cb)) w2.heap.size 50 (.slice aw L.length cw) L := ownsRow_setCell_other (ownsRow_setCell_other how (fun e => by have h := (h1 _ e).1; simp at h; omega) _) (fun e => by have h := (h1 _ e).1; simp at h; omega) _
      have HBZ := Lib.hid (HB.out.trans ((hcb0.mono HB.out.size).trans (hbz.mono (Nat.le_succ _))))
      generalize ((w6.setCell ⟨w.heap.size + 1, 0, none⟩ (.slice aw L.length cw)).setCell ⟨w.heap.size + 1, 1, none⟩ (.slice ab B.length cb)) = w7 at *
      have hc7 : Below w7.heap.size w7 (w7.alloc (.cells #[.int .i64 xt, .int .u64 xa, .int .i64 1] 67)) := (Below.refl _ _).alloc (Nat.le_refl _) _
      refine wpAnyH_ready (rs := [12]) (by kernel_rfl) (by simp) ?_
      refine AllReadyH.cons rfl (fun K hK => ?_) AllReadyH.nil
      go_simp
      try go_wp2_with fail
      refine hK.out _ _ ?_ (fun hHeld => ?_)
      · ((try dsimp only); first | go_keep | trivial)
      clear hK K
      try simp only [Act.put, List.setIfInBounds_toArray, List.set_cons_zero, List.set_cons_succ, List.getElem_toArray, List.getElem_cons_zero, List.getElem_cons_succ]
      refine wpAnyH_take (i := 14) (v := ?_) rfl (by kernel_rfl) (by kernel_rfl) (by kernel_rfl) (fun _ _ _ h => h) (Or.inl ⟨by rfl, ?_⟩) (by assumption) ?_
      rotate_left 1
      · (intro w hSw; (try dsimp only at hSw); first | (go_simp; done) | (go_simp; with_reducible rfl))
      try simp only [Act.put, List.setIfInBounds_toArray, List.set_cons_zero, List.set_cons_succ, List.getElem_toArray, List.getElem_cons_zero, List.getElem_cons_succ]
      refine wpAnyH_take (i := 15) (v := ?_) rfl (by kernel_rfl) (by kernel_rfl) (by kernel_rfl) (fun _ _ _ h => h) (Or.inl ⟨by rfl, ?_⟩) (by assumption) ?_
      rotate_left 1
      · (intro w hSw; (try dsimp only at hSw); first | (go_simp; done) | (go_simp; with_reducible rfl))
      try simp only [Act.put, List.setIfInBounds_toArray, List.set_cons_zero, List.set_cons_succ, List.getElem_toArray, List.getElem_cons_zero, List.getElem_cons_succ]
      refine wpAnyH_take (i := 16) (v := ?_) rfl (by kernel_rfl) (by kernel_rfl) (by kernel_rfl) (fun _ _ _ h => h) (Or.inl ⟨by rfl, ?_⟩) (by assumption) ?_
      rotate_left 1
      · (intro w hSw; (try dsimp only at hSw); first | (go_simp; done) | (go_simp; with_reducible rfl))
      try simp only [Act.put, List.setIfInBounds_toArray, List.set_cons_zero, List.set_cons_succ, List.getElem_toArray, List.getElem_cons_zero, List.getElem_cons_succ]
      refine wpAnyH_done (by kernel_rfl) ?_ _
      go_wp2_with fail
      have q0 := (hc7.cell (p := ⟨w.heap.size + 1, 0, none⟩) (by dsimp only; omega)).trans r0
      have q1 := (hc7.cell (p := ⟨w.heap.size + 1, 1, none⟩) (by dsimp only; omega)).trans r1
      refine bodyPost_ret (v := .tuple #[.agg #[.slice aw L.length cw, .slice ab B.length cb], .slice (some ⟨w7.heap.size, 0, none⟩) 1 1, .slice none 0 0, .int .i64 0]) (by simp [results, Tryz.results32, go_sem, q0, q1]) rfl ⟨_, _, rfl, ?_, ?_, ?_⟩
      · exact Own.mono (hown.below hc7) (by omega)
      · exact World.ownsRow_lit w7 _ 1 (by omega) (by decide) rfl
      · exact HBZ.out.trans (hc7.mono HBZ.out.size)
  · have hca : Below w2.heap.size w2 (w2.drew.alloc (.cells #[.int .i64 xt, .int .u64 xa, .int .i64 1] 67)) := (below_drewN (Below.refl w2.heap.size w2) 1).alloc (Nat.le_refl _) _
    go_simp
    try go_wp2_with fail
    refine hK.out _ _ ?_ (fun hHeld => ?_)
    · ((try dsimp only); exact ⟨(hca.cell (p := ⟨w.heap.size, 0, none⟩) (by simp; omega)).trans x0, (hca.cell (p := ⟨w.heap.size, 1, none⟩) (by simp; omega)).trans x1, (hca.cell (p := ⟨M, 0, none⟩) (by simp; omega)).trans m0, (hca.cell (p := ⟨M, 1, none⟩) (by simp; omega)).trans m1, (hca.cell (p := ⟨M, 2, none⟩) (by simp; omega)).trans m2⟩)
    clear hK K
    try simp only [Act.put, List.setIfInBounds_toArray, List.set_cons_zero, List.set_cons_succ, List.getElem_toArray, List.getElem_cons_zero, List.getElem_cons_succ]
    refine wpAnyH_ready (rs := [3]) (by kernel_rfl) (by simp) ?_
    refine AllReadyH.cons rfl (fun K hK => ?_) AllReadyH.nil
    go_simp
    go_at_call 22
    refine (HWI.out _ (HB.out.trans (hca.mono HB.out.size))).mono ?_
    rintro e w6 ⟨vw, rfl, how, hcb⟩
    obtain ⟨aw, cw, rfl⟩ := formH how
    have hcc : Below w2.heap.size w2 w6 := hca.trans (hcb.mono hca.size)
    try go_wp2_with fail
    refine hK.out _ _ ?_ (fun hHeld => ?_)
    · ((try dsimp only); exact ⟨(hcc.cell (p := ⟨w.heap.size, 0, none⟩) (by simp; omega)).trans x0, (hcc.cell (p := ⟨w.heap.size, 1, none⟩) (by simp; omega)).trans x1, (hcc.cell (p := ⟨M, 0, none⟩) (by simp; omega)).trans m0, (hcc.cell (p := ⟨M, 1, none⟩) (by simp; omega)).trans m1, (hcc.cell (p := ⟨M, 2, none⟩) (by simp; omega)).trans m2⟩)
    clear hK K
    try simp only [Act.put, List.setIfInBounds_toArray, List.set_cons_zero, List.set_cons_succ, List.getElem_toArray, List.getElem_cons_zero, List.getElem_cons_succ]
    refine wpAnyH_take (i := 6) (v := ?_) rfl (by kernel_rfl) (by kernel_rfl) (by kernel_rfl) (fun _ _ _ h => h) (Or.inl ⟨by rfl, ?_⟩) (by assumption) ?_
    rotate_left 1
    · (intro w hSw; (try dsimp only at hSw); first | (go_simp; done) | (go_simp; with_reducible rfl))
    try simp only [Act.put, List.setIfInBounds_toArray, List.set_cons_zero, List.set_cons_succ, List.getElem_toArray, List.getElem_cons_zero, List.getElem_cons_succ]
    obtain ⟨y0, y1, yf⟩ := pair_cells ((hcc.block (w.heap.size + 1) hlw1).trans HY.out)
    have yf0 := yf 0
    have yf1 := yf 1
    clear yf
    refine wpAnyH_ready (rs := [13]) (by kernel_rfl) (by simp) ?_
    refine AllReadyH.cons rfl (fun K hK => ?_) AllReadyH.nil
    go_simp
    try go_wp2_with fail
    refine hK.out _ _ ?_ (fun hHeld => ?_)
    · ((try dsimp only); go_keep)
    clear hK K
    try simp only [Act.put, List.setIfInBounds_toArray, List.set_cons_zero, List.set_cons_succ, List.getElem_toArray, List.getElem_cons_zero, List.getElem_cons_succ]
    refine wpAnyH_take (i := 14) (v := ?_) rfl (by kernel_rfl) (by kernel_rfl) (by kernel_rfl) (fun _ _ _ h => h) (Or.inl ⟨by rfl, ?_⟩) (by assumption) ?_
    rotate_left 1
    · (intro w hSw; (try dsimp only at hSw); first | (go_simp; done) | (go_simp; with_reducible rfl))
    try simp only [Act.put, List.setIfInBounds_toArray, List.set_cons_zero, List.set_cons_succ, List.getElem_toArray, List.getElem_cons_zero, List.getElem_cons_succ]
    refine wpAnyH_take (i := 15) (v := ?_) rfl (by kernel_rfl) (by kernel_rfl) (by kernel_rfl) (fun _ _ _ h => h) (Or.inl ⟨by rfl, ?_⟩) (by assumption) ?_
    rotate_left 1
    · (intro w hSw; (try dsimp only at hSw); first | (go_simp; done) | (go_simp; with_reducible rfl))
    try simp only [Act.put, List.setIfInBounds_toArray, List.set_cons_zero, List.set_cons_succ, List.getElem_toArray, List.getElem_cons_zero, List.getElem_cons_succ]
    refine wpAnyH_take (i := 16) (v := ?_) rfl (by kernel_rfl) (by kernel_rfl) (by kernel_rfl) (fun _ _ _ h => h) (Or.inl ⟨by rfl, ?_⟩) (by assumption) ?_
    rotate_left 1
    · (intro w hSw; (try dsimp only at hSw); first | (go_simp; done) | (go_simp; with_reducible rfl))
    try simp only [Act.put, List.setIfInBounds_toArray, List.set_cons_zero, List.set_cons_succ, List.getElem_toArray, List.getElem_cons_zero, List.getElem_cons_succ]
    refine wpAnyH_done (by kernel_rfl) ?_ _
    go_wp2_with fail
    obtain ⟨r0, r1, _⟩ := pair_cells (heap_setCell_same _ (w.heap.size + 1) 1 _ _ (.slice ab B.length cb) (heap_setCell_same w6 (w.heap.size + 1) 0 _ _ (.slice aw L.length cw) ((hcc.block _ hlw1).trans HY.out)))
    refine bodyPost_ret (v := .tuple #[.agg #[.slice aw L.length cw, .slice ab B.length cb], .slice (some ⟨w2.heap.size, 0, none⟩) 1 1, .slice none 0 0, .int .i64 0]) (by simp [results, Tryz.results32, go_sem, r0, r1]) rfl ⟨_, _, rfl, ?_, ?_, ?_⟩
    · have h2 := World.ownsRow.lt how
      exact Own.mono (ownsRow_setCell_other (ownsRow_setCell_other how (fun e => by have h := (h2 _ e).1; simp at h; omega) _) (fun e => by have h := (h2 _ e).1; simp at h; omega) _) (by simp; have := HB.out.size; omega)
    · have h1 : Batch.Own (w2.drew.alloc (.cells #[.int .i64 xt, .int .u64 xa, .int .i64 1] 67)) w.heap.size 67 (.slice (some ⟨w2.heap.size, 0, none⟩) 1 1) [⟨xt, xa, 1⟩] := World.ownsRow_lit w2.drew _ 1 (by show w.heap.size ≤ w2.heap.size; omega) (by decide) rfl
      exact ownsRow_setCell_other (ownsRow_setCell_other (h1.below hcb) (fun e => by simp [Value.ownBlock] at e; omega) _) (fun e => by simp [Value.ownBlock] at e; omega) _
    · exact ((HB.out.trans (hcc.mono HB.out.size)).setCell (p := ⟨w.heap.size + 1, 0, none⟩) (Nat.le_succ _) _).setCell (p := ⟨w.heap.size + 1, 1, none⟩) (Nat.le_succ _) _
end Go.Proofs.YtlkljeedlkbkgaaGreatDoor.Cl
