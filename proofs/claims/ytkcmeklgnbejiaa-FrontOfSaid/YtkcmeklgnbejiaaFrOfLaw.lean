
/-
  PACKAGE marchlandlaw06: FrontOf.
-/
import Derived.Test.YtkcmeklgnbejiaaFrLaw
import Derived.Deep.RegionHeldLaw
namespace Go.Proofs.Ytkcmeklgnbejiaa.Fr
open Go.RowKit Go.Deep Gr
set_option linter.unusedVariables false
set_option linter.unusedSimpArgs false

set_option maxRecDepth 1000000 in
set_option maxHeartbeats 16000000 in
theorem frof_any {w : World} {ve vi vb : Value} {E : List Ed} {I : List Int} {B0 : List Batch.Ch} (n : Int) (hg : GMemP w ve vi E I) (hbr : Batch.Rd w vb B0) :
    Calls Try.prog 7 #[.agg #[.int .i64 n, ve, vi], vb] w fun e w' => e = .returned (.bool true) ∧ Below w.heap.size w w' := by
  obtain ⟨⟨ao, cap, rfl, _⟩, ⟨aoi, capi, rfl, _⟩⟩ := And.intro hg.ed hg.inp
  obtain ⟨w0, hw0⟩ : ∃ w0, w0 = w.alloc (.cells #[.int .i64 n, .slice ao E.length cap, .slice aoi I.length capi] 54) := ⟨_, rfl⟩
  have hb0 : Below w.heap.size w w0 := by rw [hw0]; exact (Below.refl _ _).alloc (Nat.le_refl _) _
  have hs0 : w0.heap.size = w.heap.size + 1 := by rw [hw0]; simp
  have hx0 : w0.heap[w.heap.size]? = some (.cells #[.int .i64 n, .slice ao E.length cap, .slice aoi I.length capi] 54 (0, 0)) := by rw [hw0]; exact heap_alloc_new w _
  have HG := Lib.hid (show GMemP w0 (.slice ao E.length cap) (.slice aoi I.length capi) E I from hg.below hb0)
  have HR0 := Lib.hid (hbr.below hb0)
  have HX0 := Lib.hid hx0
  have HB0 := Lib.hid hb0
  have HS0 := Lib.hid hs0
  clear hg hbr hb0 hs0 hx0
  go_enter Try.func7, Try.ntmps7
  go_wp2_with fail
  go_at_call 27
  rw [← hw0]
  clear hw0
  refine (gfix_any n HG.out).mono ?_
  rintro e w1 ⟨m, ve1, vi1, E1, I1, hm6, hl12, rfl, hgm, hoe, hoi, hok, hb⟩
  obtain ⟨aoE, capE, rfl⟩ := formE hoe
  obtain ⟨aoI, capI, rfl⟩ := hoi.form
  have HM6 := Lib.hid (show 1 ≤ m ∧ m ≤ 64 from ⟨hok.n0, hok.n1⟩)
  have HL12 := Lib.hid (show E1.length ≤ 12 ∧ I1.length ≤ 8 from ⟨hl12, inlenF hok⟩)
  have HOK := Lib.hid hok
  have HOE := Lib.hid hoe
  have HOI := Lib.hid hoi
  have HWE := Lib.hid (And.intro hgm.ed.wf hgm.inp.wf)
  have HB1 := Lib.hid hb
  clear hm6 hl12 hgm hoe hoi hok hb HG
  go_wp2_with fail
  go_at_call 10
  refine (Batch.bagfix_any (HR0.out.below (HB1.out.mono (Nat.le_refl _)))).mono ?_
  rintro e w1b ⟨vb1, rfl, hob, hb⟩
  have hwB := Batch.bagFix_nice HR0.out.wf
  generalize Batch.bagFixL B0 = B at hob hwB
  obtain ⟨ab, cb, hvb⟩ : ∃ ab cb, vb1 = .slice ab B.length cb := by
    rcases hob.form with ⟨h, h2⟩ | ⟨g, cap, hv, _⟩
    · exact ⟨none, 0, by rw [h2, h]; rfl⟩
    · exact ⟨_, _, hv⟩
  subst hvb
  have HOB := Lib.hid hob
  have HBW := Lib.hid (show ∀ x ∈ B, x.Wf from hwB.wf)
  have HNB := Lib.hid hwB
  have HBL := Lib.hid (show B.length ≤ 100000 by have := hwB.len; omega)
  have hs1 := HB1.out.size
  rw [HS0.out] at hs1
  have hb2 : Below (w.heap.size + 1) w0 w1b := (HB1.out.mono (by rw [HS0.out]; exact Nat.le_refl _)).trans (hb.mono hs1)
  replace HOE := Lib.hid (HOE.out.below hb)
  replace HOI := Lib.hid (HOI.out.below hb)
  have hx1 := (hb2.block _ (Nat.lt_succ_self _)).trans HX0.out
  obtain ⟨y0, y1, y2, yf⟩ := three_cells hx1
  have yf0 := yf 0
  have yf1 := yf 1
  have yf2 := yf 2
  have hr1 := heap_setCell_same w1b w.heap.size 0 _ _ (.int .i64 (m : Int)) hx1
  have hr2 := heap_setCell_same _ w.heap.size 1 _ _ (.slice aoE E1.length capE) hr1
  have hr3 := heap_setCell_same _ w.heap.size 2 _ _ (.slice aoI I1.length capI) hr2
  have hbe := World.ownsRow.lt HOE.out
  have hbi := World.ownsRow.lt HOI.out
  have hbb := World.ownsRow.lt hob
  rw [HS0.out] at hbe hbi
  obtain ⟨w2, hw2⟩ : ∃ w2, w2 = ((w1b.setCell ⟨w.heap.size, 0, none⟩ (.int .i64 (m : Int))).setCell ⟨w.heap.size, 1, none⟩ (.slice aoE E1.length capE)).setCell ⟨w.heap.size, 2, none⟩ (.slice aoI I1.length capI) := ⟨_, rfl⟩
  have hoe2 : Own w2 (w0.heap.size + 3) 83 (.slice aoE E1.length capE) E1 := by
    rw [hw2]
    exact ownsRow_setCell_other (ownsRow_setCell_other (ownsRow_setCell_other HOE.out (fun e => by have h := (hbe _ e).1; dsimp only at h; omega) _) (fun e => by have h := (hbe _ e).1; dsimp only at h; omega) _) (fun e => by have h := (hbe _ e).1; dsimp only at h; omega) _
  have hoi2 : OwnI w2 (w0.heap.size + 3) 3 (.slice aoI I1.length capI) I1 := by
    rw [hw2]
    exact ownsRow_setCell_other (ownsRow_setCell_other (ownsRow_setCell_other HOI.out (fun e => by have h := (hbi _ e).1; dsimp only at h; omega) _) (fun e => by have h := (hbi _ e).1; dsimp only at h; omega) _) (fun e => by have h := (hbi _ e).1; dsimp only at h; omega) _
  have hob2 : Batch.Own w2 w1.heap.size 49 (.slice ab B.length cb) B := by
    rw [hw2]
    exact ownsRow_setCell_other (ownsRow_setCell_other (ownsRow_setCell_other hob (fun e => by have h := (hbb _ e).1; dsimp only at h; omega) _) (fun e => by have h := (hbb _ e).1; dsimp only at h; omega) _) (fun e => by have h := (hbb _ e).1; dsimp only at h; omega) _
  have HGE := Lib.hid (show GMemP w2 (.slice aoE E1.length capE) (.slice aoI I1.length capI) E1 I1 from ⟨hoe2.rd HWE.out.1, hoi2.rd HWE.out.2⟩)
  have HBD := Lib.hid (show Batch.Rd w2 (.slice ab B.length cb) B from hob2.rd HBW.out)
  have HB := Lib.hid (show Below w.heap.size w w2 by rw [hw2]; exact (((HB0.out.trans (hb2.mono (Nat.le_succ _))).setCell (Nat.le_refl _) _).setCell (Nat.le_refl _) _).setCell (Nat.le_refl _) _)
  have HX := Lib.hid (show w2.heap[w.heap.size]? = some (.cells #[.int .i64 (m : Int), .slice aoE E1.length capE, .slice aoI I1.length capI] 54 (0, 0)) by rw [hw2]; simpa using hr3)
  clear hob hwB hb hs1 hb2 hx1 yf hr1 hr2 hr3 hbe hbi hbb hoe2 hoi2 hob2 HX0 HS0 HB0 HR0 HB1 HOE HOI HOB
  go_upto_region 2 with fail
  rw [← hw2]
  clear hw2 y0 y1 y2 yf0 yf1 yf2
  obtain ⟨x0, x1, x2, _⟩ := three_cells HX.out
  go_wp2_with fail
  go_at_call 29
  refine (gto_any (m : Int) HGE.out (by have := HL12.out; omega) (by have := HL12.out; omega)).mono ?_
  rintro e w3 ⟨ve3, vi3, rfl, hg3, hb⟩
  have HG3 := Lib.hid hg3
  replace HGE := Lib.hid (HGE.out.below hb)
  replace HBD := Lib.hid (HBD.out.below hb)
  replace HX := Lib.hid ((hb.block _ (Array.getElem?_eq_some_iff.1 HX.out).1).trans HX.out)
  replace HB := Lib.hid (HB.out.trans (hb.mono HB.out.size))
  clear hg3 hb x0 x1 x2
  go_wp2_with fail
  go_at_call 28
  refine (paths_any HG3.out.ed HG3.out.inp HOK.out).mono ?_
  rintro e w5 ⟨v5, M, rfl, hmat, hls, hb⟩
  obtain ⟨gp, rp, rfl, hmf⟩ := hmat
  have HMAT := Lib.hid (show Mat w5 w3.heap.size (.slice (some ⟨gp, 0, none⟩) m m) m M from ⟨gp, rp, rfl, hmf⟩)
  have HLS := Lib.hid hls
  replace HGE := Lib.hid (HGE.out.below hb)
  replace HBD := Lib.hid (HBD.out.below hb)
  replace HX := Lib.hid ((hb.block _ (Array.getElem?_eq_some_iff.1 HX.out).1).trans HX.out)
  replace HB := Lib.hid (HB.out.trans (hb.mono HB.out.size))
  clear hmf hls hb HG3
  have HGM := Lib.hid (fun (W : World) (h : Below w5.heap.size w5 W) => HGE.out.below h)
  have HBR := Lib.hid (fun (W : World) (h : Below w5.heap.size w5 W) => HBD.out.below h)
  have HS3 := Lib.hid (show ∀ W, Below w5.heap.size w5 W → (W.cell? ⟨w.heap.size, 0, none⟩ = some (.int .i64 (m : Int)) ∧ W.cell? ⟨w.heap.size, 1, none⟩ = some (.slice aoE E1.length capE) ∧ W.cell? ⟨w.heap.size, 2, none⟩ = some (.slice aoI I1.length capI)) from fun W h => by
    obtain ⟨q0, q1, q2, _⟩ := three_cells ((h.block _ (Array.getElem?_eq_some_iff.1 HX.out).1).trans HX.out)
    exact ⟨q0, q1, q2⟩)
  go_upto_region 3 with fail
  refine wp_region_held_drew (S := (fun w' => w'.cell? ⟨w.heap.size, 0, none⟩ = some (.int .i64 (m : Int)) ∧ w'.cell? ⟨w.heap.size, 1, none⟩ = some (.slice aoE E1.length capE) ∧ w'.cell? ⟨w.heap.size, 2, none⟩ = some (.slice aoI I1.length capI))) (by kernel_rfl) ?_ (fun hHeld => ?_)
  · exact HS3.out _ ((Below.refl _ _).drew)
  have HK := Lib.hid ((Below.refl w5.heap.size w5).drew)
  refine wpAnyH_ready (rs := [0]) (by kernel_rfl) (by simp) ?_
  refine AllReadyH.cons rfl (fun K hK => ?_) AllReadyH.nil
  go_simp
  go_at_call 30
  refine (frtold_any _).mono ?_
  rintro e wk ⟨rfl, hcb⟩
  replace HK := Lib.hid (HK.out.trans (hcb.mono HK.out.size))
  clear hcb
  try go_wp2_with fail
  refine hK.out _ _ ?_ (fun hHeld => ?_)
  · exact HS3.out _ HK.out
  clear hK K
  try simp only [Act.put, List.setIfInBounds_toArray, List.set_cons_zero, List.set_cons_succ, List.getElem_toArray, List.getElem_cons_zero]
  refine wpAnyH_take (i := 1) (v := ?_) rfl (by kernel_rfl) (by kernel_rfl) (by kernel_rfl) (fun _ _ _ h => h) (Or.inl ⟨by rfl, ?_⟩) (by assumption) ?_
  rotate_left 1
  · (intro w hSw; (try dsimp only at hSw); first | (go_simp; done) | (go_simp; with_reducible rfl))
  try simp only [Act.put, List.setIfInBounds_toArray, List.set_cons_zero, List.set_cons_succ, List.getElem_toArray, List.getElem_cons_zero, List.getElem_cons_succ]
  refine wpAnyH_take (i := 2) (v := ?_) rfl (by kernel_rfl) (by kernel_rfl) (by kernel_rfl) (fun _ _ _ h => h) (Or.inl ⟨by rfl, ?_⟩) (by assumption) ?_
  rotate_left 1
  · (intro w hSw; (try dsimp only at hSw); first | (go_simp; done) | (go_simp; with_reducible rfl))
  try simp only [Act.put, List.setIfInBounds_toArray, List.set_cons_zero, List.set_cons_succ, List.getElem_toArray, List.getElem_cons_zero, List.getElem_cons_succ]
  refine wpAnyH_take (i := 3) (v := ?_) rfl (by kernel_rfl) (by kernel_rfl) (by kernel_rfl) (fun _ _ _ h => h) (Or.inl ⟨by rfl, ?_⟩) (by assumption) ?_
  rotate_left 1
  · (intro w hSw; (try dsimp only at hSw); first | (go_simp; done) | (go_simp; with_reducible rfl))
  try simp only [Act.put, List.setIfInBounds_toArray, List.set_cons_zero, List.set_cons_succ, List.getElem_toArray, List.getElem_cons_zero, List.getElem_cons_succ]
  refine wpAnyH_take (i := 6) (v := ?_) rfl (by kernel_rfl) (by kernel_rfl) (by kernel_rfl) (fun _ _ _ h => h) (Or.inl ⟨by rfl, ?_⟩) (by assumption) ?_
  rotate_left 1
  · (intro w hSw; (try dsimp only at hSw); first | (go_simp; done) | (go_simp; with_reducible rfl))
  try simp only [Act.put, List.setIfInBounds_toArray, List.set_cons_zero, List.set_cons_succ, List.getElem_toArray, List.getElem_cons_zero, List.getElem_cons_succ]
  refine wpAnyH_take (i := 8) (v := ?_) rfl (by kernel_rfl) (by kernel_rfl) (by kernel_rfl) (fun _ _ _ h => h) (Or.inl ⟨by rfl, ?_⟩) (by assumption) ?_
  rotate_left 1
  · (intro w hSw; (try dsimp only at hSw); first | (go_simp; done) | (go_simp; with_reducible rfl))
  try simp only [Act.put, List.setIfInBounds_toArray, List.set_cons_zero, List.set_cons_succ, List.getElem_toArray, List.getElem_cons_zero, List.getElem_cons_succ]
  refine wpAnyH_ready (rs := [4]) (by kernel_rfl) (by simp) ?_
  refine AllReadyH.cons rfl (fun K hK => ?_) AllReadyH.nil
  go_simp
  go_at_call 12
  refine (Batch.to_any (HBR.out _ HK.out) HBL.out).mono ?_
  rintro e wk ⟨vt, rfl, hot, hcb⟩
  have HT := Lib.hid (hot.sl HNB.out.wf)
  clear hot
  replace HK := Lib.hid (HK.out.trans (hcb.mono HK.out.size))
  clear hcb
  try go_wp2_with fail
  refine hK.out _ _ ?_ (fun hHeld => ?_)
  · exact HS3.out _ HK.out
  clear hK K
  try simp only [Act.put, List.setIfInBounds_toArray, List.set_cons_zero, List.set_cons_succ, List.getElem_toArray, List.getElem_cons_zero, List.getElem_cons_succ]
  refine wpAnyH_ready (rs := [5]) (by kernel_rfl) (by simp) ?_
  refine AllReadyH.cons rfl (fun K hK => ?_) AllReadyH.nil
  go_simp
  go_at_call 32
  refine (of_any ((HMAT.out.below HK.out).base (Nat.zero_le _)) (m_bd HLS.out) HT.out HNB.out.right.2 HBL.out HM6.out.1 HM6.out.2).mono ?_
  rintro e wk ⟨g1, F, rfl, _, hrow, hfr, hcb⟩
  have HF := Lib.hid (rdu_row hrow (by have := HM6.out; omega))
  have HFR := Lib.hid hfr
  clear hrow hfr
  replace HK := Lib.hid (HK.out.trans (hcb.mono HK.out.size))
  clear hcb
  try go_wp2_with fail
  refine hK.out _ _ ?_ (fun hHeld => ?_)
  · exact HS3.out _ HK.out
  clear hK K
  try simp only [Act.put, List.setIfInBounds_toArray, List.set_cons_zero, List.set_cons_succ, List.getElem_toArray, List.getElem_cons_zero, List.getElem_cons_succ]
  refine wpAnyH_ready (rs := [7]) (by kernel_rfl) (by simp) ?_
  refine AllReadyH.cons rfl (fun K hK => ?_) AllReadyH.nil
  go_simp
  go_at_call 34
  refine (refpaths_any (HGM.out _ HK.out).ed (HGM.out _ HK.out).inp HOK.out).mono ?_
  rintro e wk ⟨vp2, M2, rfl, hm2, hl2, hcb⟩
  have HM2 := Lib.hid hm2
  have HL2 := Lib.hid hl2
  replace HF := Lib.hid (HF.out.below hcb)
  clear hm2 hl2
  replace HK := Lib.hid (HK.out.trans (hcb.mono HK.out.size))
  clear hcb
  try go_wp2_with fail
  refine hK.out _ _ ?_ (fun hHeld => ?_)
  · exact HS3.out _ HK.out
  clear hK K
  try simp only [Act.put, List.setIfInBounds_toArray, List.set_cons_zero, List.set_cons_succ, List.getElem_toArray, List.getElem_cons_zero, List.getElem_cons_succ]
  refine wpAnyH_ready (rs := [9]) (by kernel_rfl) (by simp) ?_
  refine AllReadyH.cons rfl (fun K hK => ?_) AllReadyH.nil
  go_simp
  go_at_call 33
  refine (refof_any HM2.out (m_bd HL2.out) (HBR.out _ HK.out) HBL.out HM6.out.1 HM6.out.2).mono ?_
  rintro e wk ⟨vo, l, rfl, hol, hll, hfl, hcb⟩
  have HO := Lib.hid hol.rd
  replace HF := Lib.hid (HF.out.below hcb)
  rw [front_same HNB.out.wf HFR.out hll hfl HLS.out HL2.out] at HF
  clear hol hll hfl HM2 HL2 HFR
  replace HK := Lib.hid (HK.out.trans (hcb.mono HK.out.size))
  clear hcb
  try go_wp2_with fail
  refine hK.out _ _ ?_ (fun hHeld => ?_)
  · exact HS3.out _ HK.out
  clear hK K
  try simp only [Act.put, List.setIfInBounds_toArray, List.set_cons_zero, List.set_cons_succ, List.getElem_toArray, List.getElem_cons_zero, List.getElem_cons_succ]
  refine wpAnyH_ready (rs := [10]) (by kernel_rfl) (by simp) ?_
  refine AllReadyH.cons rfl (fun K hK => ?_) AllReadyH.nil
  go_simp
  go_at_call 31
  refine (same_any HF.out HO.out).mono ?_
  rintro e wk ⟨rfl, hcb⟩
  replace HK := Lib.hid (HK.out.trans (hcb.mono HK.out.size))
  clear hcb
  try go_wp2_with fail
  refine hK.out _ _ ?_ (fun hHeld => ?_)
  · exact HS3.out _ HK.out
  clear hK K
  try simp only [Act.put, List.setIfInBounds_toArray, List.set_cons_zero, List.set_cons_succ, List.getElem_toArray, List.getElem_cons_zero, List.getElem_cons_succ]
  refine wpAnyH_take (i := 11) (v := ?_) rfl (by kernel_rfl) (by kernel_rfl) (by kernel_rfl) (fun _ _ _ h => h) (Or.inl ⟨by rfl, ?_⟩) (by assumption) ?_
  rotate_left 1
  · (intro w hSw; (try dsimp only at hSw); first | (go_simp; done) | (go_simp; with_reducible rfl))
  try simp only [Act.put, List.setIfInBounds_toArray, List.set_cons_zero, List.set_cons_succ, List.getElem_toArray, List.getElem_cons_zero, List.getElem_cons_succ]
  refine wpAnyH_take (i := 12) (v := ?_) rfl (by kernel_rfl) (by kernel_rfl) (by kernel_rfl) (fun _ _ _ h => h) (Or.inl ⟨by rfl, ?_⟩) (by assumption) ?_
  rotate_left 1
  · (intro w hSw; (try dsimp only at hSw); first | (go_simp; done) | (go_simp; with_reducible rfl))
  try simp only [Act.put, List.setIfInBounds_toArray, List.set_cons_zero, List.set_cons_succ, List.getElem_toArray, List.getElem_cons_zero, List.getElem_cons_succ]
  refine wpAnyH_take (i := 13) (v := ?_) rfl (by kernel_rfl) (by kernel_rfl) (by kernel_rfl) (fun _ _ _ h => h) (Or.inl ⟨by rfl, ?_⟩) (by assumption) ?_
  rotate_left 1
  · (intro w hSw; (try dsimp only at hSw); first | (go_simp; done) | (go_simp; with_reducible rfl))
  try simp only [Act.put, List.setIfInBounds_toArray, List.set_cons_zero, List.set_cons_succ, List.getElem_toArray, List.getElem_cons_zero, List.getElem_cons_succ]
  refine wpAnyH_take (i := 14) (v := ?_) rfl (by kernel_rfl) (by kernel_rfl) (by kernel_rfl) (fun _ _ _ h => h) (Or.inl ⟨by rfl, ?_⟩) (by assumption) ?_
  rotate_left 1
  · (intro w hSw; (try dsimp only at hSw); first | (go_simp; done) | (go_simp; with_reducible rfl))
  try simp only [Act.put, List.setIfInBounds_toArray, List.set_cons_zero, List.set_cons_succ, List.getElem_toArray, List.getElem_cons_zero, List.getElem_cons_succ]
  refine wpAnyH_ready (rs := [15]) (by kernel_rfl) (by simp) ?_
  refine AllReadyH.cons rfl (fun K hK => ?_) AllReadyH.nil
  go_simp
  go_at_call 34
  refine (refpaths_any (HGM.out _ HK.out).ed (HGM.out _ HK.out).inp HOK.out).mono ?_
  rintro e wk ⟨vp3, M3, rfl, hm3, hl3, hcb⟩
  have HM3 := Lib.hid hm3
  have HL3 := Lib.hid hl3
  clear hm3 hl3
  replace HK := Lib.hid (HK.out.trans (hcb.mono HK.out.size))
  clear hcb
  try go_wp2_with fail
  refine hK.out _ _ ?_ (fun hHeld => ?_)
  · exact HS3.out _ HK.out
  clear hK K
  try simp only [Act.put, List.setIfInBounds_toArray, List.set_cons_zero, List.set_cons_succ, List.getElem_toArray, List.getElem_cons_zero, List.getElem_cons_succ]
  refine wpAnyH_ready (rs := [16]) (by kernel_rfl) (by simp) ?_
  refine AllReadyH.cons rfl (fun K hK => ?_) AllReadyH.nil
  go_simp
  go_at_call 35
  refine (rows_any (HMAT.out.below HK.out) HM3.out (HLS.out.one HL3.out) HM6.out.2).mono ?_
  rintro e wk ⟨rfl, hcb⟩
  replace HK := Lib.hid (HK.out.trans (hcb.mono HK.out.size))
  clear hcb
  try go_wp2_with fail
  refine hK.out _ _ ?_ (fun hHeld => ?_)
  · exact HS3.out _ HK.out
  clear hK K
  try simp only [Act.put, List.setIfInBounds_toArray, List.set_cons_zero, List.set_cons_succ, List.getElem_toArray, List.getElem_cons_zero, List.getElem_cons_succ]
  refine wpAnyH_take (i := 17) (v := ?_) rfl (by kernel_rfl) (by kernel_rfl) (by kernel_rfl) (fun _ _ _ h => h) (Or.inl ⟨by rfl, ?_⟩) (by assumption) ?_
  rotate_left 1
  · (intro w hSw; (try dsimp only at hSw); first | (go_simp; done) | (go_simp; with_reducible rfl))
  try simp only [Act.put, List.setIfInBounds_toArray, List.set_cons_zero, List.set_cons_succ, List.getElem_toArray, List.getElem_cons_zero, List.getElem_cons_succ]
  refine wpAnyH_take (i := 18) (v := ?_) rfl (by kernel_rfl) (by kernel_rfl) (by kernel_rfl) (fun _ _ _ h => h) (Or.inl ⟨by rfl, ?_⟩) (by assumption) ?_
  rotate_left 1
  · (intro w hSw; (try dsimp only at hSw); first | (go_simp; done) | (go_simp; with_reducible rfl))
  try simp only [Act.put, List.setIfInBounds_toArray, List.set_cons_zero, List.set_cons_succ, List.getElem_toArray, List.getElem_cons_zero, List.getElem_cons_succ]
  refine wpAnyH_done (by kernel_rfl) ?_ _
  go_wp2_with fail
  go_ret
  exact ⟨rfl, HB.out.trans (HK.out.mono HB.out.size)⟩
end Go.Proofs.Ytkcmeklgnbejiaa.Fr
