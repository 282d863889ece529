/-
  PACKAGE marchlandlaw07: ClaimLets.
-/
import Derived.Test.YtlkljeedlkbkgaaGreatDoorJoined25
import Derived.Deep.RegionHeldLaw
import Derived.BigQuiet
namespace Go.Proofs.YtlkljeedlkbkgaaGreatDoor.Cl
open Go.RowKit Go.Deep Gr Go.Proofs.YtlkljeedlkbkgaaGreatDoor.Fault
set_option linter.unusedVariables false
set_option linter.unusedSimpArgs false
set_option maxRecDepth 1000000 in
set_option maxHeartbeats 16000000 in
theorem clets_any {w : World} {ve vi vh vb : Value} {E : List Ed} {I : List Int} {H0 : List Ed} {B0 : List Batch.Ch} (n cp ct cd : Int) (hL : LV w) (hg : GMemP w ve vi E I) (hh : Rd w vh H0) (hbr : Batch.Rd w vb B0) (hBl : B0.length * 24 ≤ 140737488355328) (ht : 0 ≤ ct ∧ ct ≤ 18446744073709551615) :
    Calls Tryz.prog 5 #[.agg #[.int .i64 n, ve, vi], .agg #[vh, vb], .agg #[.int .i64 cp, .int .u64 ct, .int .i64 cd]] w fun e w' => e = .returned (.bool true) ∧ Below w.heap.size w w' := by
  obtain ⟨w0, hw0⟩ : ∃ w0, w0 = ((w.alloc (.cells #[.int .i64 n, ve, vi] 25)).alloc (.cells #[vh, vb] 29)).alloc (.cells #[.int .i64 cp, .int .u64 ct, .int .i64 cd] 67) := ⟨_, rfl⟩
  have hb0 : Below w.heap.size w w0 := by rw [hw0]; exact (((Below.refl _ _).alloc (Nat.le_refl _) _).alloc (by simp) _).alloc (by simp; omega) _
  have hs0 : w0.heap.size = w.heap.size + 3 := by rw [hw0]; simp
  have hx0 : w0.heap[w.heap.size]? = some (.cells #[.int .i64 n, ve, vi] 25 (0, 0)) := by
    rw [hw0, heap_alloc_old _ _ (by simp; omega), heap_alloc_old _ _ (by simp)]; exact heap_alloc_new w _
  have hy0 : w0.heap[w.heap.size + 1]? = some (.cells #[vh, vb] 29 (0, 0)) := by
    have h := heap_alloc_new (w.alloc (.cells #[.int .i64 n, ve, vi] 25)) (.cells #[vh, vb] 29)
    rw [hw0, heap_alloc_old _ _ (by simp)]; simpa using h
  have hz0 : w0.heap[w.heap.size + 1 + 1]? = some (.cells #[.int .i64 cp, .int .u64 ct, .int .i64 cd] 67 (0, 0)) := by
    have h := heap_alloc_new ((w.alloc (.cells #[.int .i64 n, ve, vi] 25)).alloc (.cells #[vh, vb] 29)) (.cells #[.int .i64 cp, .int .u64 ct, .int .i64 cd] 67)
    rw [hw0]; simpa [Nat.add_assoc] using h
  have HL := Lib.hid hL
  have HG := Lib.hid (show GMemP w0 ve vi E I from hg.below hb0)
  have HHR := Lib.hid hh
  have HBR := Lib.hid hbr
  have HBL := Lib.hid hBl
  have HT := Lib.hid ht
  have HX0 := Lib.hid hx0
  have HY0 := Lib.hid hy0
  have HZ0 := Lib.hid hz0
  have HB0 := Lib.hid hb0
  have HS0 := Lib.hid hs0
  clear hL hh hbr hBl ht hb0 hs0 hx0 hy0 hz0
  obtain ⟨⟨ao, cap, e1, _⟩, ⟨aoi, capi, e2, _⟩⟩ := And.intro hg.ed hg.inp
  obtain ⟨ah, ch, e3, _⟩ := HHR.out
  obtain ⟨ab, cb, e4, _⟩ := HBR.out
  subst e1 e2 e3 e4
  clear hg
  go_enter Tryz.func5, Tryz.ntmps5
  go_wp2_with fail
  go_at_call 6
  rw [← hw0]
  clear hw0
  refine (gfix_any n HG.out).mono ?_
  rintro e w1 ⟨m, ve1, vi1, E1, I1, hm6, hl12, rfl, hgm, hoe, hoi, hok, hb⟩
  obtain ⟨aoE, capE, rfl⟩ := Fr.formE hoe
  obtain ⟨aoI, capI, rfl⟩ := hoi.form
  have HM6 := Lib.hid (show 1 ≤ m ∧ m ≤ 64 from ⟨hok.n0, hok.n1⟩)
  have HL12 := Lib.hid (show E1.length ≤ 12 ∧ I1.length ≤ 8 from ⟨hl12, Fr.inlenF hok⟩)
  have HOK := Lib.hid hok
  have HOE := Lib.hid hoe
  have HOI := Lib.hid hoi
  have HWE := Lib.hid (And.intro hgm.ed.wf hgm.inp.wf)
  have HB1 := Lib.hid hb
  clear hm6 hl12 hgm hoe hoi hok hb HG
  have hb2 : Below (w.heap.size + 3) w0 w1 := HB1.out.mono (by rw [HS0.out]; exact Nat.le_refl _)
  have hx1 := (hb2.block _ (by omega)).trans HX0.out
  have hy1 := (hb2.block _ (by omega)).trans HY0.out
  have hz1 := (hb2.block _ (by omega)).trans HZ0.out
  obtain ⟨y0, y1, y2, yf⟩ := three_cells hx1
  have yf0 := yf 0
  have yf1 := yf 1
  have yf2 := yf 2
  have hr1 := heap_setCell_same w1 w.heap.size 0 _ _ (.int .i64 (m : Int)) hx1
  have hr2 := heap_setCell_same _ w.heap.size 1 _ _ (.slice aoE E1.length capE) hr1
  have hr3 := heap_setCell_same _ w.heap.size 2 _ _ (.slice aoI I1.length capI) hr2
  have hbe := World.ownsRow.lt HOE.out
  have hbi := World.ownsRow.lt HOI.out
  rw [HS0.out] at hbe hbi
  obtain ⟨w2, hw2⟩ : ∃ w2, w2 = ((w1.setCell ⟨w.heap.size, 0, none⟩ (.int .i64 (m : Int))).setCell ⟨w.heap.size, 1, none⟩ (.slice aoE E1.length capE)).setCell ⟨w.heap.size, 2, none⟩ (.slice aoI I1.length capI) := ⟨_, rfl⟩
  have hoe2 : Own w2 (w0.heap.size + 3) 76 (.slice aoE E1.length capE) E1 := by
    rw [hw2]
    exact ownsRow_setCell_other (ownsRow_setCell_other (ownsRow_setCell_other HOE.out (fun e => by have h := (hbe _ e).1; dsimp only at h; omega) _) (fun e => by have h := (hbe _ e).1; dsimp only at h; omega) _) (fun e => by have h := (hbe _ e).1; dsimp only at h; omega) _
  have hoi2 : OwnI w2 (w0.heap.size + 3) 3 (.slice aoI I1.length capI) I1 := by
    rw [hw2]
    exact ownsRow_setCell_other (ownsRow_setCell_other (ownsRow_setCell_other HOI.out (fun e => by have h := (hbi _ e).1; dsimp only at h; omega) _) (fun e => by have h := (hbi _ e).1; dsimp only at h; omega) _) (fun e => by have h := (hbi _ e).1; dsimp only at h; omega) _
  have HOE2 := Lib.hid hoe2
  have HOI2 := Lib.hid hoi2
  have HB := Lib.hid (show Below w.heap.size w w2 by rw [hw2]; exact (((HB0.out.trans (hb2.mono (by omega))).setCell (Nat.le_refl _) _).setCell (Nat.le_refl _) _).setCell (Nat.le_refl _) _)
  have HX := Lib.hid (show w2.heap[w.heap.size]? = some (.cells #[.int .i64 (m : Int), .slice aoE E1.length capE, .slice aoI I1.length capI] 25 (0, 0)) by rw [hw2]; simpa using hr3)
  have HY := Lib.hid (show w2.heap[w.heap.size + 1]? = some (.cells #[.slice ah H0.length ch, .slice ab B0.length cb] 29 (0, 0)) by rw [hw2, heap_setCell_other _ _ _ _ (by simp), heap_setCell_other _ _ _ _ (by simp), heap_setCell_other _ _ _ _ (by simp)]; exact hy1)
  have HZ := Lib.hid (show w2.heap[w.heap.size + 1 + 1]? = some (.cells #[.int .i64 cp, .int .u64 ct, .int .i64 cd] 67 (0, 0)) by rw [hw2, heap_setCell_other _ _ _ _ (by dsimp only; omega), heap_setCell_other _ _ _ _ (by dsimp only; omega), heap_setCell_other _ _ _ _ (by dsimp only; omega)]; exact hz1)
  have HS2 := Lib.hid (show w.heap.size + 3 ≤ w2.heap.size by rw [hw2]; simp; have := HB1.out.size; have := HS0.out; omega)
  clear hb2 hx1 hy1 hz1 yf hr1 hr2 hr3 hbe hbi hoe2 hoi2 HX0 HY0 HZ0 HB0 HB1 HOE HOI
  go_upto_region 2 with fail
  rw [← hw2]
  clear hw2 y0 y1 y2 yf0 yf1 yf2
  obtain ⟨x0, x1, x2, _⟩ := three_cells HX.out
  obtain ⟨z0, z1, zf, _⟩ := own_two HY.out
  go_wp2_with fail
  go_at_call 7
  refine (ownfix_any m HM6.out (HHR.out.below HB.out) (HBR.out.below HB.out) HBL.out).mono ?_
  rintro e w3 ⟨vh1, vb1, rfl, hoh, hob, hb⟩
  have HH5 := Lib.hid (show (fixHL H0 m).length ≤ 5 from fixO_len H0 m 5)
  have HWH := Lib.hid (show ∀ x ∈ fixHL H0 m, x.Wf from fixO_all (fun y hy => fixE_wf HM6.out (HHR.out.wf y hy)) 5)
  have HNB := Lib.hid (fixBL_nice HM6.out HBR.out.wf)
  have HTB := Lib.hid (fun p t => fixBL_tot HM6.out HBR.out.wf p t)
  have HPB := Lib.hid (fixBL_hold HM6.out HBR.out.wf)
  clear HHR HBR HBL x0 x1 x2
  obtain ⟨aH, cH, rfl⟩ := Fr.formE hoh
  obtain ⟨aB, cB, hvb⟩ : ∃ aB cB, vb1 = .slice aB (fixBL B0 m).length cB := by
    rcases hob.form with ⟨h, h2⟩ | ⟨g, cap, hv, _⟩
    · exact ⟨none, 0, by rw [h2, h]; rfl⟩
    · exact ⟨_, _, hv⟩
  subst hvb
  generalize fixHL H0 m = H at *
  generalize fixBL B0 m = B at *
  have HOH := Lib.hid hoh
  have HOB := Lib.hid hob
  have HB3 := Lib.hid hb
  replace HOE2 := Lib.hid (HOE2.out.below hb)
  replace HOI2 := Lib.hid (HOI2.out.below hb)
  have hb3 : Below (w.heap.size + 3) w2 w3 := hb.mono HS2.out
  clear hoh hob hb
  have hx3 := (hb3.block _ (by omega)).trans HX.out
  have hy3 := (hb3.block _ (by omega)).trans HY.out
  have hz3 := (hb3.block _ (by omega)).trans HZ.out
  obtain ⟨y0, y1, yf, _⟩ := own_two hy3
  have yf0 := yf 0
  have yf1 := yf 1
  have hr1 := own_set0 hy3 (.slice aH H.length cH)
  have hr2 := own_set1 hr1 (.slice aB B.length cB)
  have hbh := World.ownsRow.lt HOH.out
  have hbb := World.ownsRow.lt HOB.out
  obtain ⟨w4, hw4⟩ : ∃ w4, w4 = (w3.setCell ⟨w.heap.size + 1, 0, none⟩ (.slice aH H.length cH)).setCell ⟨w.heap.size + 1, 1, none⟩ (.slice aB B.length cB) := ⟨_, rfl⟩
  have HHD := Lib.hid (show Rd w4 (.slice aH H.length cH) H by
    rw [hw4]
    exact Own.rd (T := 50) (base := w2.heap.size) (ownsRow_setCell_other (ownsRow_setCell_other HOH.out (fun e => by have h := (hbh _ e).1; have := HS2.out; dsimp only at h; omega) _) (fun e => by have h := (hbh _ e).1; have := HS2.out; dsimp only at h; omega) _) HWH.out)
  have HBD := Lib.hid (show Batch.Rd w4 (.slice aB B.length cB) B by
    rw [hw4]
    exact Batch.Own.rd (T := 67) (base := w2.heap.size) (ownsRow_setCell_other (ownsRow_setCell_other HOB.out (fun e => by have h := (hbb _ e).1; have := HS2.out; dsimp only at h; omega) _) (fun e => by have h := (hbb _ e).1; have := HS2.out; dsimp only at h; omega) _) HNB.out.wf)
  have hbe := World.ownsRow.lt HOE2.out
  have hbi := World.ownsRow.lt HOI2.out
  rw [HS0.out] at hbe hbi
  have hoe2 : Own w4 (w0.heap.size + 3) 76 (.slice aoE E1.length capE) E1 := by
    rw [hw4]
    exact ownsRow_setCell_other (ownsRow_setCell_other HOE2.out (fun e => by have h := (hbe _ e).1; dsimp only at h; omega) _) (fun e => by have h := (hbe _ e).1; dsimp only at h; omega) _
  have hoi2 : OwnI w4 (w0.heap.size + 3) 3 (.slice aoI I1.length capI) I1 := by
    rw [hw4]
    exact ownsRow_setCell_other (ownsRow_setCell_other HOI2.out (fun e => by have h := (hbi _ e).1; dsimp only at h; omega) _) (fun e => by have h := (hbi _ e).1; dsimp only at h; omega) _
  have HGE := Lib.hid (show GMemP w4 (.slice aoE E1.length capE) (.slice aoI I1.length capI) E1 I1 from ⟨hoe2.rd HWE.out.1, hoi2.rd HWE.out.2⟩)
  replace HX := Lib.hid (show w4.heap[w.heap.size]? = some (.cells #[.int .i64 (m : Int), .slice aoE E1.length capE, .slice aoI I1.length capI] 25 (0, 0)) by rw [hw4, heap_setCell_other _ _ _ _ (by simp), heap_setCell_other _ _ _ _ (by simp)]; exact hx3)
  replace HY := Lib.hid (show w4.heap[w.heap.size + 1]? = some (.cells #[.slice aH H.length cH, .slice aB B.length cB] 29 (0, 0)) by rw [hw4]; exact hr2)
  replace HZ := Lib.hid (show w4.heap[w.heap.size + 1 + 1]? = some (.cells #[.int .i64 cp, .int .u64 ct, .int .i64 cd] 67 (0, 0)) by rw [hw4, heap_setCell_other _ _ _ _ (by dsimp only; omega), heap_setCell_other _ _ _ _ (by dsimp only; omega)]; exact hz3)
  replace HB := Lib.hid (show Below w.heap.size w w4 by rw [hw4]; exact ((HB.out.trans (HB3.out.mono HB.out.size)).setCell (by simp) _).setCell (by simp) _)
  clear hb3 hx3 hy3 hz3 yf hr1 hr2 hbh hbb hbe hbi hoe2 hoi2 HB3 HOH HOB HOE2 HOI2 HS2 HS0 zf z0 z1
  go_upto_region 3 with fail
  rw [← hw4]
  clear hw4 y0 y1 yf0 yf1
  obtain ⟨x0, x1, x2, _⟩ := three_cells HX.out
  obtain ⟨u0, u1, u2, _⟩ := three_cells HZ.out
  obtain ⟨p, hpm, hp1, hp2⟩ : ∃ p : Nat, p < m ∧ IntKind.i64.wrap ((IntKind.u64.wrap cp).tmod (m : Int)) = (p : Int) ∧ wrap64 ((IntKind.u64.wrap cp).tmod (m : Int)) = (p : Int) := ⟨modN m cp, modN_lt HM6.out.1 cp, by rw [modN_tm HM6.out.1]; exact (modN_w HM6.out.1 (by have := HM6.out.2; omega) cp).1, by rw [modN_tm HM6.out.1]; exact (modN_w HM6.out.1 (by have := HM6.out.2; omega) cp).2⟩
  have hmu : IntKind.u64.wrap (m : Int) = (m : Int) := u64_id (by omega) (by have := HM6.out; omega)
  have hmz : ¬ m = 0 := by have := HM6.out; omega
  obtain ⟨U, hU⟩ : ∃ U, U = ct.tmod 18446744073709551615 := ⟨_, rfl⟩
  have hU0 : 0 ≤ U := by rw [hU]; exact Int.tmod_nonneg _ HT.out.1
  have hU1 : U < 18446744073709551615 := by rw [hU]; exact Int.tmod_lt_of_pos _ (by decide)
  have hU2 : ct.tmod 18446744073709551615 = U := hU.symm
  have HUU := Lib.hid (And.intro hU0 hU1)
  have HPM := Lib.hid hpm
  clear hU hU0 hU1 hpm
  go_quiet (fail)
  obtain ⟨wq, hwq⟩ : ∃ wq, wq = w4.drewN nq := ⟨_, rfl⟩
  have hb : Below w4.heap.size w4 wq := by rw [hwq]; exact below_drewN (Below.refl _ _) _
  rw [← hwq]
  replace HHD := Lib.hid (HHD.out.below hb)
  replace HBD := Lib.hid (HBD.out.below hb)
  replace HX := Lib.hid ((hb.block _ (Array.getElem?_eq_some_iff.1 HX.out).1).trans HX.out)
  replace HY := Lib.hid ((hb.block _ (Array.getElem?_eq_some_iff.1 HY.out).1).trans HY.out)
  replace HGE := Lib.hid (HGE.out.below hb)
  replace HB := Lib.hid (HB.out.trans (hb.mono HB.out.size))
  clear hb hwq u0 u1 u2 hp1 hp2 hmu hmz hU2 HZ HT x0 x1 x2
  obtain ⟨x0, x1, x2, _⟩ := three_cells HX.out
  go_wp2_with fail
  go_at_call 14
  refine (gto_any (m : Int) HGE.out (by have := HL12.out; omega) (by have := HL12.out; omega)).mono ?_
  rintro e w5 ⟨ve3, vi3, rfl, hg3, hb⟩
  have HG3 := Lib.hid hg3
  replace HHD := Lib.hid (HHD.out.below hb)
  replace HBD := Lib.hid (HBD.out.below hb)
  replace HX := Lib.hid ((hb.block _ (Array.getElem?_eq_some_iff.1 HX.out).1).trans HX.out)
  replace HY := Lib.hid ((hb.block _ (Array.getElem?_eq_some_iff.1 HY.out).1).trans HY.out)
  replace HB := Lib.hid (HB.out.trans (hb.mono HB.out.size))
  clear hg3 hb x0 x1 x2 HGE
  go_wp2_with fail
  go_at_call 13
  refine (paths_any HG3.out.ed HG3.out.inp HOK.out).mono ?_
  rintro e w6 ⟨v5, M, rfl, hmat, hls, hb⟩
  obtain ⟨gp, rp, rfl, hmf⟩ := hmat
  have HMAT := Lib.hid (show Mat w6 w5.heap.size (.slice (some ⟨gp, 0, none⟩) m m) m M from ⟨gp, rp, rfl, hmf⟩)
  have HLS := Lib.hid hls
  have HMU := Lib.hid (show MU M m from mu_of hls)
  replace HHD := Lib.hid (HHD.out.below hb)
  replace HBD := Lib.hid (HBD.out.below hb)
  replace HX := Lib.hid ((hb.block _ (Array.getElem?_eq_some_iff.1 HX.out).1).trans HX.out)
  replace HY := Lib.hid ((hb.block _ (Array.getElem?_eq_some_iff.1 HY.out).1).trans HY.out)
  replace HB := Lib.hid (HB.out.trans (hb.mono HB.out.size))
  clear hmf hls hb HG3
  obtain ⟨y0, y1, _, _⟩ := own_two HY.out
  go_wp2_with fail
  go_at_call 11
  refine (ownto_any HHD.out HBD.out (by have := HH5.out; omega) (by have := HNB.out.len; omega)).mono ?_
  rintro e w7 ⟨vh2, vb2, rfl, hoh, hob, hb⟩
  have HSH := Lib.hid (hoh.sl HWH.out)
  have HSB := Lib.hid (hob.sl HNB.out.wf)
  replace HHD := Lib.hid (HHD.out.below hb)
  replace HBD := Lib.hid (HBD.out.below hb)
  replace HX := Lib.hid ((hb.block _ (Array.getElem?_eq_some_iff.1 HX.out).1).trans HX.out)
  replace HY := Lib.hid ((hb.block _ (Array.getElem?_eq_some_iff.1 HY.out).1).trans HY.out)
  replace HMAT := Lib.hid (HMAT.out.below hb)
  replace HB := Lib.hid (HB.out.trans (hb.mono HB.out.size))
  clear hoh hob hb y0 y1
  go_wp2_with fail
  go_at_call 15
  refine (all_any HSH.out HSB.out (by have := HH5.out; omega) (by have := HNB.out.len; omega)).mono ?_
  rintro e w8 ⟨va, rfl, hoa, hb⟩
  have HAW := Lib.hid (all_wf HWH.out HNB.out.wf)
  have HAR := Lib.hid (all_rise HWH.out HNB.out.wf)
  have HAL := Lib.hid (show (allL H B).length ≤ 100000 from Nat.le_trans all_length (by have := HH5.out; have := HNB.out.len; omega))
  have HSA := Lib.hid (hoa.sl HAW.out)
  replace HHD := Lib.hid (HHD.out.below hb)
  replace HBD := Lib.hid (HBD.out.below hb)
  replace HX := Lib.hid ((hb.block _ (Array.getElem?_eq_some_iff.1 HX.out).1).trans HX.out)
  replace HY := Lib.hid ((hb.block _ (Array.getElem?_eq_some_iff.1 HY.out).1).trans HY.out)
  replace HMAT := Lib.hid (HMAT.out.below hb)
  replace HB := Lib.hid (HB.out.trans (hb.mono HB.out.size))
  clear hoa hb HSH HSB
  go_wp2_with fail
  go_at_call 16
  refine (Fr.of_any (HMAT.out.base (Nat.zero_le _)) (Fr.m_bd HLS.out) HSA.out HAR.out HAL.out HM6.out.1 HM6.out.2).mono ?_
  rintro e w9 ⟨g1, F, rfl, _, hrow, hfr, hb⟩
  have HROW := Lib.hid hrow
  have HFR := Lib.hid (hfr p HPM.out)
  replace HHD := Lib.hid (HHD.out.below hb)
  replace HBD := Lib.hid (HBD.out.below hb)
  replace HX := Lib.hid ((hb.block _ (Array.getElem?_eq_some_iff.1 HX.out).1).trans HX.out)
  replace HY := Lib.hid ((hb.block _ (Array.getElem?_eq_some_iff.1 HY.out).1).trans HY.out)
  replace HMAT := Lib.hid (HMAT.out.below hb)
  replace HB := Lib.hid (HB.out.trans (hb.mono HB.out.size))
  clear hrow hfr hb HSA
  obtain ⟨y0, y1, _, _⟩ := own_two HY.out
  go_wp2_with fail
  go_at_call 11
  refine (ownto_any HHD.out HBD.out (by have := HH5.out; omega) (by have := HNB.out.len; omega)).mono ?_
  rintro e wt ⟨vh3, vb3, rfl, hoh, hob, hb⟩
  have HOA := Lib.hid (show OwnAt wt vh3 vb3 H B from ⟨hoh.sl HWH.out, hob.sl HNB.out.wf⟩)
  replace HHD := Lib.hid (HHD.out.below hb)
  replace HBD := Lib.hid (HBD.out.below hb)
  replace HX := Lib.hid ((hb.block _ (Array.getElem?_eq_some_iff.1 HX.out).1).trans HX.out)
  replace HY := Lib.hid ((hb.block _ (Array.getElem?_eq_some_iff.1 HY.out).1).trans HY.out)
  replace HMAT := Lib.hid (HMAT.out.below hb)
  replace HROW := Lib.hid (HROW.out.of_block (hb.block _ HROW.out.lt))
  replace HB := Lib.hid (HB.out.trans (hb.mono HB.out.size))
  clear hoh hob hb y0 y1
  go_wp2_with fail
  obtain ⟨wu, hwu⟩ : ∃ wu, wu = wt.alloc (.cells #[.int .i64 (p : Int), .int .u64 U, .int .i64 1] 72) := ⟨_, rfl⟩
  have hb : Below wt.heap.size wt wu := by rw [hwu]; exact (Below.refl _ _).alloc (Nat.le_refl _) _
  have HSL := Lib.hid (show Batch.Sl wu (.slice (some ⟨wt.heap.size, 0, none⟩) 1 1) [⟨(p : Int), U, 1⟩] by
    rw [hwu]; exact ch_new wt (p : Int) U (1) 72 ⟨by dsimp only; omega, by have := HPM.out; have := HM6.out; dsimp only; omega, HUU.out.1, by have := HUU.out.2; dsimp only; omega, by dsimp only; decide, by dsimp only; decide⟩)
  replace HHD := Lib.hid (HHD.out.below hb)
  replace HBD := Lib.hid (HBD.out.below hb)
  replace HX := Lib.hid ((hb.block _ (Array.getElem?_eq_some_iff.1 HX.out).1).trans HX.out)
  replace HY := Lib.hid ((hb.block _ (Array.getElem?_eq_some_iff.1 HY.out).1).trans HY.out)
  replace HMAT := Lib.hid (HMAT.out.below hb)
  replace HROW := Lib.hid (HROW.out.of_block (hb.block _ HROW.out.lt))
  replace HOA := Lib.hid (HOA.out.below hb)
  replace HB := Lib.hid (HB.out.trans (hb.mono HB.out.size))
  clear hb
  go_at_call 20
  rw [← hwu]
  clear hwu
  refine (update_one (F p ≤ U) HOA.out (by have := HH5.out; omega) (by have := HNB.out.len; omega) HPB.out HSL.out HMAT.out HMU.out HM6.out.2 HPM.out HUU.out.2 (.inl rfl) (up_plus HPM.out HFR.out HUU.out.2 (HTB.out _ _))).mono ?_
  rintro e wv ⟨a7, na7, ca7, b7, nb7, cb7, ao7, cap7, n7, er7, rfl, hq7, hb⟩
  have HQ7 := Lib.hid hq7
  replace HHD := Lib.hid (HHD.out.below hb)
  replace HBD := Lib.hid (HBD.out.below hb)
  replace HX := Lib.hid ((hb.block _ (Array.getElem?_eq_some_iff.1 HX.out).1).trans HX.out)
  replace HY := Lib.hid ((hb.block _ (Array.getElem?_eq_some_iff.1 HY.out).1).trans HY.out)
  replace HMAT := Lib.hid (HMAT.out.below hb)
  replace HROW := Lib.hid (HROW.out.of_block (hb.block _ HROW.out.lt))
  replace HB := Lib.hid (HB.out.trans (hb.mono HB.out.size))
  clear hb hq7 HOA HSL
  go_upto_region 8 with fail
  obtain ⟨wb, hwb⟩ : ∃ wb, wb = wv.alloc (.cells #[.slice a7 na7 ca7, .slice b7 nb7 cb7] 47) := ⟨_, rfl⟩
  have hb : Below wv.heap.size wv wb := by rw [hwb]; exact (Below.refl _ _).alloc (Nat.le_refl _) _
  replace HHD := Lib.hid (HHD.out.below hb)
  replace HBD := Lib.hid (HBD.out.below hb)
  replace HX := Lib.hid ((hb.block _ (Array.getElem?_eq_some_iff.1 HX.out).1).trans HX.out)
  replace HY := Lib.hid ((hb.block _ (Array.getElem?_eq_some_iff.1 HY.out).1).trans HY.out)
  replace HMAT := Lib.hid (HMAT.out.below hb)
  replace HROW := Lib.hid (HROW.out.of_block (hb.block _ HROW.out.lt))
  replace HB := Lib.hid (HB.out.trans (hb.mono HB.out.size))
  clear hb
  rw [← hwb]
  clear hwb
  obtain ⟨y0, y1, _, _⟩ := own_two HY.out
  go_wp2_with fail
  go_at_call 11
  refine (ownto_any HHD.out HBD.out (by have := HH5.out; omega) (by have := HNB.out.len; omega)).mono ?_
  rintro e wt ⟨vh3, vb3, rfl, hoh, hob, hb⟩
  have HOA := Lib.hid (show OwnAt wt vh3 vb3 H B from ⟨hoh.sl HWH.out, hob.sl HNB.out.wf⟩)
  replace HHD := Lib.hid (HHD.out.below hb)
  replace HBD := Lib.hid (HBD.out.below hb)
  replace HX := Lib.hid ((hb.block _ (Array.getElem?_eq_some_iff.1 HX.out).1).trans HX.out)
  replace HY := Lib.hid ((hb.block _ (Array.getElem?_eq_some_iff.1 HY.out).1).trans HY.out)
  replace HMAT := Lib.hid (HMAT.out.below hb)
  replace HROW := Lib.hid (HROW.out.of_block (hb.block _ HROW.out.lt))
  replace HB := Lib.hid (HB.out.trans (hb.mono HB.out.size))
  clear hoh hob hb y0 y1
  go_wp2_with fail
  obtain ⟨wu, hwu⟩ : ∃ wu, wu = wt.alloc (.cells #[.int .i64 (p : Int), .int .u64 U, .int .i64 (-1)] 72) := ⟨_, rfl⟩
  have hb : Below wt.heap.size wt wu := by rw [hwu]; exact (Below.refl _ _).alloc (Nat.le_refl _) _
  have HSL := Lib.hid (show Batch.Sl wu (.slice (some ⟨wt.heap.size, 0, none⟩) 1 1) [⟨(p : Int), U, -1⟩] by
    rw [hwu]; exact ch_new wt (p : Int) U (-1) 72 ⟨by dsimp only; omega, by have := HPM.out; have := HM6.out; dsimp only; omega, HUU.out.1, by have := HUU.out.2; dsimp only; omega, by dsimp only; decide, by dsimp only; decide⟩)
  replace HHD := Lib.hid (HHD.out.below hb)
  replace HBD := Lib.hid (HBD.out.below hb)
  replace HX := Lib.hid ((hb.block _ (Array.getElem?_eq_some_iff.1 HX.out).1).trans HX.out)
  replace HY := Lib.hid ((hb.block _ (Array.getElem?_eq_some_iff.1 HY.out).1).trans HY.out)
  replace HMAT := Lib.hid (HMAT.out.below hb)
  replace HROW := Lib.hid (HROW.out.of_block (hb.block _ HROW.out.lt))
  replace HOA := Lib.hid (HOA.out.below hb)
  replace HB := Lib.hid (HB.out.trans (hb.mono HB.out.size))
  clear hb
  go_at_call 20
  rw [← hwu]
  clear hwu
  refine (update_one (0 < Batch.tot B p U) HOA.out (by have := HH5.out; omega) (by have := HNB.out.len; omega) HPB.out HSL.out HMAT.out HMU.out HM6.out.2 HPM.out HUU.out.2 (.inr rfl) (up_minus HPM.out (HTB.out _ _))).mono ?_
  rintro e wv ⟨a8, na8, ca8, b8, nb8, cb8, ao8, cap8, n8, er8, rfl, hq8, hb⟩
  have HQ8 := Lib.hid hq8
  replace HHD := Lib.hid (HHD.out.below hb)
  replace HBD := Lib.hid (HBD.out.below hb)
  replace HX := Lib.hid ((hb.block _ (Array.getElem?_eq_some_iff.1 HX.out).1).trans HX.out)
  replace HY := Lib.hid ((hb.block _ (Array.getElem?_eq_some_iff.1 HY.out).1).trans HY.out)
  replace HMAT := Lib.hid (HMAT.out.below hb)
  replace HROW := Lib.hid (HROW.out.of_block (hb.block _ HROW.out.lt))
  replace HB := Lib.hid (HB.out.trans (hb.mono HB.out.size))
  clear hb hq8 HOA HSL
  go_upto_region 9 with fail
  obtain ⟨wd, hwd⟩ : ∃ wd, wd = wv.alloc (.cells #[.slice a8 na8 ca8, .slice b8 nb8 cb8] 47) := ⟨_, rfl⟩
  have hb : Below wv.heap.size wv wd := by rw [hwd]; exact (Below.refl _ _).alloc (Nat.le_refl _) _
  replace HHD := Lib.hid (HHD.out.below hb)
  replace HBD := Lib.hid (HBD.out.below hb)
  replace HX := Lib.hid ((hb.block _ (Array.getElem?_eq_some_iff.1 HX.out).1).trans HX.out)
  replace HY := Lib.hid ((hb.block _ (Array.getElem?_eq_some_iff.1 HY.out).1).trans HY.out)
  replace HMAT := Lib.hid (HMAT.out.below hb)
  replace HROW := Lib.hid (HROW.out.of_block (hb.block _ HROW.out.lt))
  replace HB := Lib.hid (HB.out.trans (hb.mono HB.out.size))
  clear hb
  rw [← hwd]
  clear hwd
  go_wp2_with fail
  go_at_call 8
  refine (cltold_any _ (HL.out.below HB.out)).mono ?_
  rintro e wk ⟨rfl, hb⟩
  replace HBD := Lib.hid (HBD.out.below hb)
  replace HX := Lib.hid ((hb.block _ (Array.getElem?_eq_some_iff.1 HX.out).1).trans HX.out)
  replace HY := Lib.hid ((hb.block _ (Array.getElem?_eq_some_iff.1 HY.out).1).trans HY.out)
  replace HROW := Lib.hid (HROW.out.of_block (hb.block _ HROW.out.lt))
  replace HB := Lib.hid (HB.out.trans (hb.mono HB.out.size))
  clear hb HHD HMAT
  have hmm : decide ((m : Int) = (m : Int)) = true := decide_eq_true rfl
  obtain ⟨x0, _⟩ := three_cells HX.out
  obtain ⟨y0, y1, _, _⟩ := own_two HY.out
  go_wp2_with fail
  go_at_call 21
  refine (Batch.refof_any (p : Int) U HBD.out HNB.out.right.2).mono ?_
  rintro e we ⟨rfl, hb⟩
  replace HROW := Lib.hid (HROW.out.of_block (hb.block _ HROW.out.lt))
  replace HB := Lib.hid (HB.out.trans (hb.mono HB.out.size))
  clear hb y0 y1 x0 HBD HX HY
  have hrow := HROW.out.cell HPM.out
  have hp0 : (0 : Int) ≤ (p : Int) := Int.natCast_nonneg _
  have hpm1 : (p : Int) < (m : Int) := by have := HPM.out; omega
  rcases HQ7.out with ⟨hg7, h17, h27⟩ | ⟨hg7, h17, q1, q2, h27⟩
  · rcases HQ8.out with ⟨hg8, h18, h28⟩ | ⟨hg8, h18, r1, r2, h28⟩
    · subst h17 h27 h18 h28
      have d1 : decide (F p ≤ U) = true := decide_eq_true (by omega)
      have d2 : decide (0 < Batch.tot B (p : Int) U) = true := decide_eq_true (by omega)
      go_wp2_with fail
      go_quiet (fail)
      go_wp2_with fail
      go_ret
      exact ⟨by simp_all, below_drewN HB.out _⟩
    · subst h17 h27 h18 h28
      have d1 : decide (F p ≤ U) = true := decide_eq_true (by omega)
      have d2 : decide (0 < Batch.tot B (p : Int) U) = false := decide_eq_false (by omega)
      go_wp2_with fail
      go_quiet (fail)
      go_wp2_with fail
      go_ret
      exact ⟨by simp_all, below_drewN HB.out _⟩
  · rcases HQ8.out with ⟨hg8, h18, h28⟩ | ⟨hg8, h18, r1, r2, h28⟩
    · subst h17 h27 h18 h28
      have d1 : decide (F p ≤ U) = false := decide_eq_false (by omega)
      have d2 : decide (0 < Batch.tot B (p : Int) U) = true := decide_eq_true (by omega)
      go_wp2_with fail
      go_quiet (fail)
      go_wp2_with fail
      go_ret
      exact ⟨by simp_all, below_drewN HB.out _⟩
    · subst h17 h27 h18 h28
      have d1 : decide (F p ≤ U) = false := decide_eq_false (by omega)
      have d2 : decide (0 < Batch.tot B (p : Int) U) = false := decide_eq_false (by omega)
      go_wp2_with fail
      go_quiet (fail)
      go_wp2_with fail
      go_ret
      exact ⟨by simp_all, below_drewN HB.out _⟩
end Go.Proofs.YtlkljeedlkbkgaaGreatDoor.Cl
