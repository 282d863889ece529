
/-
  PACKAGE marchlandlaw06: FrontSinks.
-/
import Derived.Test.YtkcmeklgnbejiaaFrLaw
import Derived.Deep.RegionHeldLaw
namespace Go.Proofs.Ytkcmeklgnbejiaa.Fr
open Go.RowKit Go.Deep Gr
set_option linter.unusedVariables false
set_option linter.unusedSimpArgs false

theorem plusN_assoc {a b c : Int} (ha : 0 ≤ a ∧ a ≤ 18446744073709551615) (hb : 0 ≤ b ∧ b ≤ 18446744073709551615) (hc : 0 ≤ c ∧ c ≤ 18446744073709551615) : plusN (plusN a b) c = plusN a (plusN b c) := by
  unfold plusN
  split <;> split <;> split <;> first | omega | (split <;> omega)
theorem plusN_here {t : Int} (h : 0 ≤ t ∧ t ≤ 18446744073709551615) : plusN t 0 ≤ t := by unfold plusN; split <;> omega
theorem tot_has {l : List Batch.Ch} {p t : Int} (h : Batch.tot l p t ≠ 0) : ∃ x ∈ l, x.p = p ∧ x.t = t := by
  induction l with
  | nil => exact absurd rfl h
  | cons y r ih =>
    by_cases e : y.p = p ∧ y.t = t
    · exact ⟨y, by simp, e⟩
    · have : Batch.tot (y :: r) p t = Batch.tot r p t := by simp only [Batch.tot, if_neg e]; omega
      rw [this] at h
      obtain ⟨x, hx, h1⟩ := ih h
      exact ⟨x, by simp [hx], h1⟩
/-- Whatever is there is there when more comes. -/
theorem more_has {A B : List Batch.Ch} (hA : Batch.Nice A) (hB : Batch.Nice B) (pA : Batch.BagP A) (pB : Batch.BagP B) (h : Batch.applyE A B = 0) {s : Batch.Ch} (hs : s ∈ A) : ∃ x ∈ Batch.applyR A B, x.p = s.p ∧ x.t = s.t := by
  refine tot_has ?_
  rw [Batch.applyR_tot hA.right hB.right hA.wf hB.wf h]
  have h1 := Batch.tot_key hA.right.2 hs rfl rfl
  have h2 := pB.tot0 s.p s.t
  have h3 := pA.pos s hs
  omega
theorem more_ok {A B : List Batch.Ch} (hA : Batch.Nice A) (hB : Batch.Nice B) (pA : Batch.BagP A) (pB : Batch.BagP B) : Batch.applyE A B = 0 := by
  have hn : Batch.anyNeg A B = false := Batch.anyNeg_no fun x hx h => by
    have h1 := pA.tot0 x.p x.t
    have h2 := pB.pos x hx
    omega
  rw [(Batch.apply_not hn).1]
  exact (hA.two hB).1
theorem sinks_more {A C : List Batch.Ch} {M : Nat → Nat → Int} {n p : Nat} {x y : Int} (hm : ∀ s ∈ A, ∃ z ∈ C, z.p = s.p ∧ z.t = s.t) (hx : FrontU A M n p x) (hy : FrontU C M n p y) : y ≤ x := by
  rcases hx.2.2 with e | ⟨s, hs, h0, h1, e⟩
  · have := hy.1; omega
  · obtain ⟨z, hz, e1, e2⟩ := hm s hs
    have := hy.2.1 z hz (by omega) (by omega)
    rw [e1, e2] at this
    omega
theorem sinks_least {A : List Batch.Ch} {M : Nat → Nat → Int} {n i : Nat} {x : Int} (hw : ∀ s ∈ A, s.Wf) (hi : i < n) (h0 : M i i = 0) (hx : FrontU A M n i x) : x ≤ Batch.leastL A i := by
  rcases Batch.leastL_is (l := A) (p := (i : Int)) with e | ⟨s, hs, hp, ht⟩
  · have := hx.1; omega
  · have h := hx.2.1 s hs (by omega) (by omega)
    have e2 : s.p.toNat = i := by omega
    rw [e2, h0] at h
    have := plusN_here ⟨(hw s hs).t0, (hw s hs).t1⟩
    omega
theorem sinks_way {A : List Batch.Ch} {M : Nat → Nat → Int} {n i k : Nat} {E : List Ed} {x y : Int} (hw : ∀ s ∈ A, s.Wf) (hi : i < n) (hk : k < n) (hM : LeastM E true n M) (hx : FrontU A M n i x) (hy : FrontU A M n k y) : y ≤ plusN x (M i k) := by
  have hik := (hM i k hi hk).1.1
  rcases hx.2.2 with e | ⟨s, hs, h0, h1, e⟩
  · rw [e, plusN_never hik.1]; exact hy.1.2
  · have h := hy.2.1 s hs h0 h1
    have hsn : s.p.toNat < n := by omega
    have hsi := (hM s.p.toNat i hsn hi).1.1
    have ht : 0 ≤ s.t ∧ s.t ≤ 18446744073709551615 := ⟨(hw s hs).t0, (hw s hs).t1⟩
    have tri := least_tri (hM s.p.toNat k hsn hk) (hM s.p.toNat i hsn hi) (hM i k hi hk)
    have hb := plusN_le (s := M i k) hsi.2
    rw [e, plusN_assoc ht hsi hik]
    exact Int.le_trans h (plusN_mono (Int.le_refl _) tri ht.2)
set_option maxRecDepth 1000000 in
set_option maxHeartbeats 16000000 in
theorem fsinks_any {w : World} {ve vi vb vc : Value} {E : List Ed} {I : List Int} {B0 C0 : List Batch.Ch} (n : Int) (hg : GMemP w ve vi E I) (hbr : Batch.Rd w vb B0) (hcr : Batch.Rd w vc C0) :
    Calls Try.prog 8 #[.agg #[.int .i64 n, ve, vi], vb, vc] w fun e w' => e = .returned (.bool true) ∧ Below w.heap.size w w' := by
  obtain ⟨⟨ao, cap, rfl, _⟩, ⟨aoi, capi, rfl, _⟩⟩ := And.intro hg.ed hg.inp
  obtain ⟨w0, hw0⟩ : ∃ w0, w0 = w.alloc (.cells #[.int .i64 n, .slice ao E.length cap, .slice aoi I.length capi] 54) := ⟨_, rfl⟩
  have hb0 : Below w.heap.size w w0 := by rw [hw0]; exact (Below.refl _ _).alloc (Nat.le_refl _) _
  have hs0 : w0.heap.size = w.heap.size + 1 := by rw [hw0]; simp
  have hx0 : w0.heap[w.heap.size]? = some (.cells #[.int .i64 n, .slice ao E.length cap, .slice aoi I.length capi] 54 (0, 0)) := by rw [hw0]; exact heap_alloc_new w _
  have HG := Lib.hid (show GMemP w0 (.slice ao E.length cap) (.slice aoi I.length capi) E I from hg.below hb0)
  have HR0 := Lib.hid (hbr.below hb0)
  have HQ0 := Lib.hid (hcr.below hb0)
  have HX0 := Lib.hid hx0
  have HB0 := Lib.hid hb0
  have HS0 := Lib.hid hs0
  clear hg hbr hcr hb0 hs0 hx0
  go_enter Try.func8, Try.ntmps8
  go_wp2_with fail
  go_at_call 27
  rw [← hw0]
  clear hw0
  refine (gfix_any n HG.out).mono ?_
  rintro e w1 ⟨m, ve1, vi1, E1, I1, hm6, hl12, rfl, hgm, hoe, hoi, hok, hb⟩
  obtain ⟨aoE, capE, rfl⟩ := formE hoe
  obtain ⟨aoI, capI, rfl⟩ := hoi.form
  have HM6 := Lib.hid (show 1 ≤ m ∧ m ≤ 64 from ⟨hok.n0, hok.n1⟩)
  have HL12 := Lib.hid (show E1.length ≤ 12 ∧ I1.length ≤ 8 from ⟨hl12, inlenF hok⟩)
  have HOK := Lib.hid hok
  have HOE := Lib.hid hoe
  have HOI := Lib.hid hoi
  have HWE := Lib.hid (And.intro hgm.ed.wf hgm.inp.wf)
  have HB1 := Lib.hid hb
  clear hm6 hl12 hgm hoe hoi hok hb HG
  go_wp2_with fail
  go_at_call 10
  refine (Batch.bagfix_any (HR0.out.below (HB1.out.mono (Nat.le_refl _)))).mono ?_
  rintro e w1b ⟨vb1, rfl, hob, hb⟩
  have hwB := Batch.bagFix_nice HR0.out.wf
  have hPB := Batch.bagFix_bag HR0.out.wf
  generalize Batch.bagFixL B0 = B at hob hwB hPB
  obtain ⟨ab, cb, hvb⟩ : ∃ ab cb, vb1 = .slice ab B.length cb := by
    rcases hob.form with ⟨h, h2⟩ | ⟨g, cap, hv, _⟩
    · exact ⟨none, 0, by rw [h2, h]; rfl⟩
    · exact ⟨_, _, hv⟩
  subst hvb
  have HOB := Lib.hid hob
  have HBW := Lib.hid (show ∀ x ∈ B, x.Wf from hwB.wf)
  have HNB := Lib.hid hwB
  have HPB := Lib.hid hPB
  have HBL := Lib.hid (show B.length ≤ 100000 by have := hwB.len; omega)
  have hs1 := HB1.out.size
  rw [HS0.out] at hs1
  have HBb := Lib.hid hb
  replace HOE := Lib.hid (HOE.out.below hb)
  replace HOI := Lib.hid (HOI.out.below hb)
  clear hob hwB hPB hb
  go_wp2_with fail
  go_at_call 10
  refine (Batch.bagfix_any ((HQ0.out.below HB1.out).below HBb.out)).mono ?_
  rintro e w1c ⟨vc1, rfl, hoc, hb⟩
  have hwC := Batch.bagFix_nice HQ0.out.wf
  have hPC := Batch.bagFix_bag HQ0.out.wf
  generalize Batch.bagFixL C0 = C at hoc hwC hPC
  obtain ⟨ac, cc, hvc⟩ : ∃ ac cc, vc1 = .slice ac C.length cc := by
    rcases hoc.form with ⟨h, h2⟩ | ⟨g, cap, hv, _⟩
    · exact ⟨none, 0, by rw [h2, h]; rfl⟩
    · exact ⟨_, _, hv⟩
  subst hvc
  have HOC := Lib.hid hoc
  have HNC := Lib.hid hwC
  have HPC := Lib.hid hPC
  have HCL := Lib.hid (show C.length ≤ 100000 by have := hwC.len; omega)
  have hs2 := HBb.out.size
  have hb2 : Below (w.heap.size + 1) w0 w1c := ((HB1.out.mono (by rw [HS0.out]; exact Nat.le_refl _)).trans (HBb.out.mono hs1)).trans (hb.mono (Nat.le_trans hs1 hs2))
  replace HOB := Lib.hid (HOB.out.below hb)
  replace HOE := Lib.hid (HOE.out.below hb)
  replace HOI := Lib.hid (HOI.out.below hb)
  have hx1 := (hb2.block _ (Nat.lt_succ_self _)).trans HX0.out
  obtain ⟨y0, y1, y2, yf⟩ := three_cells hx1
  have yf0 := yf 0
  have yf1 := yf 1
  have yf2 := yf 2
  have hr1 := heap_setCell_same w1c w.heap.size 0 _ _ (.int .i64 (m : Int)) hx1
  have hr2 := heap_setCell_same _ w.heap.size 1 _ _ (.slice aoE E1.length capE) hr1
  have hr3 := heap_setCell_same _ w.heap.size 2 _ _ (.slice aoI I1.length capI) hr2
  have hbe := World.ownsRow.lt HOE.out
  have hbi := World.ownsRow.lt HOI.out
  have hbb := World.ownsRow.lt HOB.out
  have hbc := World.ownsRow.lt hoc
  rw [HS0.out] at hbe hbi
  obtain ⟨w2, hw2⟩ : ∃ w2, w2 = ((w1c.setCell ⟨w.heap.size, 0, none⟩ (.int .i64 (m : Int))).setCell ⟨w.heap.size, 1, none⟩ (.slice aoE E1.length capE)).setCell ⟨w.heap.size, 2, none⟩ (.slice aoI I1.length capI) := ⟨_, rfl⟩
  have hoe2 : Own w2 (w0.heap.size + 3) 83 (.slice aoE E1.length capE) E1 := by
    rw [hw2]
    exact ownsRow_setCell_other (ownsRow_setCell_other (ownsRow_setCell_other HOE.out (fun e => by have h := (hbe _ e).1; dsimp only at h; omega) _) (fun e => by have h := (hbe _ e).1; dsimp only at h; omega) _) (fun e => by have h := (hbe _ e).1; dsimp only at h; omega) _
  have hoi2 : OwnI w2 (w0.heap.size + 3) 3 (.slice aoI I1.length capI) I1 := by
    rw [hw2]
    exact ownsRow_setCell_other (ownsRow_setCell_other (ownsRow_setCell_other HOI.out (fun e => by have h := (hbi _ e).1; dsimp only at h; omega) _) (fun e => by have h := (hbi _ e).1; dsimp only at h; omega) _) (fun e => by have h := (hbi _ e).1; dsimp only at h; omega) _
  have hob2 : Batch.Own w2 w1.heap.size 49 (.slice ab B.length cb) B := by
    rw [hw2]
    exact ownsRow_setCell_other (ownsRow_setCell_other (ownsRow_setCell_other HOB.out (fun e => by have h := (hbb _ e).1; dsimp only at h; omega) _) (fun e => by have h := (hbb _ e).1; dsimp only at h; omega) _) (fun e => by have h := (hbb _ e).1; dsimp only at h; omega) _
  have hoc2 : Batch.Own w2 w1b.heap.size 49 (.slice ac C.length cc) C := by
    rw [hw2]
    exact ownsRow_setCell_other (ownsRow_setCell_other (ownsRow_setCell_other hoc (fun e => by have h := (hbc _ e).1; dsimp only at h; omega) _) (fun e => by have h := (hbc _ e).1; dsimp only at h; omega) _) (fun e => by have h := (hbc _ e).1; dsimp only at h; omega) _
  have HGE := Lib.hid (show GMemP w2 (.slice aoE E1.length capE) (.slice aoI I1.length capI) E1 I1 from ⟨hoe2.rd HWE.out.1, hoi2.rd HWE.out.2⟩)
  have HBD := Lib.hid (show Batch.Rd w2 (.slice ab B.length cb) B from hob2.rd HBW.out)
  have HCD := Lib.hid (show Batch.Rd w2 (.slice ac C.length cc) C from hoc2.rd HNC.out.wf)
  have HB := Lib.hid (show Below w.heap.size w w2 by rw [hw2]; exact (((HB0.out.trans (hb2.mono (Nat.le_succ _))).setCell (Nat.le_refl _) _).setCell (Nat.le_refl _) _).setCell (Nat.le_refl _) _)
  have HX := Lib.hid (show w2.heap[w.heap.size]? = some (.cells #[.int .i64 (m : Int), .slice aoE E1.length capE, .slice aoI I1.length capI] 54 (0, 0)) by rw [hw2]; simpa using hr3)
  clear hoc hwC hPC hb hs1 hs2 hb2 hx1 yf hr1 hr2 hr3 hbe hbi hbb hbc hoe2 hoi2 hob2 hoc2 HX0 HS0 HB0 HR0 HQ0 HB1 HBb HOE HOI HOB HOC
  go_upto_region 2 with fail
  rw [← hw2]
  clear hw2 y0 y1 y2 yf0 yf1 yf2
  obtain ⟨x0, x1, x2, _⟩ := three_cells HX.out
  go_wp2_with fail
  go_at_call 29
  refine (gto_any (m : Int) HGE.out (by have := HL12.out; omega) (by have := HL12.out; omega)).mono ?_
  rintro e w3 ⟨ve3, vi3, rfl, hg3, hb⟩
  have HG3 := Lib.hid hg3
  replace HGE := Lib.hid (HGE.out.below hb)
  replace HBD := Lib.hid (HBD.out.below hb)
  replace HCD := Lib.hid (HCD.out.below hb)
  replace HX := Lib.hid ((hb.block _ (Array.getElem?_eq_some_iff.1 HX.out).1).trans HX.out)
  replace HB := Lib.hid (HB.out.trans (hb.mono HB.out.size))
  clear hg3 hb x0 x1 x2
  go_wp2_with fail
  go_at_call 28
  refine (paths_any HG3.out.ed HG3.out.inp HOK.out).mono ?_
  rintro e w5 ⟨v5, M, rfl, hmat, hls, hb⟩
  obtain ⟨gp, rp, rfl, hmf⟩ := hmat
  have HMAT := Lib.hid (show Mat w5 w3.heap.size (.slice (some ⟨gp, 0, none⟩) m m) m M from ⟨gp, rp, rfl, hmf⟩)
  have HLS := Lib.hid hls
  replace HGE := Lib.hid (HGE.out.below hb)
  replace HBD := Lib.hid (HBD.out.below hb)
  replace HCD := Lib.hid (HCD.out.below hb)
  replace HX := Lib.hid ((hb.block _ (Array.getElem?_eq_some_iff.1 HX.out).1).trans HX.out)
  replace HB := Lib.hid (HB.out.trans (hb.mono HB.out.size))
  have hmf' := hmf
  clear hmf hls hb HG3
  have HMF := Lib.hid (show MatF w5 w3.heap.size gp rp m M from hmf')
  have HOKE := Lib.hid (more_ok HNB.out HNC.out HPB.out HPC.out)
  clear hmf' HGE HMAT
  go_wp2_with fail
  go_at_call 12
  refine (Batch.to_any HBD.out HBL.out).mono ?_
  rintro e w6 ⟨va, rfl, hoa, hb⟩
  have HTA := Lib.hid (hoa.sl HNB.out.wf)
  replace HBD := Lib.hid (HBD.out.below hb)
  replace HCD := Lib.hid (HCD.out.below hb)
  replace HMF := Lib.hid (HMF.out.below hb)
  replace HX := Lib.hid ((hb.block _ (Array.getElem?_eq_some_iff.1 HX.out).1).trans HX.out)
  replace HB := Lib.hid (HB.out.trans (hb.mono HB.out.size))
  clear hoa hb
  go_wp2_with fail
  go_at_call 12
  refine (Batch.to_any HCD.out HCL.out).mono ?_
  rintro e w7 ⟨vd, rfl, hod, hb⟩
  have HTD := Lib.hid (hod.sl HNC.out.wf)
  replace HTA := Lib.hid (HTA.out.below hb)
  replace HBD := Lib.hid (HBD.out.below hb)
  replace HCD := Lib.hid (HCD.out.below hb)
  replace HMF := Lib.hid (HMF.out.below hb)
  replace HX := Lib.hid ((hb.block _ (Array.getElem?_eq_some_iff.1 HX.out).1).trans HX.out)
  replace HB := Lib.hid (HB.out.trans (hb.mono HB.out.size))
  clear hod hb
  go_wp2_with fail
  go_at_call 13
  refine (Batch.apply_any HTA.out HTD.out HNB.out.right HNC.out.right (by have := HNB.out.len; have := HNC.out.len; omega)).mono ?_
  rintro e w8 ⟨vm, rfl, hom, hb⟩
  rw [HOKE.out]
  have HRM := Lib.hid (Batch.applyR_right HNB.out.right HNC.out.right HNB.out.wf HNC.out.wf)
  have HLM := Lib.hid (show (Batch.applyR B C).length ≤ 100000 by have := Batch.applyR_length B C; have := HNB.out.len; have := HNC.out.len; omega)
  have HTM := Lib.hid (hom.sl (Batch.applyR_wf HNB.out.wf HNC.out.wf))
  have HMORE := Lib.hid (fun (s : Batch.Ch) (hs : s ∈ B) => more_has HNB.out HNC.out HPB.out HPC.out HOKE.out hs)
  generalize Batch.applyR B C = D at hom HRM HLM HTM HMORE
  replace HBD := Lib.hid (HBD.out.below hb)
  replace HCD := Lib.hid (HCD.out.below hb)
  replace HMF := Lib.hid (HMF.out.below hb)
  replace HX := Lib.hid ((hb.block _ (Array.getElem?_eq_some_iff.1 HX.out).1).trans HX.out)
  replace HB := Lib.hid (HB.out.trans (hb.mono HB.out.size))
  clear hom hb HTA HTD HCD
  go_wp2_with fail
  go_at_call 12
  refine (Batch.to_any HBD.out HBL.out).mono ?_
  rintro e w9 ⟨va2, rfl, hoa, hb⟩
  have HTA := Lib.hid (hoa.sl HNB.out.wf)
  replace HTM := Lib.hid (HTM.out.below hb)
  replace HBD := Lib.hid (HBD.out.below hb)
  replace HMF := Lib.hid (HMF.out.below hb)
  replace HX := Lib.hid ((hb.block _ (Array.getElem?_eq_some_iff.1 HX.out).1).trans HX.out)
  replace HB := Lib.hid (HB.out.trans (hb.mono HB.out.size))
  clear hoa hb
  go_wp2_with fail
  go_at_call 32
  refine (of_any ⟨gp, rp, rfl, HMF.out⟩ (m_bd HLS.out) HTA.out HNB.out.right.2 HBL.out HM6.out.1 HM6.out.2).mono ?_
  rintro e w10 ⟨gx, FX, rfl, _, hrow, hfx, hb⟩
  have HRX := Lib.hid hrow
  have HFX := Lib.hid hfx
  replace HTM := Lib.hid (HTM.out.below hb)
  replace HBD := Lib.hid (HBD.out.below hb)
  replace HMF := Lib.hid (HMF.out.below hb)
  replace HX := Lib.hid ((hb.block _ (Array.getElem?_eq_some_iff.1 HX.out).1).trans HX.out)
  replace HB := Lib.hid (HB.out.trans (hb.mono HB.out.size))
  clear hrow hfx hb HTA
  go_wp2_with fail
  go_at_call 32
  refine (of_any ⟨gp, rp, rfl, HMF.out⟩ (m_bd HLS.out) HTM.out HRM.out.2 HLM.out HM6.out.1 HM6.out.2).mono ?_
  rintro e w11 ⟨gy, FY, rfl, _, hrow, hfy, hb⟩
  have HRY := Lib.hid hrow
  have HFY := Lib.hid hfy
  replace HRX := Lib.hid (HRX.out.of_block (hb.block _ HRX.out.lt))
  replace HBD := Lib.hid (HBD.out.below hb)
  replace HMF := Lib.hid (HMF.out.below hb)
  replace HX := Lib.hid ((hb.block _ (Array.getElem?_eq_some_iff.1 HX.out).1).trans HX.out)
  replace HB := Lib.hid (HB.out.trans (hb.mono HB.out.size))
  clear hrow hfy hb HTM
  go_wp2_with fail
  go_at_call 30
  refine (frtold_any _).mono ?_
  rintro e w12 ⟨rfl, hb⟩
  replace HRX := Lib.hid (HRX.out.of_block (hb.block _ HRX.out.lt))
  replace HRY := Lib.hid (HRY.out.of_block (hb.block _ HRY.out.lt))
  replace HBD := Lib.hid (HBD.out.below hb)
  replace HMF := Lib.hid (HMF.out.below hb)
  replace HX := Lib.hid ((hb.block _ (Array.getElem?_eq_some_iff.1 HX.out).1).trans HX.out)
  replace HB := Lib.hid (HB.out.trans (hb.mono HB.out.size))
  clear hb
  obtain ⟨x0, x1, x2, _⟩ := three_cells HX.out
  have hm64 : (m : Int) ≤ 64 := by have := HM6.out; omega
  have hm1 : (1 : Int) ≤ (m : Int) := by have := HM6.out; omega
  go_wp2_with fail
  have HRA := Lib.hid (fun (W : World) (h : Below w12.heap.size w12 W) => HBD.out.below h)
  have HNA := HNB
  have HAL := HBL
  clear x0 x1 x2
  go_loopg [12] m (fun k t wr => ∃ i : Nat, i + k = m ∧ t = .int .i64 (i : Int) ∧ Below w12.heap.size w12 wr)
  case atStart => exact ⟨0, by omega, rfl, Below.refl _ _⟩
  case round =>
    obtain ⟨i, him, rfl, hbw⟩ := hrel
    have HIM := Lib.hid him
    have HBW := Lib.hid hbw
    have hblk := (hbw.block _ (Array.getElem?_eq_some_iff.1 HX.out).1).trans HX.out
    obtain ⟨x0, x1, x2, _⟩ := three_cells hblk
    clear him hbw hblk
    by_cases hi : i < m
    · have hi0 : (0 : Int) ≤ (i : Int) := Int.natCast_nonneg _
      have hi1 : (i : Int) < (m : Int) := by omega
      have HI := Lib.hid hi
      have hyx := sinks_more HMORE.out (HFX.out i hi) (HFY.out i hi)
      have hxl := sinks_least HNB.out.wf hi ((HLS.out i i hi hi).one (least_here HOK.out.fits (i : Int))) (HFX.out i hi)
      have y0 := (HRY.out.of_block (HBW.out.block _ HRY.out.lt)).cell hi
      have z0 := (HRX.out.of_block (HBW.out.block _ HRX.out.lt)).cell hi
      have p0 := (HMF.out.below HBW.out).top.cell hi
      obtain ⟨yi, hyi⟩ : ∃ z, z = FY i := ⟨_, rfl⟩
      obtain ⟨xi, hxi⟩ : ∃ z, z = FX i := ⟨_, rfl⟩
      obtain ⟨lb, hlb⟩ : ∃ z, z = Batch.leastL B i := ⟨_, rfl⟩
      rw [← hyi] at y0 hyx
      rw [← hxi] at z0 hyx hxl
      rw [← hlb] at hxl
      have HXI := Lib.hid hxi
      have HLB := Lib.hid hlb
      have hy1 : ¬ (xi < yi) := by omega
      have hx1' : ¬ (lb < xi) := by omega
      have hd1 : decide (xi < yi) = false := decide_eq_false hy1
      have hd2 : decide (lb < xi) = false := decide_eq_false hx1'
      have HSS := Lib.hid (show ∀ W, Below wr.heap.size wr W → (W.cell? ⟨w.heap.size, 0, none⟩ = some (.int .i64 (m : Int)) ∧ W.cell? ⟨gy, i, none⟩ = some (.int .u64 yi) ∧ W.cell? ⟨gx, i, none⟩ = some (.int .u64 xi) ∧ W.cell? ⟨gp, i, none⟩ = some (.slice (some ⟨rp i, 0, none⟩) m m)) from fun W h =>
        ⟨(h.cell (p := ⟨w.heap.size, 0, none⟩) (Lib.lt_of_cell x0)).trans x0, (h.cell (p := ⟨gy, i, none⟩) (Lib.lt_of_cell y0)).trans y0, (h.cell (p := ⟨gx, i, none⟩) (Lib.lt_of_cell z0)).trans z0, (h.cell (p := ⟨gp, i, none⟩) (Lib.lt_of_cell p0)).trans p0⟩)
      clear hi hyi hxi hlb
      go_wp2_with fail
      refine wp_region_held_drew (S := (fun w' => w'.cell? ⟨w.heap.size, 0, none⟩ = some (.int .i64 (m : Int)) ∧ w'.cell? ⟨gy, i, none⟩ = some (.int .u64 yi) ∧ w'.cell? ⟨gx, i, none⟩ = some (.int .u64 xi) ∧ w'.cell? ⟨gp, i, none⟩ = some (.slice (some ⟨rp i, 0, none⟩) m m))) (by kernel_rfl) ?_ (fun hHeld => ?_)
      · exact HSS.out _ ((Below.refl _ _).drew)
      have HK := Lib.hid ((Below.refl wr.heap.size wr).drew)
      refine wpAnyH_take (i := 0) (v := ?_) rfl (by kernel_rfl) (by kernel_rfl) (by kernel_rfl) (fun _ _ _ h => h) (Or.inl ⟨by rfl, ?_⟩) (by assumption) ?_
      rotate_left 1
      · (intro w hSw; (try dsimp only at hSw); first | (go_simp; done) | (go_simp; with_reducible rfl))
      try simp only [Act.put, List.setIfInBounds_toArray, List.set_cons_zero, List.set_cons_succ, List.getElem_toArray, List.getElem_cons_zero]
      refine wpAnyH_take (i := 1) (v := ?_) rfl (by kernel_rfl) (by kernel_rfl) (by kernel_rfl) (fun _ _ _ h => h) (Or.inl ⟨by rfl, ?_⟩) (by assumption) ?_
      rotate_left 1
      · (intro w hSw; (try dsimp only at hSw); first | (go_simp; done) | (go_simp; with_reducible rfl))
      try simp only [Act.put, List.setIfInBounds_toArray, List.set_cons_zero, List.set_cons_succ, List.getElem_toArray, List.getElem_cons_zero, List.getElem_cons_succ]
      refine wpAnyH_take (i := 2) (v := ?_) rfl (by kernel_rfl) (by kernel_rfl) (by kernel_rfl) (fun _ _ _ h => h) (Or.inl ⟨by rfl, ?_⟩) (by assumption) ?_
      rotate_left 1
      · (intro w hSw; (try dsimp only at hSw); first | (go_simp; done) | (go_simp; with_reducible rfl))
      try simp only [Act.put, List.setIfInBounds_toArray, List.set_cons_zero, List.set_cons_succ, List.getElem_toArray, List.getElem_cons_zero, List.getElem_cons_succ]
      refine wpAnyH_take (i := 3) (v := ?_) rfl (by kernel_rfl) (by kernel_rfl) (by kernel_rfl) (fun _ _ _ h => h) (Or.inl ⟨by rfl, ?_⟩) (by assumption) ?_
      rotate_left 1
      · (intro w hSw; (try dsimp only at hSw); first | (go_simp; done) | (go_simp; with_reducible rfl))
      try simp only [Act.put, List.setIfInBounds_toArray, List.set_cons_zero, List.set_cons_succ, List.getElem_toArray, List.getElem_cons_zero, List.getElem_cons_succ]
      refine wpAnyH_take (i := 4) (v := ?_) rfl (by kernel_rfl) (by kernel_rfl) (by kernel_rfl) (fun _ _ _ h => h) (Or.inl ⟨by rfl, ?_⟩) (by assumption) ?_
      rotate_left 1
      · (intro w hSw; (try dsimp only at hSw); first | (go_simp; done) | (go_simp; with_reducible rfl))
      try simp only [Act.put, List.setIfInBounds_toArray, List.set_cons_zero, List.set_cons_succ, List.getElem_toArray, List.getElem_cons_zero, List.getElem_cons_succ]
      refine wpAnyH_take (i := 5) (v := ?_) rfl (by kernel_rfl) (by kernel_rfl) (by kernel_rfl) (fun _ _ _ h => h) (Or.inl ⟨by rfl, ?_⟩) (by assumption) ?_
      rotate_left 1
      · (intro w hSw; (try dsimp only at hSw); first | (go_simp; done) | (go_simp; with_reducible rfl))
      try simp only [Act.put, List.setIfInBounds_toArray, List.set_cons_zero, List.set_cons_succ, List.getElem_toArray, List.getElem_cons_zero, List.getElem_cons_succ]
      refine wpAnyH_take (i := 6) (v := ?_) rfl (by kernel_rfl) (by kernel_rfl) (by kernel_rfl) (fun _ _ _ h => h) (Or.inl ⟨by rfl, ?_⟩) (by assumption) ?_
      rotate_left 1
      · (intro w hSw; (try dsimp only at hSw); first | (go_simp; done) | (go_simp; with_reducible rfl))
      try simp only [Act.put, List.setIfInBounds_toArray, List.set_cons_zero, List.set_cons_succ, List.getElem_toArray, List.getElem_cons_zero, List.getElem_cons_succ]
      refine wpAnyH_take (i := 7) (v := ?_) rfl (by kernel_rfl) (by kernel_rfl) (by kernel_rfl) (fun _ _ _ h => h) (Or.inl ⟨by rfl, ?_⟩) (by assumption) ?_
      rotate_left 1
      · (intro w hSw; (try dsimp only at hSw); first | (go_simp; done) | (go_simp; with_reducible rfl))
      try simp only [Act.put, List.setIfInBounds_toArray, List.set_cons_zero, List.set_cons_succ, List.getElem_toArray, List.getElem_cons_zero, List.getElem_cons_succ]
      refine wpAnyH_take (i := 8) (v := ?_) rfl (by kernel_rfl) (by kernel_rfl) (by kernel_rfl) (fun _ _ _ h => h) (Or.inl ⟨by rfl, ?_⟩) (by assumption) ?_
      rotate_left 1
      · (intro w hSw; (try dsimp only at hSw); first | (go_simp; done) | (go_simp; with_reducible rfl))
      try simp only [Act.put, List.setIfInBounds_toArray, List.set_cons_zero, List.set_cons_succ, List.getElem_toArray, List.getElem_cons_zero, List.getElem_cons_succ]
      refine wpAnyH_take (i := 9) (v := ?_) rfl (by kernel_rfl) (by kernel_rfl) (by kernel_rfl) (fun _ _ _ h => h) (Or.inl ⟨by rfl, ?_⟩) (by assumption) ?_
      rotate_left 1
      · (intro w hSw; (try dsimp only at hSw); first | (go_simp; done) | (go_simp; with_reducible rfl))
      try simp only [Act.put, List.setIfInBounds_toArray, List.set_cons_zero, List.set_cons_succ, List.getElem_toArray, List.getElem_cons_zero, List.getElem_cons_succ]
      refine wpAnyH_take (i := 10) (v := ?_) rfl (by kernel_rfl) (by kernel_rfl) (by kernel_rfl) (fun _ _ _ h => h) (Or.inl ⟨by rfl, ?_⟩) (by assumption) ?_
      rotate_left 1
      · (intro w hSw; (try dsimp only at hSw); first | (go_simp; done) | (go_simp; with_reducible rfl))
      try simp only [Act.put, List.setIfInBounds_toArray, List.set_cons_zero, List.set_cons_succ, List.getElem_toArray, List.getElem_cons_zero, List.getElem_cons_succ]
      refine wpAnyH_take (i := 11) (v := ?_) rfl (by kernel_rfl) (by kernel_rfl) (by kernel_rfl) (fun _ _ _ h => h) (Or.inl ⟨by rfl, ?_⟩) (by assumption) ?_
      rotate_left 1
      · (intro w hSw; (try dsimp only at hSw); first | (go_simp; done) | (go_simp; with_reducible rfl))
      try simp only [Act.put, List.setIfInBounds_toArray, List.set_cons_zero, List.set_cons_succ, List.getElem_toArray, List.getElem_cons_zero, List.getElem_cons_succ]
      refine wpAnyH_take (i := 12) (v := ?_) rfl (by kernel_rfl) (by kernel_rfl) (by kernel_rfl) (fun _ _ _ h => h) (Or.inl ⟨by rfl, ?_⟩) (by assumption) ?_
      rotate_left 1
      · (intro w hSw; (try dsimp only at hSw); first | (go_simp; done) | (go_simp; with_reducible rfl))
      try simp only [Act.put, List.setIfInBounds_toArray, List.set_cons_zero, List.set_cons_succ, List.getElem_toArray, List.getElem_cons_zero, List.getElem_cons_succ]
      refine wpAnyH_take (i := 13) (v := ?_) rfl (by kernel_rfl) (by kernel_rfl) (by kernel_rfl) (fun _ _ _ h => h) (Or.inl ⟨by rfl, ?_⟩) (by assumption) ?_
      rotate_left 1
      · (intro w hSw; (try dsimp only at hSw); first | (go_simp; done) | (go_simp; with_reducible rfl))
      try simp only [Act.put, List.setIfInBounds_toArray, List.set_cons_zero, List.set_cons_succ, List.getElem_toArray, List.getElem_cons_zero, List.getElem_cons_succ]
      refine wpAnyH_take (i := 14) (v := ?_) rfl (by kernel_rfl) (by kernel_rfl) (by kernel_rfl) (fun _ _ _ h => h) (Or.inl ⟨by rfl, ?_⟩) (by assumption) ?_
      rotate_left 1
      · (intro w hSw; (try dsimp only at hSw); first | (go_simp; done) | (go_simp; with_reducible rfl))
      try simp only [Act.put, List.setIfInBounds_toArray, List.set_cons_zero, List.set_cons_succ, List.getElem_toArray, List.getElem_cons_zero, List.getElem_cons_succ]
      refine wpAnyH_take (i := 16) (v := ?_) rfl (by kernel_rfl) (by kernel_rfl) (by kernel_rfl) (fun _ _ _ h => h) (Or.inl ⟨by rfl, ?_⟩) (by assumption) ?_
      rotate_left 1
      · (intro w hSw; (try dsimp only at hSw); first | (go_simp; done) | (go_simp; with_reducible rfl))
      try simp only [Act.put, List.setIfInBounds_toArray, List.set_cons_zero, List.set_cons_succ, List.getElem_toArray, List.getElem_cons_zero, List.getElem_cons_succ]
      refine wpAnyH_ready (rs := [15]) (by kernel_rfl) (by simp) ?_
      refine AllReadyH.cons rfl (fun K hK => ?_) AllReadyH.nil
      go_simp
      go_at_call 12
      refine (Batch.to_any (HRA.out _ (HBW.out.trans (HK.out.mono HBW.out.size))) HAL.out).mono ?_
      rintro e wk ⟨vt, rfl, hot, hcb⟩
      have HT := Lib.hid (hot.sl HNA.out.wf)
      clear hot
      replace HK := Lib.hid (HK.out.trans (hcb.mono HK.out.size))
      clear hcb
      try go_wp2_with fail
      refine hK.out _ _ ?_ (fun hHeld => ?_)
      · exact HSS.out _ HK.out
      clear hK K
      try simp only [Act.put, List.setIfInBounds_toArray, List.set_cons_zero, List.set_cons_succ, List.getElem_toArray, List.getElem_cons_zero, List.getElem_cons_succ]
      refine wpAnyH_ready (rs := [17]) (by kernel_rfl) (by simp) ?_
      refine AllReadyH.cons rfl (fun K hK => ?_) AllReadyH.nil
      go_simp
      go_at_call 18
      refine (Batch.least_any (i : Int) HT.out HNA.out.right.2 HAL.out).mono ?_
      rintro e wk ⟨rfl, hcb⟩
      rw [← HLB.out]
      replace HK := Lib.hid (HK.out.trans (hcb.mono HK.out.size))
      clear hcb
      try go_wp2_with fail
      refine hK.out _ _ ?_ (fun hHeld => ?_)
      · exact HSS.out _ HK.out
      clear hK K
      try simp only [Act.put, List.setIfInBounds_toArray, List.set_cons_zero, List.set_cons_succ, List.getElem_toArray, List.getElem_cons_zero, List.getElem_cons_succ]
      refine wpAnyH_take (i := 18) (v := ?_) rfl (by kernel_rfl) (by kernel_rfl) (by kernel_rfl) (fun _ _ _ h => h) (Or.inl ⟨by rfl, ?_⟩) (by assumption) ?_
      rotate_left 1
      · (intro w hSw; (try dsimp only at hSw); first | (go_simp; done) | (go_simp; with_reducible rfl))
      try simp only [Act.put, List.setIfInBounds_toArray, List.set_cons_zero, List.set_cons_succ, List.getElem_toArray, List.getElem_cons_zero, List.getElem_cons_succ]
      refine wpAnyH_take (i := 19) (v := ?_) rfl (by kernel_rfl) (by kernel_rfl) (by kernel_rfl) (fun _ _ _ h => h) (Or.inl ⟨by rfl, ?_⟩) (by assumption) ?_
      rotate_left 1
      · (intro w hSw; (try dsimp only at hSw); first | (go_simp; done) | (go_simp; with_reducible rfl))
      try simp only [Act.put, List.setIfInBounds_toArray, List.set_cons_zero, List.set_cons_succ, List.getElem_toArray, List.getElem_cons_zero, List.getElem_cons_succ]
      refine wpAnyH_take (i := 20) (v := ?_) rfl (by kernel_rfl) (by kernel_rfl) (by kernel_rfl) (fun _ _ _ h => h) (Or.inl ⟨by rfl, ?_⟩) (by assumption) ?_
      rotate_left 1
      · (intro w hSw; (try dsimp only at hSw); first | (go_simp; done) | (go_simp; with_reducible rfl))
      try simp only [Act.put, List.setIfInBounds_toArray, List.set_cons_zero, List.set_cons_succ, List.getElem_toArray, List.getElem_cons_zero, List.getElem_cons_succ]
      refine wpAnyH_take (i := 21) (v := ?_) rfl (by kernel_rfl) (by kernel_rfl) (by kernel_rfl) (fun _ _ _ h => h) (Or.inl ⟨by rfl, ?_⟩) (by assumption) ?_
      rotate_left 1
      · (intro w hSw; (try dsimp only at hSw); first | (go_simp; done) | (go_simp; with_reducible rfl))
      try simp only [Act.put, List.setIfInBounds_toArray, List.set_cons_zero, List.set_cons_succ, List.getElem_toArray, List.getElem_cons_zero, List.getElem_cons_succ]
      refine wpAnyH_take (i := 22) (v := ?_) rfl (by kernel_rfl) (by kernel_rfl) (by kernel_rfl) (fun _ _ _ h => h) (Or.inl ⟨by rfl, ?_⟩) (by assumption) ?_
      rotate_left 1
      · (intro w hSw; (try dsimp only at hSw); first | (go_simp; done) | (go_simp; with_reducible rfl))
      try simp only [Act.put, List.setIfInBounds_toArray, List.set_cons_zero, List.set_cons_succ, List.getElem_toArray, List.getElem_cons_zero, List.getElem_cons_succ]
      refine wpAnyH_take (i := 23) (v := ?_) rfl (by kernel_rfl) (by kernel_rfl) (by kernel_rfl) (fun _ _ _ h => h) (Or.inl ⟨by rfl, ?_⟩) (by assumption) ?_
      rotate_left 1
      · (intro w hSw; (try dsimp only at hSw); first | (go_simp; done) | (go_simp; with_reducible rfl))
      try simp only [Act.put, List.setIfInBounds_toArray, List.set_cons_zero, List.set_cons_succ, List.getElem_toArray, List.getElem_cons_zero, List.getElem_cons_succ]
      refine wpAnyH_take (i := 24) (v := ?_) rfl (by kernel_rfl) (by kernel_rfl) (by kernel_rfl) (fun _ _ _ h => h) (Or.inl ⟨by rfl, ?_⟩) (by assumption) ?_
      rotate_left 1
      · (intro w hSw; (try dsimp only at hSw); first | (go_simp; done) | (go_simp; with_reducible rfl))
      try simp only [Act.put, List.setIfInBounds_toArray, List.set_cons_zero, List.set_cons_succ, List.getElem_toArray, List.getElem_cons_zero, List.getElem_cons_succ]
      refine wpAnyH_take (i := 25) (v := ?_) rfl (by kernel_rfl) (by kernel_rfl) (by kernel_rfl) (fun _ _ _ h => h) (Or.inl ⟨by rfl, ?_⟩) (by assumption) ?_
      rotate_left 1
      · (intro w hSw; (try dsimp only at hSw); first | (go_simp; done) | (go_simp; with_reducible rfl))
      try simp only [Act.put, List.setIfInBounds_toArray, List.set_cons_zero, List.set_cons_succ, List.getElem_toArray, List.getElem_cons_zero, List.getElem_cons_succ]
      refine wpAnyH_take (i := 26) (v := ?_) rfl (by kernel_rfl) (by kernel_rfl) (by kernel_rfl) (fun _ _ _ h => h) (Or.inl ⟨by rfl, ?_⟩) (by assumption) ?_
      rotate_left 1
      · (intro w hSw; (try dsimp only at hSw); first | (go_simp; done) | (go_simp; with_reducible rfl))
      try simp only [Act.put, List.setIfInBounds_toArray, List.set_cons_zero, List.set_cons_succ, List.getElem_toArray, List.getElem_cons_zero, List.getElem_cons_succ]
      refine wpAnyH_take (i := 27) (v := ?_) rfl (by kernel_rfl) (by kernel_rfl) (by kernel_rfl) (fun _ _ _ h => h) (Or.inl ⟨by rfl, ?_⟩) (by assumption) ?_
      rotate_left 1
      · (intro w hSw; (try dsimp only at hSw); first | (go_simp; done) | (go_simp; with_reducible rfl))
      try simp only [Act.put, List.setIfInBounds_toArray, List.set_cons_zero, List.set_cons_succ, List.getElem_toArray, List.getElem_cons_zero, List.getElem_cons_succ]
      refine wpAnyH_take (i := 28) (v := ?_) rfl (by kernel_rfl) (by kernel_rfl) (by kernel_rfl) (fun _ _ _ h => h) (Or.inl ⟨by rfl, ?_⟩) (by assumption) ?_
      rotate_left 1
      · (intro w hSw; (try dsimp only at hSw); first | (go_simp; done) | (go_simp; with_reducible rfl))
      try simp only [Act.put, List.setIfInBounds_toArray, List.set_cons_zero, List.set_cons_succ, List.getElem_toArray, List.getElem_cons_zero, List.getElem_cons_succ]
      refine wpAnyH_take (i := 29) (v := ?_) rfl (by kernel_rfl) (by kernel_rfl) (by kernel_rfl) (fun _ _ _ h => h) (Or.inl ⟨by rfl, ?_⟩) (by assumption) ?_
      rotate_left 1
      · (intro w hSw; (try dsimp only at hSw); first | (go_simp; done) | (go_simp; with_reducible rfl))
      try simp only [Act.put, List.setIfInBounds_toArray, List.set_cons_zero, List.set_cons_succ, List.getElem_toArray, List.getElem_cons_zero, List.getElem_cons_succ]
      refine wpAnyH_done (by kernel_rfl) ?_ _
      go_wp2_with fail
      clear y0 p0
      have HBW2 := Lib.hid (HBW.out.trans (HK.out.mono HBW.out.size))
      go_loopg [13] m (fun k2 t wq => ∃ k : Nat, k + k2 = m ∧ t = .int .i64 (k : Int) ∧ Below w12.heap.size w12 wq)
      case atStart => exact ⟨0, by omega, rfl, HBW2.out⟩
      case round =>
        clear z0 x0 x1 x2
        obtain ⟨k, hkm, rfl, hbw⟩ := hrel
        have HKM := Lib.hid hkm
        have HBQ := Lib.hid hbw
        have hblk := (hbw.block _ (Array.getElem?_eq_some_iff.1 HX.out).1).trans HX.out
        obtain ⟨x0, x1, x2, _⟩ := three_cells hblk
        clear hkm hbw hblk
        by_cases hk : k < m
        · have hk0 : (0 : Int) ≤ (k : Int) := Int.natCast_nonneg _
          have hk1 : (k : Int) < (m : Int) := by omega
          have HKN := Lib.hid hk
          have hw1 := sinks_way HNB.out.wf HI.out hk HLS.out (HFX.out i HI.out) (HFX.out k hk)
          have zi := (HRX.out.of_block (HBQ.out.block _ HRX.out.lt)).cell HI.out
          have zk := (HRX.out.of_block (HBQ.out.block _ HRX.out.lt)).cell hk
          have p0 := (HMF.out.below HBQ.out).top.cell HI.out
          have pk := ((HMF.out.below HBQ.out).row i HI.out).cell hk
          have HU1 := Lib.hid (HFX.out i HI.out).1
          have HU2 := Lib.hid (HLS.out i k HI.out hk).1.1
          rw [← HXI.out] at hw1 zi HU1
          obtain ⟨xk, hxk⟩ : ∃ z, z = FX k := ⟨_, rfl⟩
          obtain ⟨mk, hmk⟩ : ∃ z, z = M i k := ⟨_, rfl⟩
          rw [← hxk] at hw1 zk
          rw [← hmk] at hw1 pk HU2
          obtain ⟨ps, hps⟩ : ∃ z, z = plusN xi mk := ⟨_, rfl⟩
          have HPS := Lib.hid (fun W => refplus_still xi mk HU1.out HU2.out W)
          rw [← hps] at hw1 HPS
          have hw2 : ¬ (ps < xk) := by omega
          have hd3 : decide (ps < xk) = false := decide_eq_false hw2
          clear hk hxk hmk hps
          go_wp2_with fail
          go_quiet ((go_at_call 36; exact Calls.quiet_of_same (HPS.out _)))
          go_wp2_with fail
          go_roundg (m - (k + 1))
          case measure => have := HKM.out; have := HKN.out; omega
          case rel => exact ⟨k + 1, by have := HKM.out; have := HKN.out; omega, by go_num, below_drewN HBQ.out _⟩
        · go_wp2_with fail
          go_roundg (m - (i + 1))
          case measure => have := HIM.out; have := HI.out; omega
          case rel => exact ⟨i + 1, by have := HIM.out; have := HI.out; omega, by go_num, HBQ.out⟩
    · go_wp2_with fail
      go_ret
      exact ⟨rfl, HB.out.trans (HBW.out.mono HB.out.size)⟩
end Go.Proofs.Ytkcmeklgnbejiaa.Fr
