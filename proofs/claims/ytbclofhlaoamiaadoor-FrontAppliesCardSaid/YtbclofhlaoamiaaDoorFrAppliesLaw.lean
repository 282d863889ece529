/-
  PACKAGE marchlandlaw06: FrontApplies.
-/
import Derived.Test.YtbclofhlaoamiaaDoorJoined6
import Derived.Test.YtbclofhlaoamiaaDoorJoined7
import Derived.Test.YtbclofhlaoamiaaDoorJoined8
import Derived.Test.YtbclofhlaoamiaaDoorJoined9
import Derived.Test.YtbclofhlaoamiaaDoorBagRef2
import Derived.Deep.RegionHeldLaw
namespace Go.Proofs.YtbclofhlaoamiaaDoor.Fr
open Go.RowKit Go.Deep Gr
set_option linter.unusedVariables false
set_option linter.unusedSimpArgs false

set_option maxRecDepth 1000000 in
set_option maxHeartbeats 16000000 in
theorem chk0 : chkV 0 [] [] = ([], 2) := by unfold chkV; rw [if_pos (by decide)]
set_option maxRecDepth 1000000 in
set_option maxHeartbeats 16000000 in
theorem errT_below {w w' : World} (h : Fault.ErrType w) (hb : Below w.heap.size w w') : Fault.ErrType w' := by
  unfold Fault.ErrType at *
  exact (hb.cell (p := ⟨0, 0, none⟩) (Lib.lt_of_cell h)).trans h
set_option maxRecDepth 1000000 in
set_option maxHeartbeats 16000000 in
theorem fapplies_any {w : World} {ve vi vl : Value} {E : List Ed} {I : List Int} {L : List (List Batch.Ch)} (n : Int) (hg : GMemP w ve vi E I) (hT : Fault.ErrType w) (hL : RdL w vl L) :
    Calls Tryd.prog 3 #[.agg #[.int .i64 n, ve, vi], vl] w fun e w' => e = .returned (.bool true) ∧ Below w.heap.size w w' := by
  have HT := Lib.hid hT
  have HLL := Lib.hid hL
  obtain ⟨aoL, capL, hvl⟩ : ∃ ao cap, vl = .slice ao L.length cap := by obtain ⟨ao, cap, h, _⟩ := hL; exact ⟨ao, cap, h⟩
  subst hvl
  have hlenL : L.length ≤ 9223372036854775807 := by obtain ⟨_, _, _, h, _⟩ := hL; exact h
  clear hT hL
  obtain ⟨⟨ao, cap, rfl, _⟩, ⟨aoi, capi, rfl, _⟩⟩ := And.intro hg.ed hg.inp
  obtain ⟨w0, hw0⟩ : ∃ w0, w0 = w.alloc (.cells #[.int .i64 n, .slice ao E.length cap, .slice aoi I.length capi] 25) := ⟨_, rfl⟩
  have hb0 : Below w.heap.size w w0 := by rw [hw0]; exact (Below.refl _ _).alloc (Nat.le_refl _) _
  have hs0 : w0.heap.size = w.heap.size + 1 := by rw [hw0]; simp
  have hx0 : w0.heap[w.heap.size]? = some (.cells #[.int .i64 n, .slice ao E.length cap, .slice aoi I.length capi] 25 (0, 0)) := by rw [hw0]; exact heap_alloc_new w _
  have HG := Lib.hid (show GMemP w0 (.slice ao E.length cap) (.slice aoi I.length capi) E I from hg.below hb0)
  have HX0 := Lib.hid hx0
  have HB0 := Lib.hid hb0
  have HS0 := Lib.hid hs0
  clear hg hb0 hs0 hx0
  go_enter Tryd.func3, Tryd.ntmps3
  go_wp2_with fail
  go_at_call 4
  rw [← hw0]
  clear hw0
  refine (gfix_any n HG.out).mono ?_
  rintro e w1 ⟨m, ve1, vi1, E1, I1, hm6, hl12, rfl, hgm, hoe, hoi, hok, hb⟩
  obtain ⟨aoE, capE, rfl⟩ := formE hoe
  obtain ⟨aoI, capI, rfl⟩ := hoi.form
  have HM6 := Lib.hid (show 1 ≤ m ∧ m ≤ 64 from ⟨hok.n0, hok.n1⟩)
  have HL12 := Lib.hid (show E1.length ≤ 12 ∧ I1.length ≤ 8 from ⟨hl12, inlenF hok⟩)
  have HOK := Lib.hid hok
  have HOE := Lib.hid hoe
  have HOI := Lib.hid hoi
  have HWE := Lib.hid (And.intro hgm.ed.wf hgm.inp.wf)
  have HB1 := Lib.hid hb
  clear hm6 hl12 hgm hoe hoi hok HG
  have hb2 : Below (w.heap.size + 1) w0 w1 := HB1.out.mono (by rw [HS0.out]; exact Nat.le_refl _)
  have hx1 := (hb2.block _ (Nat.lt_succ_self _)).trans HX0.out
  obtain ⟨y0, y1, y2, yf⟩ := three_cells hx1
  have yf0 := yf 0
  have yf1 := yf 1
  have yf2 := yf 2
  have hr1 := heap_setCell_same w1 w.heap.size 0 _ _ (.int .i64 (m : Int)) hx1
  have hr2 := heap_setCell_same _ w.heap.size 1 _ _ (.slice aoE E1.length capE) hr1
  have hr3 := heap_setCell_same _ w.heap.size 2 _ _ (.slice aoI I1.length capI) hr2
  have hbe := World.ownsRow.lt HOE.out
  have hbi := World.ownsRow.lt HOI.out
  rw [HS0.out] at hbe hbi
  obtain ⟨w2, hw2⟩ : ∃ w2, w2 = ((w1.setCell ⟨w.heap.size, 0, none⟩ (.int .i64 (m : Int))).setCell ⟨w.heap.size, 1, none⟩ (.slice aoE E1.length capE)).setCell ⟨w.heap.size, 2, none⟩ (.slice aoI I1.length capI) := ⟨_, rfl⟩
  have hoe2 : Own w2 (w0.heap.size + 3) 62 (.slice aoE E1.length capE) E1 := by
    rw [hw2]
    exact ownsRow_setCell_other (ownsRow_setCell_other (ownsRow_setCell_other HOE.out (fun e => by have h := (hbe _ e).1; dsimp only at h; omega) _) (fun e => by have h := (hbe _ e).1; dsimp only at h; omega) _) (fun e => by have h := (hbe _ e).1; dsimp only at h; omega) _
  have hoi2 : OwnI w2 (w0.heap.size + 3) 3 (.slice aoI I1.length capI) I1 := by
    rw [hw2]
    exact ownsRow_setCell_other (ownsRow_setCell_other (ownsRow_setCell_other HOI.out (fun e => by have h := (hbi _ e).1; dsimp only at h; omega) _) (fun e => by have h := (hbi _ e).1; dsimp only at h; omega) _) (fun e => by have h := (hbi _ e).1; dsimp only at h; omega) _
  have HGE := Lib.hid (show GMemP w2 (.slice aoE E1.length capE) (.slice aoI I1.length capI) E1 I1 from ⟨hoe2.rd HWE.out.1, hoi2.rd HWE.out.2⟩)
  have HB := Lib.hid (show Below w.heap.size w w2 by rw [hw2]; exact (((HB0.out.trans (hb2.mono (Nat.le_succ _))).setCell (Nat.le_refl _) _).setCell (Nat.le_refl _) _).setCell (Nat.le_refl _) _)
  have HX := Lib.hid (show w2.heap[w.heap.size]? = some (.cells #[.int .i64 (m : Int), .slice aoE E1.length capE, .slice aoI I1.length capI] 25 (0, 0)) by rw [hw2]; simpa using hr3)
  clear hb hb2 hx1 yf hr1 hr2 hr3 hbe hbi hoe2 hoi2 HX0 HS0 HB0 HB1 HOE HOI
  go_upto_region 2 with fail
  rw [← hw2]
  clear hw2 y0 y1 y2 yf0 yf1 yf2
  obtain ⟨x0, x1, x2, _⟩ := three_cells HX.out
  go_wp2_with fail
  go_at_call 6
  refine (gto_any (m : Int) HGE.out (by have := HL12.out; omega) (by have := HL12.out; omega)).mono ?_
  rintro e w3 ⟨ve3, vi3, rfl, hg3, hb⟩
  have HG3 := Lib.hid hg3
  replace HGE := Lib.hid (HGE.out.below hb)
  replace HX := Lib.hid ((hb.block _ (Array.getElem?_eq_some_iff.1 HX.out).1).trans HX.out)
  replace HB := Lib.hid (HB.out.trans (hb.mono HB.out.size))
  clear hg3 hb x0 x1 x2
  go_wp2_with fail
  go_at_call 5
  refine (reachnew_any HG3.out.ed HG3.out.inp HOK.out).mono ?_
  rintro e w5 ⟨b, M, rfl, hrc, hls, hb⟩
  have HRC := Lib.hid hrc
  have HLS := Lib.hid hls
  have HBB := Lib.hid (show w.heap.size ≤ b from Nat.le_trans HB.out.size hrc.lo)
  replace HGE := Lib.hid (HGE.out.below hb)
  have HXB := Lib.hid (show w.heap.size ≠ b by have h1 := (Array.getElem?_eq_some_iff.1 HX.out).1; have h2 := hrc.lo; omega)
  replace HX := Lib.hid ((hb.block _ (Array.getElem?_eq_some_iff.1 HX.out).1).trans HX.out)
  replace HB := Lib.hid (HB.out.trans (hb.mono HB.out.size))
  clear hrc hls hb HG3
  go_wp2_with fail
  go_at_call 7
  refine (frtold_any _).mono ?_
  rintro e w6 ⟨rfl, hb⟩
  replace HRC := Lib.hid (HRC.out.below hb)
  replace HGE := Lib.hid (HGE.out.below hb)
  replace HX := Lib.hid ((hb.block _ (Array.getElem?_eq_some_iff.1 HX.out).1).trans HX.out)
  replace HB := Lib.hid (HB.out.trans (hb.mono HB.out.size))
  obtain ⟨x0, x1, x2, _⟩ := three_cells HX.out
  clear hb
  go_wp2_with fail
  go_at_call 8
  refine (refpaths_any HGE.out.ed HGE.out.inp HOK.out).mono ?_
  rintro e w7 ⟨vp2, M2, rfl, hm2, hl2, hb⟩
  obtain ⟨gq, rq, rfl, hm2'⟩ := hm2
  have HL2 := Lib.hid hl2
  have HPT := Lib.hid (show Mat w7 w6.heap.size (.slice (some ⟨gq, 0, none⟩) m m) m M2 from ⟨gq, rq, rfl, hm2'⟩)
  have HBP := Lib.hid (show b < w6.heap.size by obtain ⟨⟨g, r, hx, _⟩, _, _⟩ := HRC.out; exact (Array.getElem?_eq_some_iff.1 hx).1)
  replace HRC := Lib.hid (HRC.out.below hb)
  replace HX := Lib.hid ((hb.block _ (Array.getElem?_eq_some_iff.1 HX.out).1).trans HX.out)
  replace HB := Lib.hid (HB.out.trans (hb.mono HB.out.size))
  clear hm2' hl2 hb HGE x0 x1 x2
  have HLW0 := Lib.hid (show ([] : List Batch.Ch).length ≤ 20 * 0 by simp)
  go_wp2_with fail
  go_loopg [8, 9] 31 (fun k s8 s9 wr => ∃ (i : Nat) (W : List Batch.Ch) (vw vb : Value), i + k = 31 ∧ i ≤ 30 ∧ s9 = .int .i64 (i : Int) ∧ Batch.Own wr (b + 1) 44 s8 W ∧ Batch.BagP W ∧ (∀ x ∈ W, x.Wf) ∧ W.length ≤ 20 * i ∧ Rch wr w3.heap.size b m M vb W ∧ Mat wr w6.heap.size (.slice (some ⟨gq, 0, none⟩) m m) m M2 ∧ wr.heap[w.heap.size]? = some (.cells #[.int .i64 (m : Int), .slice aoE E1.length capE, .slice aoI I1.length capI] 25 (0, 0)) ∧ Below w.heap.size w wr)
  case atStart => exact ⟨0, [], .nilIface, _, by omega, by omega, rfl, Batch.Own.nil _ _ _, ⟨nil_right, by simp⟩, by simp, by simp, HRC.out, HPT.out, HX.out, HB.out⟩
  case round =>
    clear HRC HPT HX HB
    obtain ⟨i, W, vw, vb, hik, hi30, rfl, hwo, hpw, hpv, hlw, hrc, hpt, hx, hbw⟩ := hrel
    have HIK := Lib.hid (And.intro hik hi30)
    have HWO := Lib.hid hwo
    have HPW := Lib.hid hpw
    have HPV := Lib.hid hpv
    have HLW := Lib.hid hlw
    have HRC := Lib.hid hrc
    have HPT := Lib.hid hpt
    have HX := Lib.hid hx
    have HBW := Lib.hid hbw
    clear hik hwo hpw hpv hlw hrc hpt hx hbw
    have hi0 : (0 : Int) ≤ (i : Int) := Int.natCast_nonneg _
    by_cases hi : i < L.length ∧ i < 30
    · obtain ⟨hi1, hi2⟩ := hi
      have hi1' : (i : Int) < (L.length : Int) := by omega
      have hi2' : (i : Int) < 30 := by omega
      obtain ⟨l, hl⟩ : ∃ l, L[i]? = some l := ⟨_, List.getElem?_eq_getElem hi1⟩
      have hLw := HLL.out.below HBW.out
      obtain ⟨b0, o0, hao, hcc⟩ : ∃ b0 o0, aoL = some ⟨b0, o0, none⟩ ∧ ∃ u, wr.cell? ⟨b0, o0 + i, none⟩ = some u ∧ Batch.Rd wr u l := by
        obtain ⟨ao', cap', hv, _, h4⟩ := hLw
        simp only [Value.slice.injEq] at hv
        obtain ⟨rfl, _, rfl⟩ := hv
        rcases h4 with h4 | ⟨b0, o0, ha, h4⟩
        · rw [h4] at hl; simp at hl
        · exact ⟨b0, o0, ha, h4 i l hl⟩
      subst hao
      obtain ⟨uu, q0, hru⟩ := hcc
      obtain ⟨al, cl, hul, hcl1, hcl2⟩ : ∃ ao cap, uu = .slice ao l.length cap ∧ l.length ≤ cap ∧ cap ≤ 9223372036854775807 := by obtain ⟨ao, cap, h, h1, h2, _⟩ := hru; exact ⟨ao, cap, h, h1, h2⟩
      subst hul
      obtain ⟨mn, hmin, hsl⟩ := few_facts (T := 40) (s := 3) (by kernel_rfl) (by intro W; simp [go_sem]) al l.length cl 20 20 rfl hcl1
      have hrC : Batch.Rd wr (.slice al (min l.length 20) cl) (l.take 20) := by
        have h := rdc_take hru (min l.length 20) (by omega)
        rwa [show l.take (min l.length 20) = l.take 20 by rw [List.take_eq_take_iff]; omega] at h
      have hCl : (l.take 20).length = min l.length 20 := by rw [List.length_take]; omega
      rw [← hCl] at hsl hrC
      generalize l.take 20 = C at hsl hrC hCl
      have HCR := Lib.hid hrC
      have HCW := Lib.hid hrC.wf
      have HCL := Lib.hid (show C.length ≤ 100000 by omega)
      have HC20 := Lib.hid (show C.length ≤ 20 by omega)
      have HLEN := Lib.hid (show W.length + C.length ≤ 100000 by have := HLW.out; omega)
      have HST0 := Lib.hid (stepL_bag (n := m) HPW.out HPV.out hrC.wf)
      clear hrC hru hLw hCl hl hi1 hi2
      go_wp2_with fail
      go_quiet (fail)
      go_wp2_with fail
      go_at_call 9
      refine (Batch.refright_any (HCR.out.below (below_drewN (Below.refl wr.heap.size wr) _))).mono ?_
      rintro e wc ⟨rfl, hb0⟩
      have hb : Below wr.heap.size wr wc := (below_drewN (Below.refl wr.heap.size wr) _).trans hb0
      replace HPT := Lib.hid (HPT.out.below hb)
      replace HRC := Lib.hid (HRC.out.below hb)
      replace HWO := Lib.hid (HWO.out.below hb)
      replace HBW := Lib.hid (HBW.out.trans (hb.mono HBW.out.size))
      replace HX := Lib.hid ((hb.block _ (Array.getElem?_eq_some_iff.1 HX.out).1).trans HX.out)
      replace HCR := Lib.hid (HCR.out.below hb)
      clear hb hb0 q0 hmin hsl
      have hCb : (C.length : Int) ≤ 20 := by have := HC20.out; omega
      have hmb : (m : Int) ≤ 64 := by have := HM6.out; omega
      by_cases hrt : Batch.rightB C = true
      · rw [hrt]
        have HRT := Lib.hid hrt
        clear hrt
        go_wp2_with fail
        obtain ⟨wo, rfl⟩ : ∃ wo : World, wo = wc := ⟨_, rfl⟩
        go_loopg [11, 12] (C.length + 1) (fun k s11 s12 wq => ∃ (q : Nat) (z : Int), q + k = C.length + 1 ∧ q ≤ C.length ∧ s12 = .int .i64 (q : Int) ∧ s11 = .int .i64 z ∧ ((z = 0 ∧ ∀ x ∈ C.take q, x.p < (m : Int)) ∨ (z = 2 ∧ ∃ x ∈ C, (m : Int) ≤ x.p)) ∧ ∃ a, wq = wo.drewN a)
        case atStart => exact ⟨0, 0, by omega, by omega, rfl, rfl, .inl ⟨rfl, fun x h => by simp at h⟩, 0, rfl⟩
        case round =>
          obtain ⟨q, z, hqk, hql, rfl, rfl, hz, a, rfl⟩ := hrel
          have HQK := Lib.hid (And.intro hqk hql)
          clear hqk hql
          have hq0 : (0 : Int) ≤ (q : Int) := Int.natCast_nonneg _
          have hbd := below_drewN (Below.refl wo.heap.size wo) a
          rcases hz with ⟨rfl, hz⟩ | ⟨rfl, hz⟩
          · have HZ := Lib.hid hz
            by_cases hq : q < C.length
            · obtain ⟨x, hx, hxm⟩ := Batch.at_of hq
              obtain ⟨cb, off, rfl, hcc⟩ := HCR.out.at hx
              obtain ⟨c0, c1, c2⟩ := hcc
              obtain ⟨x0, x1, x2, _⟩ := three_cells HX.out
              have hq1 : (q : Int) < (C.length : Int) := by omega
              have HQ := Lib.hid hq
              by_cases hp : x.p < (m : Int)
              · have HN := Lib.hid (show ∀ y ∈ C.take (q + 1), y.p < (m : Int) from fun y hy => by
                  rw [take_succ' hx] at hy
                  rcases List.mem_append.1 hy with hy | hy
                  · exact HZ.out y hy
                  · simp at hy; subst hy; exact hp)
                obtain ⟨xp, xt, xd⟩ := x
                simp only at c0 hp
                have hp2 : ¬ ((m : Int) ≤ xp) := by omega
                clear hx hxm hq c1 c2 x1 x2 hz hbd
                go_wp2_with fail
                go_quiet (fail)
                go_wp2_with fail
                go_roundg (C.length - q)
                case measure => have := HQK.out; have := HQ.out; omega
                case rel => exact ⟨q + 1, 0, by have := HQK.out; have := HQ.out; omega, by have := HQ.out; omega, by go_num, rfl, .inl ⟨rfl, HN.out⟩, _, rfl⟩
              · have HN := Lib.hid (show ∃ x ∈ C, (m : Int) ≤ x.p from ⟨x, hxm, by omega⟩)
                obtain ⟨xp, xt, xd⟩ := x
                simp only at c0 hp
                have hp2 : (m : Int) ≤ xp := by omega
                clear hx hxm hq c1 c2 x1 x2 hz hbd
                go_wp2_with fail
                go_quiet (fail)
                go_wp2_with fail
                go_roundg (C.length - q)
                case measure => have := HQK.out; have := HQ.out; omega
                case rel => exact ⟨q + 1, 2, by have := HQK.out; have := HQ.out; omega, by have := HQ.out; omega, by go_num, rfl, .inr ⟨rfl, HN.out⟩, _, rfl⟩
            · have hpo : ∀ x ∈ C, x.p < (m : Int) := fun x hx => HZ.out x (by rw [take_all (by omega)]; exact hx)
              have HAE := Lib.hid (applyF_ok (B := W) HRT.out hpo)
              have hb := hbd
              replace HPT := Lib.hid (HPT.out.below hb)
              replace HRC := Lib.hid (HRC.out.below hb)
              replace HWO := Lib.hid (HWO.out.below hb)
              replace HBW := Lib.hid (HBW.out.trans (hb.mono HBW.out.size))
              replace HX := Lib.hid ((hb.block _ (Array.getElem?_eq_some_iff.1 HX.out).1).trans HX.out)
              replace HCR := Lib.hid (HCR.out.below hb)
              clear hb hbd hz hpo
              go_wp2_with fail
              go_at_call 10
              refine (Batch.refapply_anyR (HWO.out.sl HPV.out) HCR.out HPW.out ((Batch.rightB_iff C).1 HRT.out) HLEN.out).mono ?_
              rintro e wd ⟨vx, rfl, hox, hb⟩
              have hwb : b + 1 ≤ (wo.drewN a).heap.size := by have h1 := HBP.out; have h2 := HPT.out; obtain ⟨gg, rr, _, h3⟩ := h2; have := h3.top.lt; have := h3.lo; omega
              have HOX := Lib.hid (hox.mono hwb)
              replace HPT := Lib.hid (HPT.out.below hb)
              replace HRC := Lib.hid (HRC.out.below hb)
              replace HWO := Lib.hid (HWO.out.below hb)
              replace HBW := Lib.hid (HBW.out.trans (hb.mono HBW.out.size))
              replace HX := Lib.hid ((hb.block _ (Array.getElem?_eq_some_iff.1 HX.out).1).trans HX.out)
              replace HCR := Lib.hid (HCR.out.below hb)
              clear hb hox hwb
              by_cases hae : Batch.applyE W C = 0
              · have HAF := Lib.hid (show applyF m W C = 0 from HAE.out.trans hae)
                have HST := Lib.hid (show stepL m W C = Batch.applyR W C from if_pos HAF.out)
                rw [hae]
                replace HWO := HOX
                have hst0 := HST0.out
                rw [HST.out] at hst0
                generalize Batch.applyR W C = W2 at HST HWO HOX hst0
                have HPW2 := Lib.hid hst0.1
                have HPV2 := Lib.hid hst0.2.1
                have HLW2 := Lib.hid (show W2.length ≤ 100000 by have := hst0.2.2; have := HLEN.out; omega)
                have HL20 := Lib.hid (show W2.length ≤ 20 * (i + 1) by have := hst0.2.2; have := HLW.out; have := HC20.out; omega)
                clear hst0 hae HOX
                go_wp2_with fail
                go_at_call 12
                refine (Batch.to_any HCR.out HCL.out).mono ?_
                rintro e wa ⟨vt, rfl, hot, hb⟩
                have HVT := Lib.hid (hot.sl HCW.out)
                replace HPT := Lib.hid (HPT.out.below hb)
                replace HRC := Lib.hid (HRC.out.below hb)
                replace HWO := Lib.hid (HWO.out.below hb)
                replace HBW := Lib.hid (HBW.out.trans (hb.mono HBW.out.size))
                replace HX := Lib.hid ((hb.block _ (Array.getElem?_eq_some_iff.1 HX.out).1).trans HX.out)
                clear hot hb
                go_wp2_with fail
                go_at_call 11
                refine (rapply_any HRC.out HPW.out.right HVT.out HLEN.out).mono ?_
                rintro e wb ⟨w1', u, hb1, rfl, hcase⟩
                obtain ⟨⟨vb3, hrc3⟩, hoff⟩ := rstep HRC.out HPV.out HCW.out hb1 hcase
                rw [HAF.out]
                rw [HST.out] at hrc3
                replace HPT := Lib.hid (hoff.mat HPT.out HBP.out)
                replace HWO := Lib.hid (hoff.own HWO.out (Nat.lt_succ_self _))
                replace HRC := Lib.hid hrc3
                replace HX := Lib.hid (hoff.blk HX.out HXB.out)
                replace HBW := Lib.hid (hoff.below HBW.out HBB.out HBW.out.size)
                clear hcase hb1 hrc3 hoff HVT HCR
                go_wp2_with fail
                go_at_call 15
                refine (rbag_any HRC.out HLW2.out).mono ?_
                rintro e wb2 ⟨vg, rfl, hog, hb⟩
                have HVG := Lib.hid (hog.rd HPV2.out)
                replace HPT := Lib.hid (HPT.out.below hb)
                replace HRC := Lib.hid (HRC.out.below hb)
                replace HWO := Lib.hid (HWO.out.below hb)
                replace HBW := Lib.hid (HBW.out.trans (hb.mono HBW.out.size))
                replace HX := Lib.hid ((hb.block _ (Array.getElem?_eq_some_iff.1 HX.out).1).trans HX.out)
                clear hog hb
                go_wp2_with fail
                go_at_call 14
                refine (Batch.from_any HVG.out HLW2.out).mono ?_
                rintro e wb3 ⟨vf, rfl, hof, hb⟩
                have HVF := Lib.hid (hof.rd HPV2.out)
                replace HPT := Lib.hid (HPT.out.below hb)
                replace HRC := Lib.hid (HRC.out.below hb)
                replace HWO := Lib.hid (HWO.out.below hb)
                replace HBW := Lib.hid (HBW.out.trans (hb.mono HBW.out.size))
                replace HX := Lib.hid ((hb.block _ (Array.getElem?_eq_some_iff.1 HX.out).1).trans HX.out)
                clear hof hb HVG
                go_wp2_with fail
                go_at_call 13
                refine (Batch.refsame_any HVF.out (HWO.out.rd HPV2.out)).mono ?_
                rw [Batch.eqL_self]
                rintro e wb4 ⟨rfl, hb⟩
                replace HPT := Lib.hid (HPT.out.below hb)
                replace HRC := Lib.hid (HRC.out.below hb)
                replace HWO := Lib.hid (HWO.out.below hb)
                replace HBW := Lib.hid (HBW.out.trans (hb.mono HBW.out.size))
                replace HX := Lib.hid ((hb.block _ (Array.getElem?_eq_some_iff.1 HX.out).1).trans HX.out)
                clear hb HVF
                go_wp2_with fail
                go_at_call 17
                refine (fronts_any HRC.out (m_bd HLS.out) HPW2.out.right.2 HLW2.out HM6.out.1 HM6.out.2).mono ?_
                rintro e wb5 ⟨g1, F, rfl, _, hrow, hfr, hb⟩
                have HF := Lib.hid (rdu_row hrow (by have := HM6.out; omega))
                have HFR := Lib.hid hfr
                replace HPT := Lib.hid (HPT.out.below hb)
                replace HRC := Lib.hid (HRC.out.below hb)
                replace HWO := Lib.hid (HWO.out.below hb)
                replace HBW := Lib.hid (HBW.out.trans (hb.mono HBW.out.size))
                replace HX := Lib.hid ((hb.block _ (Array.getElem?_eq_some_iff.1 HX.out).1).trans HX.out)
                clear hrow hfr hb
                go_wp2_with fail
                go_at_call 18
                refine (frrefof_any HPT.out (m_bd HL2.out) (HWO.out.rd HPV2.out) HLW2.out HM6.out.1 HM6.out.2).mono ?_
                rintro e wb6 ⟨vo, lo, rfl, hol, hll, hfl, hb⟩
                have HO := Lib.hid hol.rd
                replace HF := Lib.hid (HF.out.below hb)
                rw [front_same HPV2.out HFR.out hll hfl HLS.out HL2.out] at HF
                replace HPT := Lib.hid (HPT.out.below hb)
                replace HRC := Lib.hid (HRC.out.below hb)
                replace HWO := Lib.hid (HWO.out.below hb)
                replace HBW := Lib.hid (HBW.out.trans (hb.mono HBW.out.size))
                replace HX := Lib.hid ((hb.block _ (Array.getElem?_eq_some_iff.1 HX.out).1).trans HX.out)
                clear hol hll hfl hb HFR
                go_wp2_with fail
                go_at_call 16
                refine (frsame_any HF.out HO.out).mono ?_
                rintro e wb7 ⟨rfl, hb⟩
                replace HPT := Lib.hid (HPT.out.below hb)
                replace HRC := Lib.hid (HRC.out.below hb)
                replace HWO := Lib.hid (HWO.out.below hb)
                replace HBW := Lib.hid (HBW.out.trans (hb.mono HBW.out.size))
                replace HX := Lib.hid ((hb.block _ (Array.getElem?_eq_some_iff.1 HX.out).1).trans HX.out)
                clear hb HF HO
                go_wp2_with fail
                go_roundg (30 - i)
                case measure => have := HIK.out; omega
                case rel => exact ⟨i + 1, _, .nilIface, _, by have := HIK.out; omega, by have := HIK.out; omega, by go_num, HWO.out, HPW2.out, HPV2.out, HL20.out, HRC.out, HPT.out, HX.out, HBW.out⟩
              · have HAF := Lib.hid (HAE.out)
                have HST := Lib.hid (show stepL m W C = W from if_neg (by rw [HAE.out]; exact hae))
                have HPW2 := HPW
                have HPV2 := HPV
                have HLW2 := Lib.hid (show W.length ≤ 100000 by have := HLEN.out; omega)
                have HL20 := Lib.hid (show W.length ≤ 20 * (i + 1) by have := HLW.out; omega)
                obtain ⟨ae, hAE⟩ : ∃ z, z = Batch.applyE W C := ⟨_, rfl⟩
                rw [← hAE] at hae HAF ⊢
                have haeb : (ae == 0) = false := by simpa using hae
                clear HOX hAE HAE
                go_wp2_with fail
                go_at_call 12
                refine (Batch.to_any HCR.out HCL.out).mono ?_
                rintro e wa ⟨vt, rfl, hot, hb⟩
                have HVT := Lib.hid (hot.sl HCW.out)
                replace HPT := Lib.hid (HPT.out.below hb)
                replace HRC := Lib.hid (HRC.out.below hb)
                replace HWO := Lib.hid (HWO.out.below hb)
                replace HBW := Lib.hid (HBW.out.trans (hb.mono HBW.out.size))
                replace HX := Lib.hid ((hb.block _ (Array.getElem?_eq_some_iff.1 HX.out).1).trans HX.out)
                clear hot hb
                go_wp2_with fail
                go_at_call 11
                refine (rapply_any HRC.out HPW.out.right HVT.out HLEN.out).mono ?_
                rintro e wb ⟨w1', u, hb1, rfl, hcase⟩
                obtain ⟨⟨vb3, hrc3⟩, hoff⟩ := rstep HRC.out HPV.out HCW.out hb1 hcase
                rw [HAF.out]
                rw [HST.out] at hrc3
                replace HPT := Lib.hid (hoff.mat HPT.out HBP.out)
                replace HWO := Lib.hid (hoff.own HWO.out (Nat.lt_succ_self _))
                replace HRC := Lib.hid hrc3
                replace HX := Lib.hid (hoff.blk HX.out HXB.out)
                replace HBW := Lib.hid (hoff.below HBW.out HBB.out HBW.out.size)
                clear hcase hb1 hrc3 hoff HVT HCR
                go_wp2_with fail
                go_at_call 15
                refine (rbag_any HRC.out HLW2.out).mono ?_
                rintro e wb2 ⟨vg, rfl, hog, hb⟩
                have HVG := Lib.hid (hog.rd HPV2.out)
                replace HPT := Lib.hid (HPT.out.below hb)
                replace HRC := Lib.hid (HRC.out.below hb)
                replace HWO := Lib.hid (HWO.out.below hb)
                replace HBW := Lib.hid (HBW.out.trans (hb.mono HBW.out.size))
                replace HX := Lib.hid ((hb.block _ (Array.getElem?_eq_some_iff.1 HX.out).1).trans HX.out)
                clear hog hb
                go_wp2_with fail
                go_at_call 14
                refine (Batch.from_any HVG.out HLW2.out).mono ?_
                rintro e wb3 ⟨vf, rfl, hof, hb⟩
                have HVF := Lib.hid (hof.rd HPV2.out)
                replace HPT := Lib.hid (HPT.out.below hb)
                replace HRC := Lib.hid (HRC.out.below hb)
                replace HWO := Lib.hid (HWO.out.below hb)
                replace HBW := Lib.hid (HBW.out.trans (hb.mono HBW.out.size))
                replace HX := Lib.hid ((hb.block _ (Array.getElem?_eq_some_iff.1 HX.out).1).trans HX.out)
                clear hof hb HVG
                go_wp2_with fail
                go_at_call 13
                refine (Batch.refsame_any HVF.out (HWO.out.rd HPV2.out)).mono ?_
                rw [Batch.eqL_self]
                rintro e wb4 ⟨rfl, hb⟩
                replace HPT := Lib.hid (HPT.out.below hb)
                replace HRC := Lib.hid (HRC.out.below hb)
                replace HWO := Lib.hid (HWO.out.below hb)
                replace HBW := Lib.hid (HBW.out.trans (hb.mono HBW.out.size))
                replace HX := Lib.hid ((hb.block _ (Array.getElem?_eq_some_iff.1 HX.out).1).trans HX.out)
                clear hb HVF
                go_wp2_with fail
                go_at_call 17
                refine (fronts_any HRC.out (m_bd HLS.out) HPW2.out.right.2 HLW2.out HM6.out.1 HM6.out.2).mono ?_
                rintro e wb5 ⟨g1, F, rfl, _, hrow, hfr, hb⟩
                have HF := Lib.hid (rdu_row hrow (by have := HM6.out; omega))
                have HFR := Lib.hid hfr
                replace HPT := Lib.hid (HPT.out.below hb)
                replace HRC := Lib.hid (HRC.out.below hb)
                replace HWO := Lib.hid (HWO.out.below hb)
                replace HBW := Lib.hid (HBW.out.trans (hb.mono HBW.out.size))
                replace HX := Lib.hid ((hb.block _ (Array.getElem?_eq_some_iff.1 HX.out).1).trans HX.out)
                clear hrow hfr hb
                go_wp2_with fail
                go_at_call 18
                refine (frrefof_any HPT.out (m_bd HL2.out) (HWO.out.rd HPV2.out) HLW2.out HM6.out.1 HM6.out.2).mono ?_
                rintro e wb6 ⟨vo, lo, rfl, hol, hll, hfl, hb⟩
                have HO := Lib.hid hol.rd
                replace HF := Lib.hid (HF.out.below hb)
                rw [front_same HPV2.out HFR.out hll hfl HLS.out HL2.out] at HF
                replace HPT := Lib.hid (HPT.out.below hb)
                replace HRC := Lib.hid (HRC.out.below hb)
                replace HWO := Lib.hid (HWO.out.below hb)
                replace HBW := Lib.hid (HBW.out.trans (hb.mono HBW.out.size))
                replace HX := Lib.hid ((hb.block _ (Array.getElem?_eq_some_iff.1 HX.out).1).trans HX.out)
                clear hol hll hfl hb HFR
                go_wp2_with fail
                go_at_call 16
                refine (frsame_any HF.out HO.out).mono ?_
                rintro e wb7 ⟨rfl, hb⟩
                replace HPT := Lib.hid (HPT.out.below hb)
                replace HRC := Lib.hid (HRC.out.below hb)
                replace HWO := Lib.hid (HWO.out.below hb)
                replace HBW := Lib.hid (HBW.out.trans (hb.mono HBW.out.size))
                replace HX := Lib.hid ((hb.block _ (Array.getElem?_eq_some_iff.1 HX.out).1).trans HX.out)
                clear hb HF HO
                go_wp2_with fail
                go_roundg (30 - i)
                case measure => have := HIK.out; omega
                case rel => exact ⟨i + 1, _, .nilIface, _, by have := HIK.out; omega, by have := HIK.out; omega, by go_num, HWO.out, HPW2.out, HPV2.out, HL20.out, HRC.out, HPT.out, HX.out, HBW.out⟩
          · have HAF := Lib.hid (show applyF m W C = 2 by obtain ⟨x, hx, hp⟩ := hz; exact applyF_port HRT.out hx hp)
            have HST := Lib.hid (show stepL m W C = W from if_neg (by rw [HAF.out]; decide))
            have HPW2 := HPW
            have HPV2 := HPV
            have HLW2 := Lib.hid (show W.length ≤ 100000 by have := HLEN.out; omega)
            have HL20 := Lib.hid (show W.length ≤ 20 * (i + 1) by have := HLW.out; omega)
            have hb := hbd
            replace HPT := Lib.hid (HPT.out.below hb)
            replace HRC := Lib.hid (HRC.out.below hb)
            replace HWO := Lib.hid (HWO.out.below hb)
            replace HBW := Lib.hid (HBW.out.trans (hb.mono HBW.out.size))
            replace HX := Lib.hid ((hb.block _ (Array.getElem?_eq_some_iff.1 HX.out).1).trans HX.out)
            replace HCR := Lib.hid (HCR.out.below hb)
            clear hb hbd hz
            by_cases hlt : q < C.length
            case' pos => have hj : (q : Int) < (C.length : Int) := by omega
            case' neg =>
              have hj : decide ((q : Int) < (C.length : Int)) = false := decide_eq_false (by omega)
              have hj2 : decide (q < C.length) = false := decide_eq_false hlt
            all_goals
              go_wp2_with fail
              go_at_call 12
              refine (Batch.to_any HCR.out HCL.out).mono ?_
              rintro e wa ⟨vt, rfl, hot, hb⟩
              have HVT := Lib.hid (hot.sl HCW.out)
              replace HPT := Lib.hid (HPT.out.below hb)
              replace HRC := Lib.hid (HRC.out.below hb)
              replace HWO := Lib.hid (HWO.out.below hb)
              replace HBW := Lib.hid (HBW.out.trans (hb.mono HBW.out.size))
              replace HX := Lib.hid ((hb.block _ (Array.getElem?_eq_some_iff.1 HX.out).1).trans HX.out)
              clear hot hb
              go_wp2_with fail
              go_at_call 11
              refine (rapply_any HRC.out HPW.out.right HVT.out HLEN.out).mono ?_
              rintro e wb ⟨w1', u, hb1, rfl, hcase⟩
              obtain ⟨⟨vb3, hrc3⟩, hoff⟩ := rstep HRC.out HPV.out HCW.out hb1 hcase
              rw [HAF.out]
              rw [HST.out] at hrc3
              replace HPT := Lib.hid (hoff.mat HPT.out HBP.out)
              replace HWO := Lib.hid (hoff.own HWO.out (Nat.lt_succ_self _))
              replace HRC := Lib.hid hrc3
              replace HX := Lib.hid (hoff.blk HX.out HXB.out)
              replace HBW := Lib.hid (hoff.below HBW.out HBB.out HBW.out.size)
              clear hcase hb1 hrc3 hoff HVT HCR
              go_wp2_with fail
              go_at_call 15
              refine (rbag_any HRC.out HLW2.out).mono ?_
              rintro e wb2 ⟨vg, rfl, hog, hb⟩
              have HVG := Lib.hid (hog.rd HPV2.out)
              replace HPT := Lib.hid (HPT.out.below hb)
              replace HRC := Lib.hid (HRC.out.below hb)
              replace HWO := Lib.hid (HWO.out.below hb)
              replace HBW := Lib.hid (HBW.out.trans (hb.mono HBW.out.size))
              replace HX := Lib.hid ((hb.block _ (Array.getElem?_eq_some_iff.1 HX.out).1).trans HX.out)
              clear hog hb
              go_wp2_with fail
              go_at_call 14
              refine (Batch.from_any HVG.out HLW2.out).mono ?_
              rintro e wb3 ⟨vf, rfl, hof, hb⟩
              have HVF := Lib.hid (hof.rd HPV2.out)
              replace HPT := Lib.hid (HPT.out.below hb)
              replace HRC := Lib.hid (HRC.out.below hb)
              replace HWO := Lib.hid (HWO.out.below hb)
              replace HBW := Lib.hid (HBW.out.trans (hb.mono HBW.out.size))
              replace HX := Lib.hid ((hb.block _ (Array.getElem?_eq_some_iff.1 HX.out).1).trans HX.out)
              clear hof hb HVG
              go_wp2_with fail
              go_at_call 13
              refine (Batch.refsame_any HVF.out (HWO.out.rd HPV2.out)).mono ?_
              rw [Batch.eqL_self]
              rintro e wb4 ⟨rfl, hb⟩
              replace HPT := Lib.hid (HPT.out.below hb)
              replace HRC := Lib.hid (HRC.out.below hb)
              replace HWO := Lib.hid (HWO.out.below hb)
              replace HBW := Lib.hid (HBW.out.trans (hb.mono HBW.out.size))
              replace HX := Lib.hid ((hb.block _ (Array.getElem?_eq_some_iff.1 HX.out).1).trans HX.out)
              clear hb HVF
              go_wp2_with fail
              go_at_call 17
              refine (fronts_any HRC.out (m_bd HLS.out) HPW2.out.right.2 HLW2.out HM6.out.1 HM6.out.2).mono ?_
              rintro e wb5 ⟨g1, F, rfl, _, hrow, hfr, hb⟩
              have HF := Lib.hid (rdu_row hrow (by have := HM6.out; omega))
              have HFR := Lib.hid hfr
              replace HPT := Lib.hid (HPT.out.below hb)
              replace HRC := Lib.hid (HRC.out.below hb)
              replace HWO := Lib.hid (HWO.out.below hb)
              replace HBW := Lib.hid (HBW.out.trans (hb.mono HBW.out.size))
              replace HX := Lib.hid ((hb.block _ (Array.getElem?_eq_some_iff.1 HX.out).1).trans HX.out)
              clear hrow hfr hb
              go_wp2_with fail
              go_at_call 18
              refine (frrefof_any HPT.out (m_bd HL2.out) (HWO.out.rd HPV2.out) HLW2.out HM6.out.1 HM6.out.2).mono ?_
              rintro e wb6 ⟨vo, lo, rfl, hol, hll, hfl, hb⟩
              have HO := Lib.hid hol.rd
              replace HF := Lib.hid (HF.out.below hb)
              rw [front_same HPV2.out HFR.out hll hfl HLS.out HL2.out] at HF
              replace HPT := Lib.hid (HPT.out.below hb)
              replace HRC := Lib.hid (HRC.out.below hb)
              replace HWO := Lib.hid (HWO.out.below hb)
              replace HBW := Lib.hid (HBW.out.trans (hb.mono HBW.out.size))
              replace HX := Lib.hid ((hb.block _ (Array.getElem?_eq_some_iff.1 HX.out).1).trans HX.out)
              clear hol hll hfl hb HFR
              go_wp2_with fail
              go_at_call 16
              refine (frsame_any HF.out HO.out).mono ?_
              rintro e wb7 ⟨rfl, hb⟩
              replace HPT := Lib.hid (HPT.out.below hb)
              replace HRC := Lib.hid (HRC.out.below hb)
              replace HWO := Lib.hid (HWO.out.below hb)
              replace HBW := Lib.hid (HBW.out.trans (hb.mono HBW.out.size))
              replace HX := Lib.hid ((hb.block _ (Array.getElem?_eq_some_iff.1 HX.out).1).trans HX.out)
              clear hb HF HO
              go_wp2_with fail
              go_roundg (30 - i)
              case measure => have := HIK.out; omega
              case rel => exact ⟨i + 1, _, .nilIface, _, by have := HIK.out; omega, by have := HIK.out; omega, by go_num, HWO.out, HPW2.out, HPV2.out, HL20.out, HRC.out, HPT.out, HX.out, HBW.out⟩
      · have hrf : Batch.rightB C = false := by simpa using hrt
        rw [hrf]
        have HAF := Lib.hid (applyF_wrong (n := m) (B := W) hrf)
        have HST := Lib.hid (show stepL m W C = W from if_neg (by rw [HAF.out]; decide))
        have HPW2 := HPW
        have HPV2 := HPV
        have HLW2 := Lib.hid (show W.length ≤ 100000 by have := HLEN.out; omega)
        have HL20 := Lib.hid (show W.length ≤ 20 * (i + 1) by have := HLW.out; omega)
        clear hrt hrf
        go_wp2_with fail
        obtain ⟨wo, rfl⟩ : ∃ wo : World, wo = wc := ⟨_, rfl⟩
        go_loopg [11, 12] 0 (fun k s11 s12 wq => s11 = .int .i64 1 ∧ s12 = .int .i64 0 ∧ wq = wo)
        case atStart => exact ⟨rfl, rfl, rfl⟩
        case round =>
          obtain ⟨rfl, rfl, rfl⟩ := hrel
          by_cases hlt : 0 < C.length
          case' pos => have hj : (0 : Int) < (C.length : Int) := by omega
          case' neg =>
            have hj : decide ((0 : Int) < (C.length : Int)) = false := decide_eq_false (by omega)
            have hj2 : decide (0 < C.length) = false := decide_eq_false hlt
          all_goals
            go_wp2_with fail
            go_at_call 12
            refine (Batch.to_any HCR.out HCL.out).mono ?_
            rintro e wa ⟨vt, rfl, hot, hb⟩
            have HVT := Lib.hid (hot.sl HCW.out)
            replace HPT := Lib.hid (HPT.out.below hb)
            replace HRC := Lib.hid (HRC.out.below hb)
            replace HWO := Lib.hid (HWO.out.below hb)
            replace HBW := Lib.hid (HBW.out.trans (hb.mono HBW.out.size))
            replace HX := Lib.hid ((hb.block _ (Array.getElem?_eq_some_iff.1 HX.out).1).trans HX.out)
            clear hot hb
            go_wp2_with fail
            go_at_call 11
            refine (rapply_any HRC.out HPW.out.right HVT.out HLEN.out).mono ?_
            rintro e wb ⟨w1', u, hb1, rfl, hcase⟩
            obtain ⟨⟨vb3, hrc3⟩, hoff⟩ := rstep HRC.out HPV.out HCW.out hb1 hcase
            rw [HAF.out]
            rw [HST.out] at hrc3
            replace HPT := Lib.hid (hoff.mat HPT.out HBP.out)
            replace HWO := Lib.hid (hoff.own HWO.out (Nat.lt_succ_self _))
            replace HRC := Lib.hid hrc3
            replace HX := Lib.hid (hoff.blk HX.out HXB.out)
            replace HBW := Lib.hid (hoff.below HBW.out HBB.out HBW.out.size)
            clear hcase hb1 hrc3 hoff HVT HCR
            go_wp2_with fail
            go_at_call 15
            refine (rbag_any HRC.out HLW2.out).mono ?_
            rintro e wb2 ⟨vg, rfl, hog, hb⟩
            have HVG := Lib.hid (hog.rd HPV2.out)
            replace HPT := Lib.hid (HPT.out.below hb)
            replace HRC := Lib.hid (HRC.out.below hb)
            replace HWO := Lib.hid (HWO.out.below hb)
            replace HBW := Lib.hid (HBW.out.trans (hb.mono HBW.out.size))
            replace HX := Lib.hid ((hb.block _ (Array.getElem?_eq_some_iff.1 HX.out).1).trans HX.out)
            clear hog hb
            go_wp2_with fail
            go_at_call 14
            refine (Batch.from_any HVG.out HLW2.out).mono ?_
            rintro e wb3 ⟨vf, rfl, hof, hb⟩
            have HVF := Lib.hid (hof.rd HPV2.out)
            replace HPT := Lib.hid (HPT.out.below hb)
            replace HRC := Lib.hid (HRC.out.below hb)
            replace HWO := Lib.hid (HWO.out.below hb)
            replace HBW := Lib.hid (HBW.out.trans (hb.mono HBW.out.size))
            replace HX := Lib.hid ((hb.block _ (Array.getElem?_eq_some_iff.1 HX.out).1).trans HX.out)
            clear hof hb HVG
            go_wp2_with fail
            go_at_call 13
            refine (Batch.refsame_any HVF.out (HWO.out.rd HPV2.out)).mono ?_
            rw [Batch.eqL_self]
            rintro e wb4 ⟨rfl, hb⟩
            replace HPT := Lib.hid (HPT.out.below hb)
            replace HRC := Lib.hid (HRC.out.below hb)
            replace HWO := Lib.hid (HWO.out.below hb)
            replace HBW := Lib.hid (HBW.out.trans (hb.mono HBW.out.size))
            replace HX := Lib.hid ((hb.block _ (Array.getElem?_eq_some_iff.1 HX.out).1).trans HX.out)
            clear hb HVF
            go_wp2_with fail
            go_at_call 17
            refine (fronts_any HRC.out (m_bd HLS.out) HPW2.out.right.2 HLW2.out HM6.out.1 HM6.out.2).mono ?_
            rintro e wb5 ⟨g1, F, rfl, _, hrow, hfr, hb⟩
            have HF := Lib.hid (rdu_row hrow (by have := HM6.out; omega))
            have HFR := Lib.hid hfr
            replace HPT := Lib.hid (HPT.out.below hb)
            replace HRC := Lib.hid (HRC.out.below hb)
            replace HWO := Lib.hid (HWO.out.below hb)
            replace HBW := Lib.hid (HBW.out.trans (hb.mono HBW.out.size))
            replace HX := Lib.hid ((hb.block _ (Array.getElem?_eq_some_iff.1 HX.out).1).trans HX.out)
            clear hrow hfr hb
            go_wp2_with fail
            go_at_call 18
            refine (frrefof_any HPT.out (m_bd HL2.out) (HWO.out.rd HPV2.out) HLW2.out HM6.out.1 HM6.out.2).mono ?_
            rintro e wb6 ⟨vo, lo, rfl, hol, hll, hfl, hb⟩
            have HO := Lib.hid hol.rd
            replace HF := Lib.hid (HF.out.below hb)
            rw [front_same HPV2.out HFR.out hll hfl HLS.out HL2.out] at HF
            replace HPT := Lib.hid (HPT.out.below hb)
            replace HRC := Lib.hid (HRC.out.below hb)
            replace HWO := Lib.hid (HWO.out.below hb)
            replace HBW := Lib.hid (HBW.out.trans (hb.mono HBW.out.size))
            replace HX := Lib.hid ((hb.block _ (Array.getElem?_eq_some_iff.1 HX.out).1).trans HX.out)
            clear hol hll hfl hb HFR
            go_wp2_with fail
            go_at_call 16
            refine (frsame_any HF.out HO.out).mono ?_
            rintro e wb7 ⟨rfl, hb⟩
            replace HPT := Lib.hid (HPT.out.below hb)
            replace HRC := Lib.hid (HRC.out.below hb)
            replace HWO := Lib.hid (HWO.out.below hb)
            replace HBW := Lib.hid (HBW.out.trans (hb.mono HBW.out.size))
            replace HX := Lib.hid ((hb.block _ (Array.getElem?_eq_some_iff.1 HX.out).1).trans HX.out)
            clear hb HF HO
            go_wp2_with fail
            go_roundg (30 - i)
            case measure => have := HIK.out; omega
            case rel => exact ⟨i + 1, _, .nilIface, _, by have := HIK.out; omega, by have := HIK.out; omega, by go_num, HWO.out, HPW2.out, HPV2.out, HL20.out, HRC.out, HPT.out, HX.out, HBW.out⟩
    · by_cases hiL : i < L.length
      case' pos =>
        have hi2' : ¬ ((i : Int) < 30) := by omega
        have hi2d : decide ((i : Int) < 30) = false := decide_eq_false (by omega)
        have hi1' : (i : Int) < (L.length : Int) := by omega
      case' neg =>
        have hi1d : decide (i < L.length) = false := decide_eq_false hiL
        have hi1e : decide ((i : Int) < (L.length : Int)) = false := decide_eq_false (by omega)
      all_goals
        go_wp2_with fail
        go_at_call 5
        refine (newbad_any (E := []) (I := []) 0 (Rd.nil _) ⟨none, 0, rfl, by simp, by simp, by simp, .inl rfl⟩ (by rw [chk0]; decide)).mono ?_
        rintro e wn ⟨vn, rfl, her, hb⟩
        rw [chk0] at her
        have hch : Fault.Chain wn vn [] (Fault.errnoV 2) ∧ ∃ u x, vn = .iface u x := by
          rcases her with ⟨h, _⟩ | ⟨_, h⟩
          · exact absurd h (by decide)
          · exact h
        obtain ⟨hch, u, x, rfl⟩ := hch
        have HCH := Lib.hid hch
        replace HBW := Lib.hid (HBW.out.trans (hb.mono HBW.out.size))
        clear her hch hb
        go_wp2_with fail
        go_at_call 11
        refine (rapply_nil _ _).mono ?_
        rintro e wn2 ⟨rfl, hb⟩
        replace HCH := Lib.hid (HCH.out.below hb)
        replace HBW := Lib.hid (HBW.out.trans (hb.mono HBW.out.size))
        clear hb
        go_wp2_with fail
        go_at_call 15
        refine (rbag_nil _).mono ?_
        rintro e wn3 ⟨rfl, hb⟩
        replace HCH := Lib.hid (HCH.out.below hb)
        replace HBW := Lib.hid (HBW.out.trans (hb.mono HBW.out.size))
        clear hb
        go_wp2_with fail
        go_at_call 17
        refine (fronts_nil _).mono ?_
        rintro e wn4 ⟨rfl, hb⟩
        replace HCH := Lib.hid (HCH.out.below hb)
        replace HBW := Lib.hid (HBW.out.trans (hb.mono HBW.out.size))
        clear hb
        go_wp2_with fail
        go_at_call 19
        refine (Fault.kind_errno 2 (errT_below HT.out HBW.out) HCH.out).mono ?_
        rintro e wn5 ⟨rfl, hb⟩
        replace HBW := Lib.hid (HBW.out.trans (hb.mono HBW.out.size))
        clear hb
        go_wp2_with fail
        go_ret
        exact ⟨rfl, HBW.out⟩
end Go.Proofs.YtbclofhlaoamiaaDoor.Fr
