/-
  YtlkljeedlkbkgaaGreatDoorClSinks
-/
import Derived.Test.YtlkljeedlkbkgaaGreatDoorJoined29
import Derived.Test.YtlkljeedlkbkgaaGreatDoorJoined21
import Derived.Deep.RegionHeldLaw
import Derived.BigQuiet
namespace Go.Proofs.YtlkljeedlkbkgaaGreatDoor.Cl
open Go.RowKit Go.Deep Gr Go.Proofs.YtlkljeedlkbkgaaGreatDoor.Fault
set_option linter.unusedVariables false
set_option linter.unusedSimpArgs false
theorem mat_two {w : World} {base n P : Nat} {v : Value} {M : Nat → Nat → Int} (h : Mat w base v n M) (hp : P < base) (u1 u2 : Value) : Mat ((w.setCell ⟨P, 0, none⟩ u1).setCell ⟨P, 1, none⟩ u2) base v n M := by
  obtain ⟨g, r, e, hm⟩ := h
  refine ⟨g, r, e, hm.top.of_block (blk_two (by have := hm.lo; omega)), fun i hi => (hm.row i hi).of_block (blk_two (by have := hm.los i hi; omega)), hm.inj, hm.far, hm.lo, hm.los⟩
set_option maxRecDepth 1000000 in
set_option maxHeartbeats 32000000 in
theorem clsinks_any {w : World} {ve vi vh vb vo : Value} {E : List Ed} {I : List Int} {H0 : List Ed} {B0 : List Batch.Ch} {OL : List OpC} (n : Int) (hL : LV w) (hg : GMemP w ve vi E I) (hh : Rd w vh H0) (hbr : Batch.Rd w vb B0) (hBl : B0.length * 24 ≤ 140737488355328) (ho : RdOC w vo OL) :
    Calls Tryz.prog 4 #[.agg #[.int .i64 n, ve, vi], .agg #[vh, vb], vo] w fun e w' => e = .returned (.bool true) ∧ Below w.heap.size w w' := by
  obtain ⟨w0, hw0⟩ : ∃ w0, w0 = (w.alloc (.cells #[.int .i64 n, ve, vi] 25)).alloc (.cells #[vh, vb] 29) := ⟨_, rfl⟩
  have hb0 : Below w.heap.size w w0 := by rw [hw0]; exact ((Below.refl _ _).alloc (Nat.le_refl _) _).alloc (by simp) _
  have hs0 : w0.heap.size = w.heap.size + 2 := by rw [hw0]; simp
  have hx0 : w0.heap[w.heap.size]? = some (.cells #[.int .i64 n, ve, vi] 25 (0, 0)) := by
    rw [hw0, heap_alloc_old _ _ (by simp)]; exact heap_alloc_new w _
  have hy0 : w0.heap[w.heap.size + 1]? = some (.cells #[vh, vb] 29 (0, 0)) := by
    have h := heap_alloc_new (w.alloc (.cells #[.int .i64 n, ve, vi] 25)) (.cells #[vh, vb] 29)
    rw [hw0]; simpa using h
  have HL := Lib.hid hL
  have HG := Lib.hid (show GMemP w0 ve vi E I from hg.below hb0)
  have HHR := Lib.hid hh
  have HBR := Lib.hid hbr
  have HBL := Lib.hid hBl
  have HOC := Lib.hid ho
  have HX0 := Lib.hid hx0
  have HY0 := Lib.hid hy0
  have HB0 := Lib.hid hb0
  have HS0 := Lib.hid hs0
  clear hL hh hbr hBl ho hb0 hs0 hx0 hy0
  obtain ⟨⟨ao, cap, e1, _⟩, ⟨aoi, capi, e2, _⟩⟩ := And.intro hg.ed hg.inp
  obtain ⟨ah, ch, e3, _⟩ := HHR.out
  obtain ⟨ab, cb, e4, _⟩ := HBR.out
  obtain ⟨ol, cl, e5, hol, _⟩ := HOC.out
  subst e1 e2 e3 e4 e5
  clear hg
  go_enter Tryz.func4, Tryz.ntmps4
  go_wp2_with fail
  go_at_call 6
  rw [← hw0]
  clear hw0
  refine (gfix_any n HG.out).mono ?_
  rintro e w1 ⟨m, ve1, vi1, E1, I1, hm6, hl12, rfl, hgm, hoe, hoi, hok, hb⟩
  obtain ⟨aoE, capE, rfl⟩ := Fr.formE hoe
  obtain ⟨aoI, capI, rfl⟩ := hoi.form
  have HM6 := Lib.hid (show 1 ≤ m ∧ m ≤ 64 from ⟨hok.n0, hok.n1⟩)
  have HL12 := Lib.hid (show E1.length ≤ 12 ∧ I1.length ≤ 8 from ⟨hl12, Fr.inlenF hok⟩)
  have HOK := Lib.hid hok
  have HOE := Lib.hid hoe
  have HOI := Lib.hid hoi
  have HWE := Lib.hid (And.intro hgm.ed.wf hgm.inp.wf)
  have HB1 := Lib.hid hb
  clear hm6 hl12 hgm hoe hoi hok hb HG
  have hb2 : Below (w.heap.size + 2) w0 w1 := HB1.out.mono (by rw [HS0.out]; exact Nat.le_refl _)
  have hx1 := (hb2.block _ (by omega)).trans HX0.out
  have hy1 := (hb2.block _ (by omega)).trans HY0.out
  obtain ⟨y0, y1, y2, yf⟩ := three_cells hx1
  have yf0 := yf 0
  have yf1 := yf 1
  have yf2 := yf 2
  have hr1 := heap_setCell_same w1 w.heap.size 0 _ _ (.int .i64 (m : Int)) hx1
  have hr2 := heap_setCell_same _ w.heap.size 1 _ _ (.slice aoE E1.length capE) hr1
  have hr3 := heap_setCell_same _ w.heap.size 2 _ _ (.slice aoI I1.length capI) hr2
  have hbe := World.ownsRow.lt HOE.out
  have hbi := World.ownsRow.lt HOI.out
  rw [HS0.out] at hbe hbi
  obtain ⟨w2, hw2⟩ : ∃ w2, w2 = ((w1.setCell ⟨w.heap.size, 0, none⟩ (.int .i64 (m : Int))).setCell ⟨w.heap.size, 1, none⟩ (.slice aoE E1.length capE)).setCell ⟨w.heap.size, 2, none⟩ (.slice aoI I1.length capI) := ⟨_, rfl⟩
  have hoe2 : Own w2 (w0.heap.size + 3) 76 (.slice aoE E1.length capE) E1 := by
    rw [hw2]
    exact ownsRow_setCell_other (ownsRow_setCell_other (ownsRow_setCell_other HOE.out (fun e => by have h := (hbe _ e).1; (try dsimp only at h); omega) _) (fun e => by have h := (hbe _ e).1; (try dsimp only at h); omega) _) (fun e => by have h := (hbe _ e).1; (try dsimp only at h); omega) _
  have hoi2 : OwnI w2 (w0.heap.size + 3) 3 (.slice aoI I1.length capI) I1 := by
    rw [hw2]
    exact ownsRow_setCell_other (ownsRow_setCell_other (ownsRow_setCell_other HOI.out (fun e => by have h := (hbi _ e).1; (try dsimp only at h); omega) _) (fun e => by have h := (hbi _ e).1; (try dsimp only at h); omega) _) (fun e => by have h := (hbi _ e).1; (try dsimp only at h); omega) _
  have HOE2 := Lib.hid hoe2
  have HOI2 := Lib.hid hoi2
  have HB := Lib.hid (show Below w.heap.size w w2 by rw [hw2]; exact (((HB0.out.trans (hb2.mono (by omega))).setCell (Nat.le_refl _) _).setCell (Nat.le_refl _) _).setCell (Nat.le_refl _) _)
  have HX := Lib.hid (show w2.heap[w.heap.size]? = some (.cells #[.int .i64 (m : Int), .slice aoE E1.length capE, .slice aoI I1.length capI] 25 (0, 0)) by rw [hw2]; simpa using hr3)
  have HY := Lib.hid (show w2.heap[w.heap.size + 1]? = some (.cells #[.slice ah H0.length ch, .slice ab B0.length cb] 29 (0, 0)) by rw [hw2, heap_setCell_other _ _ _ _ (by simp), heap_setCell_other _ _ _ _ (by simp), heap_setCell_other _ _ _ _ (by simp)]; exact hy1)
  have HS2 := Lib.hid (show w.heap.size + 2 ≤ w2.heap.size by rw [hw2]; simp; have := HB1.out.size; have := HS0.out; omega)
  clear hb2 hx1 hy1 yf hr1 hr2 hr3 hbe hbi hoe2 hoi2 HX0 HY0 HB0 HB1 HOE HOI
  go_upto_region 2 with fail
  rw [← hw2]
  clear hw2 y0 y1 y2 yf0 yf1 yf2
  obtain ⟨x0, x1, x2, _⟩ := three_cells HX.out
  obtain ⟨z0, z1, zf, _⟩ := own_two HY.out
  go_wp2_with fail
  go_at_call 7
  refine (ownfix_any m HM6.out (HHR.out.below HB.out) (HBR.out.below HB.out) HBL.out).mono ?_
  rintro e w3 ⟨vh1, vb1, rfl, hoh, hob, hb⟩
  have HOP := Lib.hid (fix_ownp HM6.out HHR.out.wf HBR.out.wf)
  have HLN := Lib.hid (show (fixHL H0 m).length ≤ 5 ∧ (fixBL B0 m).length ≤ 12 from ⟨fixO_len H0 m 5, (fixBL_nice HM6.out HBR.out.wf).len⟩)
  clear HHR HBR HBL x0 x1 x2
  obtain ⟨aH, cH, rfl⟩ := Fr.formE hoh
  obtain ⟨aB, cB, hvb⟩ : ∃ aB cB, vb1 = .slice aB (fixBL B0 m).length cB := by
    rcases hob.form with ⟨h, h2⟩ | ⟨g, cap, hv, _⟩
    · exact ⟨none, 0, by rw [h2, h]; rfl⟩
    · exact ⟨_, _, hv⟩
  subst hvb
  generalize fixHL H0 m = H at *
  generalize fixBL B0 m = B at *
  have HOH := Lib.hid hoh
  have HOB := Lib.hid hob
  have HB3 := Lib.hid hb
  replace HOE2 := Lib.hid (HOE2.out.below hb)
  replace HOI2 := Lib.hid (HOI2.out.below hb)
  have hb3 : Below (w.heap.size + 2) w2 w3 := hb.mono HS2.out
  clear hoh hob hb
  have hx3 := (hb3.block _ (by omega)).trans HX.out
  have hy3 := (hb3.block _ (by omega)).trans HY.out
  obtain ⟨y0, y1, yf, _⟩ := own_two hy3
  have yf0 := yf 0
  have yf1 := yf 1
  have hr1 := own_set0 hy3 (.slice aH H.length cH)
  have hr2 := own_set1 hr1 (.slice aB B.length cB)
  have hbh := World.ownsRow.lt HOH.out
  have hbb := World.ownsRow.lt HOB.out
  obtain ⟨w4, hw4⟩ : ∃ w4, w4 = (w3.setCell ⟨w.heap.size + 1, 0, none⟩ (.slice aH H.length cH)).setCell ⟨w.heap.size + 1, 1, none⟩ (.slice aB B.length cB) := ⟨_, rfl⟩
  have HOA := Lib.hid (show OwnAt w4 (.slice aH H.length cH) (.slice aB B.length cB) H B from ⟨by
    rw [hw4]
    exact Own.sl (T := 50) (base := w2.heap.size) (ownsRow_setCell_other (ownsRow_setCell_other HOH.out (fun e => by have h := (hbh _ e).1; have := HS2.out; (try dsimp only at h); omega) _) (fun e => by have h := (hbh _ e).1; have := HS2.out; (try dsimp only at h); omega) _) HOP.out.wfH, by
    rw [hw4]
    exact Batch.Own.sl (T := 67) (base := w2.heap.size) (ownsRow_setCell_other (ownsRow_setCell_other HOB.out (fun e => by have h := (hbb _ e).1; have := HS2.out; (try dsimp only at h); omega) _) (fun e => by have h := (hbb _ e).1; have := HS2.out; (try dsimp only at h); omega) _) HOP.out.wfB⟩)
  have hbe := World.ownsRow.lt HOE2.out
  have hbi := World.ownsRow.lt HOI2.out
  rw [HS0.out] at hbe hbi
  have hoe2 : Own w4 (w0.heap.size + 3) 76 (.slice aoE E1.length capE) E1 := by
    rw [hw4]
    exact ownsRow_setCell_other (ownsRow_setCell_other HOE2.out (fun e => by have h := (hbe _ e).1; (try dsimp only at h); omega) _) (fun e => by have h := (hbe _ e).1; (try dsimp only at h); omega) _
  have hoi2 : OwnI w4 (w0.heap.size + 3) 3 (.slice aoI I1.length capI) I1 := by
    rw [hw4]
    exact ownsRow_setCell_other (ownsRow_setCell_other HOI2.out (fun e => by have h := (hbi _ e).1; (try dsimp only at h); omega) _) (fun e => by have h := (hbi _ e).1; (try dsimp only at h); omega) _
  have HGE := Lib.hid (show GMemP w4 (.slice aoE E1.length capE) (.slice aoI I1.length capI) E1 I1 from ⟨hoe2.rd HWE.out.1, hoi2.rd HWE.out.2⟩)
  replace HX := Lib.hid (show w4.heap[w.heap.size]? = some (.cells #[.int .i64 (m : Int), .slice aoE E1.length capE, .slice aoI I1.length capI] 25 (0, 0)) by rw [hw4, heap_setCell_other _ _ _ _ (by simp), heap_setCell_other _ _ _ _ (by simp)]; exact hx3)
  replace HY := Lib.hid (show w4.heap[w.heap.size + 1]? = some (.cells #[.slice aH H.length cH, .slice aB B.length cB] 29 (0, 0)) by rw [hw4]; exact hr2)
  replace HB := Lib.hid (show Below w.heap.size w w4 by rw [hw4]; exact ((HB.out.trans (HB3.out.mono HB.out.size)).setCell (by simp) _).setCell (by simp) _)
  clear hb3 hx3 hy3 yf hr1 hr2 hbh hbb hbe hbi hoe2 hoi2 HB3 HOH HOB HOE2 HOI2 HS2 HS0 zf z0 z1
  go_upto_region 3 with fail
  rw [← hw4]
  clear hw4 y0 y1 yf0 yf1
  obtain ⟨x0, x1, x2, _⟩ := three_cells HX.out
  go_wp2_with fail
  go_at_call 14
  refine (gto_any (m : Int) HGE.out (by have := HL12.out; omega) (by have := HL12.out; omega)).mono ?_
  rintro e w5 ⟨ve3, vi3, rfl, hg3, hb⟩
  replace HOA := Lib.hid (HOA.out.below hb)
  replace HGE := Lib.hid (HGE.out.below hb)
  replace HX := Lib.hid ((hb.block _ (Array.getElem?_eq_some_iff.1 HX.out).1).trans HX.out)
  replace HY := Lib.hid ((hb.block _ (Array.getElem?_eq_some_iff.1 HY.out).1).trans HY.out)
  replace HB := Lib.hid (HB.out.trans (hb.mono HB.out.size))
  clear hb x0 x1 x2
  go_wp2_with fail
  go_at_call 13
  refine (paths_any hg3.ed hg3.inp HOK.out).mono ?_
  rintro e w6 ⟨v5, M, rfl, hmat, hls, hb⟩
  obtain ⟨gp, rp, rfl, hmf⟩ := hmat
  have HBS := Lib.hid (show w.heap.size + 1 < w5.heap.size from (Array.getElem?_eq_some_iff.1 HY.out).1)
  have HMT := Lib.hid (show Mat w6 w5.heap.size (.slice (some ⟨gp, 0, none⟩) m m) m M from ⟨gp, rp, rfl, hmf⟩)
  have HLS := Lib.hid hls
  have HLM := Lib.hid hls
  have HMM := Lib.hid (MT.of HOK.out.fits hls)
  replace HOA := Lib.hid (HOA.out.below hb)
  replace HGE := Lib.hid (HGE.out.below hb)
  replace HX := Lib.hid ((hb.block _ (Array.getElem?_eq_some_iff.1 HX.out).1).trans HX.out)
  replace HY := Lib.hid ((hb.block _ (Array.getElem?_eq_some_iff.1 HY.out).1).trans HY.out)
  replace HB := Lib.hid (HB.out.trans (hb.mono HB.out.size))
  clear hb hmf hls hg3
  go_wp2_with fail
  go_at_call 8
  refine (cltold_any _ (HL.out.below HB.out)).mono ?_
  rintro e wk ⟨rfl, hb⟩
  replace HOA := Lib.hid (HOA.out.below hb)
  replace HGE := Lib.hid (HGE.out.below hb)
  replace HX := Lib.hid ((hb.block _ (Array.getElem?_eq_some_iff.1 HX.out).1).trans HX.out)
  replace HY := Lib.hid ((hb.block _ (Array.getElem?_eq_some_iff.1 HY.out).1).trans HY.out)
  replace HB := Lib.hid (HB.out.trans (hb.mono HB.out.size))
  replace HMT := Lib.hid (HMT.out.below hb)
  clear hb
  have HST := Lib.hid (show St w m E1 I1 (.slice aoE E1.length capE) (.slice aoI I1.length capI) 0 H B (.slice aH H.length cH) (.slice aB B.length cB) wk from ⟨HOP.out, by have := HLN.out; omega, by have := HLN.out; omega, HX.out, HY.out, HOA.out, HGE.out, HB.out⟩)
  clear HX HY HOA HGE HB HOP HLN
  obtain ⟨bs, hbs⟩ : ∃ bs, bs = w5.heap.size := ⟨_, rfl⟩
  rw [← hbs] at HMT HBS
  clear hbs
  have hol2 : OL.length ≤ 9223372036854775807 := hol
  go_wp2_with fail
  go_loopg [8] OL.length (fun k s8 wr => ∃ (i : Nat) (H : List Ed) (B : List Batch.Ch) (a1 : Option Addr) (n1 c1 : Nat) (a2 : Option Addr) (n2 c2 : Nat), i + k = OL.length ∧ i ≤ 40 ∧ s8 = .int .i64 (i : Int) ∧ Hid (St w m E1 I1 (.slice aoE E1.length capE) (.slice aoI I1.length capI) i H B (.slice a1 n1 c1) (.slice a2 n2 c2) wr) ∧ Hid (Mat wr bs (.slice (some ⟨gp, 0, none⟩) m m) m M))
  case atStart => exact ⟨0, H, B, _, _, _, _, _, _, by omega, by omega, rfl, HST, HMT⟩
  case round =>
    clear HST HMT
    obtain ⟨i, H, B, a1, n1, c1, a2, n2, c2, hik, hi40, rfl, HST, HMT⟩ := hrel
    have HIK := Lib.hid (And.intro hik hi40)
    have hi0 : (0 : Int) ≤ (i : Int) := Int.natCast_nonneg _
    clear hik hi40
    by_cases hlt : i < OL.length
    · have hlt1 : decide ((i : Int) < (OL.length : Int)) = true := decide_eq_true (by omega)
      have hlt2 : (i : Int) < (OL.length : Int) := by omega
      by_cases h40 : i < 40
      · have h41 : decide ((i : Int) < 40) = true := decide_eq_true (by omega)
        have HI := Lib.hid (And.intro hlt h40)
        obtain ⟨x, hx⟩ : ∃ x, OL[i]? = some x := ⟨_, List.getElem?_eq_getElem hlt⟩
        obtain ⟨ob, off, rfl, hat⟩ := HOC.out.at hx
        have HAT := Lib.hid hat
        clear hlt h40 hx
        go_upto_region 9 with fail
        go_cut [9, 10, 11] from 30 to 107 (fun s8 s9 s10 wx => DoB m M H B w s8 s9 s10 wr wx)
        case first =>
          have hatw := HAT.out.below HST.out.bel
          obtain ⟨q0, q1, q2, q3, ⟨vl, q4, hrl0⟩, _⟩ := hatw
          obtain ⟨_, _, _, _, ⟨vl2, q42, hrl⟩, hxb⟩ := HAT.out
          have hvl : vl2 = vl := by
            have h := (HST.out.bel.cell (p := ⟨ob, off + i * 5 + 4, none⟩) (Lib.lt_of_cell q42)).trans q42
            rw [q4] at h
            exact (Option.some.inj h).symm
          subst hvl
          obtain ⟨al, cl2, rfl, _⟩ := And.left (And.intro hrl trivial)
          have HXB := Lib.hid hxb
          clear hrl0 hxb q42
          obtain ⟨g0, g1, g2, _⟩ := three_cells HST.out.hx
          obtain ⟨y0, y1, _⟩ := pair_cells HST.out.hy
          refine wp_region_held_drew (S := (fun w' => w'.cell? ⟨w.heap.size + 1, 0, none⟩ = some (.slice a1 n1 c1) ∧ w'.cell? ⟨w.heap.size + 1, 1, none⟩ = some (.slice a2 n2 c2) ∧ w'.cell? ⟨w.heap.size, 0, none⟩ = some (.int .i64 (m : Int)) ∧ w'.cell? ⟨w.heap.size, 1, none⟩ = some (.slice aoE E1.length capE) ∧ w'.cell? ⟨w.heap.size, 2, none⟩ = some (.slice aoI I1.length capI) ∧ w'.cell? ⟨ob, off + i * 5, none⟩ = some (.int .i64 x.kd) ∧ w'.cell? ⟨ob, off + i * 5 + 1, none⟩ = some (.int .i64 x.hd) ∧ w'.cell? ⟨ob, off + i * 5 + 2, none⟩ = some (.int .i64 x.nm) ∧ w'.cell? ⟨ob, off + i * 5 + 3, none⟩ = some (.int .u64 x.tm) ∧ w'.cell? ⟨ob, off + i * 5 + 4, none⟩ = some (.slice al x.l.length cl2))) (by kernel_rfl) ?_ (fun hHeld => ?_)
          · ((try dsimp only); exact ⟨y0, y1, g0, g1, g2, q0, q1, q2, q3, q4⟩)
          have hb1 := below_drewN (Below.refl wr.heap.size wr) 1
          refine wpAnyH_take (i := 0) (v := ?_) rfl (by kernel_rfl) (by kernel_rfl) (by kernel_rfl) (fun _ _ _ h => h) (Or.inl ⟨by rfl, ?_⟩) (by assumption) ?_
          rotate_left 1
          · (intro w hSw; (try dsimp only at hSw); first | (go_simp; done) | (go_simp; with_reducible rfl))
          try simp only [Act.put, List.setIfInBounds_toArray, List.set_cons_zero, List.set_cons_succ, List.getElem_toArray, List.getElem_cons_zero]
          refine wpAnyH_take (i := 1) (v := ?_) rfl (by kernel_rfl) (by kernel_rfl) (by kernel_rfl) (fun _ _ _ h => h) (Or.inl ⟨by rfl, ?_⟩) (by assumption) ?_
          rotate_left 1
          · (intro w hSw; (try dsimp only at hSw); first | (go_simp; done) | (go_simp; with_reducible rfl))
          try simp only [Act.put, List.setIfInBounds_toArray, List.set_cons_zero, List.set_cons_succ, List.getElem_toArray, List.getElem_cons_zero, List.getElem_cons_succ]
          refine wpAnyH_take (i := 2) (v := ?_) rfl (by kernel_rfl) (by kernel_rfl) (by kernel_rfl) (fun _ _ _ h => h) (Or.inl ⟨by rfl, ?_⟩) (by assumption) ?_
          rotate_left 1
          · (intro w hSw; (try dsimp only at hSw); first | (go_simp; done) | (go_simp; with_reducible rfl))
          try simp only [Act.put, List.setIfInBounds_toArray, List.set_cons_zero, List.set_cons_succ, List.getElem_toArray, List.getElem_cons_zero, List.getElem_cons_succ]
          refine wpAnyH_take (i := 3) (v := ?_) rfl (by kernel_rfl) (by kernel_rfl) (by kernel_rfl) (fun _ _ _ h => h) (Or.inl ⟨by rfl, ?_⟩) (by assumption) ?_
          rotate_left 1
          · (intro w hSw; (try dsimp only at hSw); first | (go_simp; done) | (go_simp; with_reducible rfl))
          try simp only [Act.put, List.setIfInBounds_toArray, List.set_cons_zero, List.set_cons_succ, List.getElem_toArray, List.getElem_cons_zero, List.getElem_cons_succ]
          refine wpAnyH_take (i := 4) (v := ?_) rfl (by kernel_rfl) (by kernel_rfl) (by kernel_rfl) (fun _ _ _ h => h) (Or.inl ⟨by rfl, ?_⟩) (by assumption) ?_
          rotate_left 1
          · (intro w hSw; (try dsimp only at hSw); first | (go_simp; done) | (go_simp; with_reducible rfl))
          try simp only [Act.put, List.setIfInBounds_toArray, List.set_cons_zero, List.set_cons_succ, List.getElem_toArray, List.getElem_cons_zero, List.getElem_cons_succ]
          refine wpAnyH_take (i := 5) (v := ?_) rfl (by kernel_rfl) (by kernel_rfl) (by kernel_rfl) (fun _ _ _ h => h) (Or.inl ⟨by rfl, ?_⟩) (by assumption) ?_
          rotate_left 1
          · (intro w hSw; (try dsimp only at hSw); first | (go_simp; done) | (go_simp; with_reducible rfl))
          try simp only [Act.put, List.setIfInBounds_toArray, List.set_cons_zero, List.set_cons_succ, List.getElem_toArray, List.getElem_cons_zero, List.getElem_cons_succ]
          refine wpAnyH_ready (rs := [6, 11]) (by kernel_rfl) (by simp) ?_
          refine AllReadyH.cons rfl (fun K hK => ?_) (AllReadyH.cons rfl (fun K hK => ?_) AllReadyH.nil)
          · go_simp
            go_at_call 9
            refine (do_any (M := M) x.kd x.hd x.nm x.tm (HL.out.below (HST.out.bel.trans (hb1.mono HST.out.bel.size))) (HST.out.below hb1).ge_ HOK.out (by have := HL12.out; omega) HLM.out (HST.out.below hb1).at_ HST.out.own (by have := HST.out.hl; have := HI.out; omega) (by have := HST.out.bl; have := HI.out; omega) (hrl.below (HST.out.bel.trans (hb1.mono HST.out.bel.size))) HXB.out.2.1.2 HXB.out.2.2.1.2 ⟨HXB.out.2.2.2.1, HXB.out.2.2.2.2⟩).mono ?_
            rintro e wd hq
            obtain ⟨R, b1, k1, d1, b2, k2, d2, b3, k3, d3, rfl, hres, s1, s2, s3, hcb⟩ := hq
            have hbd := hb1.trans (hcb.mono hb1.size)
            try go_wp2_with fail
            refine hK.out _ _ ?_ (fun hHeld => ?_)
            · ((try dsimp only); exact ⟨(hbd.cell (p := ⟨w.heap.size + 1, 0, none⟩) (Lib.lt_of_cell y0)).trans y0, (hbd.cell (p := ⟨w.heap.size + 1, 1, none⟩) (Lib.lt_of_cell y1)).trans y1, (hbd.cell (p := ⟨w.heap.size, 0, none⟩) (Lib.lt_of_cell g0)).trans g0, (hbd.cell (p := ⟨w.heap.size, 1, none⟩) (Lib.lt_of_cell g1)).trans g1, (hbd.cell (p := ⟨w.heap.size, 2, none⟩) (Lib.lt_of_cell g2)).trans g2, (hbd.cell (p := ⟨ob, off + i * 5, none⟩) (Lib.lt_of_cell q0)).trans q0, (hbd.cell (p := ⟨ob, off + i * 5 + 1, none⟩) (Lib.lt_of_cell q1)).trans q1, (hbd.cell (p := ⟨ob, off + i * 5 + 2, none⟩) (Lib.lt_of_cell q2)).trans q2, (hbd.cell (p := ⟨ob, off + i * 5 + 3, none⟩) (Lib.lt_of_cell q3)).trans q3, (hbd.cell (p := ⟨ob, off + i * 5 + 4, none⟩) (Lib.lt_of_cell q4)).trans q4⟩)
            clear hK K
            try simp only [Act.put, List.setIfInBounds_toArray, List.set_cons_zero, List.set_cons_succ, List.getElem_toArray, List.getElem_cons_zero, List.getElem_cons_succ]
            refine wpAnyH_take (i := 7) (v := ?_) rfl (by kernel_rfl) (by kernel_rfl) (by kernel_rfl) (fun _ _ _ h => h) (Or.inl ⟨by rfl, ?_⟩) (by assumption) ?_
            rotate_left 1
            · (intro w hSw; (try dsimp only at hSw); first | (go_simp; done) | (go_simp; with_reducible rfl))
            try simp only [Act.put, List.setIfInBounds_toArray, List.set_cons_zero, List.set_cons_succ, List.getElem_toArray, List.getElem_cons_zero, List.getElem_cons_succ]
            refine wpAnyH_take (i := 8) (v := ?_) rfl (by kernel_rfl) (by kernel_rfl) (by kernel_rfl) (fun _ _ _ h => h) (Or.inl ⟨by rfl, ?_⟩) (by assumption) ?_
            rotate_left 1
            · (intro w hSw; (try dsimp only at hSw); first | (go_simp; done) | (go_simp; with_reducible rfl))
            try simp only [Act.put, List.setIfInBounds_toArray, List.set_cons_zero, List.set_cons_succ, List.getElem_toArray, List.getElem_cons_zero, List.getElem_cons_succ]
            refine wpAnyH_take (i := 9) (v := ?_) rfl (by kernel_rfl) (by kernel_rfl) (by kernel_rfl) (fun _ _ _ h => h) (Or.inl ⟨by rfl, ?_⟩) (by assumption) ?_
            rotate_left 1
            · (intro w hSw; (try dsimp only at hSw); first | (go_simp; done) | (go_simp; with_reducible rfl))
            try simp only [Act.put, List.setIfInBounds_toArray, List.set_cons_zero, List.set_cons_succ, List.getElem_toArray, List.getElem_cons_zero, List.getElem_cons_succ]
            refine wpAnyH_take (i := 10) (v := ?_) rfl (by kernel_rfl) (by kernel_rfl) (by kernel_rfl) (fun _ _ _ h => h) (Or.inl ⟨by rfl, ?_⟩) (by assumption) ?_
            rotate_left 1
            · (intro w hSw; (try dsimp only at hSw); first | (go_simp; done) | (go_simp; with_reducible rfl))
            try simp only [Act.put, List.setIfInBounds_toArray, List.set_cons_zero, List.set_cons_succ, List.getElem_toArray, List.getElem_cons_zero, List.getElem_cons_succ]
            refine wpAnyH_ready (rs := [11]) (by kernel_rfl) (by simp) ?_
            refine AllReadyH.cons rfl (fun K hK => ?_) AllReadyH.nil
            go_simp
            try go_wp2_with fail
            refine hK.out _ _ ?_ (fun hHeld => ?_)
            · ((try dsimp only); exact ⟨((hbd.alloc hbd.size _).cell (p := ⟨w.heap.size + 1, 0, none⟩) (Lib.lt_of_cell y0)).trans y0, ((hbd.alloc hbd.size _).cell (p := ⟨w.heap.size + 1, 1, none⟩) (Lib.lt_of_cell y1)).trans y1, ((hbd.alloc hbd.size _).cell (p := ⟨w.heap.size, 0, none⟩) (Lib.lt_of_cell g0)).trans g0, ((hbd.alloc hbd.size _).cell (p := ⟨w.heap.size, 1, none⟩) (Lib.lt_of_cell g1)).trans g1, ((hbd.alloc hbd.size _).cell (p := ⟨w.heap.size, 2, none⟩) (Lib.lt_of_cell g2)).trans g2, ((hbd.alloc hbd.size _).cell (p := ⟨ob, off + i * 5, none⟩) (Lib.lt_of_cell q0)).trans q0, ((hbd.alloc hbd.size _).cell (p := ⟨ob, off + i * 5 + 1, none⟩) (Lib.lt_of_cell q1)).trans q1, ((hbd.alloc hbd.size _).cell (p := ⟨ob, off + i * 5 + 2, none⟩) (Lib.lt_of_cell q2)).trans q2, ((hbd.alloc hbd.size _).cell (p := ⟨ob, off + i * 5 + 3, none⟩) (Lib.lt_of_cell q3)).trans q3, ((hbd.alloc hbd.size _).cell (p := ⟨ob, off + i * 5 + 4, none⟩) (Lib.lt_of_cell q4)).trans q4⟩)
            clear hK K
            try simp only [Act.put, List.setIfInBounds_toArray, List.set_cons_zero, List.set_cons_succ, List.getElem_toArray, List.getElem_cons_zero, List.getElem_cons_succ]
            refine wpAnyH_ready (rs := [12]) (by kernel_rfl) (by simp) ?_
            refine AllReadyH.cons rfl (fun K hK => ?_) AllReadyH.nil
            go_simp
            try go_wp2_with fail
            refine hK.out _ _ ?_ (fun hHeld => ?_)
            · ((try dsimp only); exact ⟨((hbd.alloc hbd.size _).cell (p := ⟨w.heap.size + 1, 0, none⟩) (Lib.lt_of_cell y0)).trans y0, ((hbd.alloc hbd.size _).cell (p := ⟨w.heap.size + 1, 1, none⟩) (Lib.lt_of_cell y1)).trans y1, ((hbd.alloc hbd.size _).cell (p := ⟨w.heap.size, 0, none⟩) (Lib.lt_of_cell g0)).trans g0, ((hbd.alloc hbd.size _).cell (p := ⟨w.heap.size, 1, none⟩) (Lib.lt_of_cell g1)).trans g1, ((hbd.alloc hbd.size _).cell (p := ⟨w.heap.size, 2, none⟩) (Lib.lt_of_cell g2)).trans g2, ((hbd.alloc hbd.size _).cell (p := ⟨ob, off + i * 5, none⟩) (Lib.lt_of_cell q0)).trans q0, ((hbd.alloc hbd.size _).cell (p := ⟨ob, off + i * 5 + 1, none⟩) (Lib.lt_of_cell q1)).trans q1, ((hbd.alloc hbd.size _).cell (p := ⟨ob, off + i * 5 + 2, none⟩) (Lib.lt_of_cell q2)).trans q2, ((hbd.alloc hbd.size _).cell (p := ⟨ob, off + i * 5 + 3, none⟩) (Lib.lt_of_cell q3)).trans q3, ((hbd.alloc hbd.size _).cell (p := ⟨ob, off + i * 5 + 4, none⟩) (Lib.lt_of_cell q4)).trans q4⟩)
            clear hK K
            try simp only [Act.put, List.setIfInBounds_toArray, List.set_cons_zero, List.set_cons_succ, List.getElem_toArray, List.getElem_cons_zero, List.getElem_cons_succ]
            refine wpAnyH_take (i := 13) (v := ?_) rfl (by kernel_rfl) (by kernel_rfl) (by kernel_rfl) (fun _ _ _ h => h) (Or.inl ⟨by rfl, ?_⟩) (by assumption) ?_
            rotate_left 1
            · (intro w hSw; (try dsimp only at hSw); first | (go_simp; done) | (go_simp; with_reducible rfl))
            try simp only [Act.put, List.setIfInBounds_toArray, List.set_cons_zero, List.set_cons_succ, List.getElem_toArray, List.getElem_cons_zero, List.getElem_cons_succ]
            refine wpAnyH_take (i := 14) (v := ?_) rfl (by kernel_rfl) (by kernel_rfl) (by kernel_rfl) (fun _ _ _ h => h) (Or.inl ⟨by rfl, ?_⟩) (by assumption) ?_
            rotate_left 1
            · (intro w hSw; (try dsimp only at hSw); first | (go_simp; done) | (go_simp; with_reducible rfl))
            try simp only [Act.put, List.setIfInBounds_toArray, List.set_cons_zero, List.set_cons_succ, List.getElem_toArray, List.getElem_cons_zero, List.getElem_cons_succ]
            refine wpAnyH_done (by kernel_rfl) ?_ _
            go_wp2_with fail
            go_meet
            have hca : Below wd.heap.size wd (wd.alloc (.cells #[.slice b1 k1 d1, .slice b2 k2 d2] 29)) := (Below.refl _ _).alloc (Nat.le_refl _) _
            exact ⟨R, b1, k1, d1, b2, k2, d2, b3, k3, d3, wd.heap.size, rfl, rfl, rfl, hres, s1.below hca, s2.below hca, s3.below hca, heap_alloc_new wd _, Nat.lt_of_lt_of_le (Array.getElem?_eq_some_iff.1 HST.out.hy).1 hbd.size, hbd.alloc hbd.size _⟩
          · have hb2 : Below wr.heap.size wr (wr.drew.alloc (.cells #[.slice none 0 0, .slice none 0 0] 29)) := hb1.alloc hb1.size _
            go_simp
            try go_wp2_with fail
            refine hK.out _ _ ?_ (fun hHeld => ?_)
            · ((try dsimp only); exact ⟨(hb2.cell (p := ⟨w.heap.size + 1, 0, none⟩) (Lib.lt_of_cell y0)).trans y0, (hb2.cell (p := ⟨w.heap.size + 1, 1, none⟩) (Lib.lt_of_cell y1)).trans y1, (hb2.cell (p := ⟨w.heap.size, 0, none⟩) (Lib.lt_of_cell g0)).trans g0, (hb2.cell (p := ⟨w.heap.size, 1, none⟩) (Lib.lt_of_cell g1)).trans g1, (hb2.cell (p := ⟨w.heap.size, 2, none⟩) (Lib.lt_of_cell g2)).trans g2, (hb2.cell (p := ⟨ob, off + i * 5, none⟩) (Lib.lt_of_cell q0)).trans q0, (hb2.cell (p := ⟨ob, off + i * 5 + 1, none⟩) (Lib.lt_of_cell q1)).trans q1, (hb2.cell (p := ⟨ob, off + i * 5 + 2, none⟩) (Lib.lt_of_cell q2)).trans q2, (hb2.cell (p := ⟨ob, off + i * 5 + 3, none⟩) (Lib.lt_of_cell q3)).trans q3, (hb2.cell (p := ⟨ob, off + i * 5 + 4, none⟩) (Lib.lt_of_cell q4)).trans q4⟩)
            clear hK K
            try simp only [Act.put, List.setIfInBounds_toArray, List.set_cons_zero, List.set_cons_succ, List.getElem_toArray, List.getElem_cons_zero, List.getElem_cons_succ]
            refine wpAnyH_ready (rs := [6]) (by kernel_rfl) (by simp) ?_
            refine AllReadyH.cons rfl (fun K hK => ?_) AllReadyH.nil
            go_simp
            go_at_call 9
            refine (do_any (M := M) x.kd x.hd x.nm x.tm (HL.out.below (HST.out.bel.trans (hb2.mono HST.out.bel.size))) (HST.out.below hb2).ge_ HOK.out (by have := HL12.out; omega) HLM.out (HST.out.below hb2).at_ HST.out.own (by have := HST.out.hl; have := HI.out; omega) (by have := HST.out.bl; have := HI.out; omega) (hrl.below (HST.out.bel.trans (hb2.mono HST.out.bel.size))) HXB.out.2.1.2 HXB.out.2.2.1.2 ⟨HXB.out.2.2.2.1, HXB.out.2.2.2.2⟩).mono ?_
            rintro e wd hq
            obtain ⟨R, b1, k1, d1, b2, k2, d2, b3, k3, d3, rfl, hres, s1, s2, s3, hcb⟩ := hq
            have hbd := hb2.trans (hcb.mono hb2.size)
            try go_wp2_with fail
            refine hK.out _ _ ?_ (fun hHeld => ?_)
            · ((try dsimp only); exact ⟨(hbd.cell (p := ⟨w.heap.size + 1, 0, none⟩) (Lib.lt_of_cell y0)).trans y0, (hbd.cell (p := ⟨w.heap.size + 1, 1, none⟩) (Lib.lt_of_cell y1)).trans y1, (hbd.cell (p := ⟨w.heap.size, 0, none⟩) (Lib.lt_of_cell g0)).trans g0, (hbd.cell (p := ⟨w.heap.size, 1, none⟩) (Lib.lt_of_cell g1)).trans g1, (hbd.cell (p := ⟨w.heap.size, 2, none⟩) (Lib.lt_of_cell g2)).trans g2, (hbd.cell (p := ⟨ob, off + i * 5, none⟩) (Lib.lt_of_cell q0)).trans q0, (hbd.cell (p := ⟨ob, off + i * 5 + 1, none⟩) (Lib.lt_of_cell q1)).trans q1, (hbd.cell (p := ⟨ob, off + i * 5 + 2, none⟩) (Lib.lt_of_cell q2)).trans q2, (hbd.cell (p := ⟨ob, off + i * 5 + 3, none⟩) (Lib.lt_of_cell q3)).trans q3, (hbd.cell (p := ⟨ob, off + i * 5 + 4, none⟩) (Lib.lt_of_cell q4)).trans q4⟩)
            clear hK K
            try simp only [Act.put, List.setIfInBounds_toArray, List.set_cons_zero, List.set_cons_succ, List.getElem_toArray, List.getElem_cons_zero, List.getElem_cons_succ]
            refine wpAnyH_take (i := 7) (v := ?_) rfl (by kernel_rfl) (by kernel_rfl) (by kernel_rfl) (fun _ _ _ h => h) (Or.inl ⟨by rfl, ?_⟩) (by assumption) ?_
            rotate_left 1
            · (intro w hSw; (try dsimp only at hSw); first | (go_simp; done) | (go_simp; with_reducible rfl))
            try simp only [Act.put, List.setIfInBounds_toArray, List.set_cons_zero, List.set_cons_succ, List.getElem_toArray, List.getElem_cons_zero, List.getElem_cons_succ]
            refine wpAnyH_take (i := 8) (v := ?_) rfl (by kernel_rfl) (by kernel_rfl) (by kernel_rfl) (fun _ _ _ h => h) (Or.inl ⟨by rfl, ?_⟩) (by assumption) ?_
            rotate_left 1
            · (intro w hSw; (try dsimp only at hSw); first | (go_simp; done) | (go_simp; with_reducible rfl))
            try simp only [Act.put, List.setIfInBounds_toArray, List.set_cons_zero, List.set_cons_succ, List.getElem_toArray, List.getElem_cons_zero, List.getElem_cons_succ]
            refine wpAnyH_take (i := 9) (v := ?_) rfl (by kernel_rfl) (by kernel_rfl) (by kernel_rfl) (fun _ _ _ h => h) (Or.inl ⟨by rfl, ?_⟩) (by assumption) ?_
            rotate_left 1
            · (intro w hSw; (try dsimp only at hSw); first | (go_simp; done) | (go_simp; with_reducible rfl))
            try simp only [Act.put, List.setIfInBounds_toArray, List.set_cons_zero, List.set_cons_succ, List.getElem_toArray, List.getElem_cons_zero, List.getElem_cons_succ]
            refine wpAnyH_take (i := 10) (v := ?_) rfl (by kernel_rfl) (by kernel_rfl) (by kernel_rfl) (fun _ _ _ h => h) (Or.inl ⟨by rfl, ?_⟩) (by assumption) ?_
            rotate_left 1
            · (intro w hSw; (try dsimp only at hSw); first | (go_simp; done) | (go_simp; with_reducible rfl))
            try simp only [Act.put, List.setIfInBounds_toArray, List.set_cons_zero, List.set_cons_succ, List.getElem_toArray, List.getElem_cons_zero, List.getElem_cons_succ]
            have hnq := (hcb.block wr.heap.size (by simp)).trans (heap_alloc_new wr.drew (.cells #[.slice none 0 0, .slice none 0 0] 29))
            obtain ⟨z0, z1, zf⟩ := pair_cells hnq
            have zf0 := zf 0
            have zf1 := zf 1
            clear zf
            refine wpAnyH_ready (rs := [12]) (by kernel_rfl) (by simp) ?_
            refine AllReadyH.cons rfl (fun K hK => ?_) AllReadyH.nil
            go_simp
            try go_wp2_with fail
            refine hK.out _ _ ?_ (fun hHeld => ?_)
            · ((try dsimp only); exact ⟨(((hbd.setCell (p := ⟨wr.heap.size, 0, none⟩) (Nat.le_refl _) _).setCell (p := ⟨wr.heap.size, 1, none⟩) (Nat.le_refl _) _).cell (p := ⟨w.heap.size + 1, 0, none⟩) (Lib.lt_of_cell y0)).trans y0, (((hbd.setCell (p := ⟨wr.heap.size, 0, none⟩) (Nat.le_refl _) _).setCell (p := ⟨wr.heap.size, 1, none⟩) (Nat.le_refl _) _).cell (p := ⟨w.heap.size + 1, 1, none⟩) (Lib.lt_of_cell y1)).trans y1, (((hbd.setCell (p := ⟨wr.heap.size, 0, none⟩) (Nat.le_refl _) _).setCell (p := ⟨wr.heap.size, 1, none⟩) (Nat.le_refl _) _).cell (p := ⟨w.heap.size, 0, none⟩) (Lib.lt_of_cell g0)).trans g0, (((hbd.setCell (p := ⟨wr.heap.size, 0, none⟩) (Nat.le_refl _) _).setCell (p := ⟨wr.heap.size, 1, none⟩) (Nat.le_refl _) _).cell (p := ⟨w.heap.size, 1, none⟩) (Lib.lt_of_cell g1)).trans g1, (((hbd.setCell (p := ⟨wr.heap.size, 0, none⟩) (Nat.le_refl _) _).setCell (p := ⟨wr.heap.size, 1, none⟩) (Nat.le_refl _) _).cell (p := ⟨w.heap.size, 2, none⟩) (Lib.lt_of_cell g2)).trans g2, (((hbd.setCell (p := ⟨wr.heap.size, 0, none⟩) (Nat.le_refl _) _).setCell (p := ⟨wr.heap.size, 1, none⟩) (Nat.le_refl _) _).cell (p := ⟨ob, off + i * 5, none⟩) (Lib.lt_of_cell q0)).trans q0, (((hbd.setCell (p := ⟨wr.heap.size, 0, none⟩) (Nat.le_refl _) _).setCell (p := ⟨wr.heap.size, 1, none⟩) (Nat.le_refl _) _).cell (p := ⟨ob, off + i * 5 + 1, none⟩) (Lib.lt_of_cell q1)).trans q1, (((hbd.setCell (p := ⟨wr.heap.size, 0, none⟩) (Nat.le_refl _) _).setCell (p := ⟨wr.heap.size, 1, none⟩) (Nat.le_refl _) _).cell (p := ⟨ob, off + i * 5 + 2, none⟩) (Lib.lt_of_cell q2)).trans q2, (((hbd.setCell (p := ⟨wr.heap.size, 0, none⟩) (Nat.le_refl _) _).setCell (p := ⟨wr.heap.size, 1, none⟩) (Nat.le_refl _) _).cell (p := ⟨ob, off + i * 5 + 3, none⟩) (Lib.lt_of_cell q3)).trans q3, (((hbd.setCell (p := ⟨wr.heap.size, 0, none⟩) (Nat.le_refl _) _).setCell (p := ⟨wr.heap.size, 1, none⟩) (Nat.le_refl _) _).cell (p := ⟨ob, off + i * 5 + 4, none⟩) (Lib.lt_of_cell q4)).trans q4⟩)
            clear hK K
            try simp only [Act.put, List.setIfInBounds_toArray, List.set_cons_zero, List.set_cons_succ, List.getElem_toArray, List.getElem_cons_zero, List.getElem_cons_succ]
            refine wpAnyH_take (i := 13) (v := ?_) rfl (by kernel_rfl) (by kernel_rfl) (by kernel_rfl) (fun _ _ _ h => h) (Or.inl ⟨by rfl, ?_⟩) (by assumption) ?_
            rotate_left 1
            · (intro w hSw; (try dsimp only at hSw); first | (go_simp; done) | (go_simp; with_reducible rfl))
            try simp only [Act.put, List.setIfInBounds_toArray, List.set_cons_zero, List.set_cons_succ, List.getElem_toArray, List.getElem_cons_zero, List.getElem_cons_succ]
            refine wpAnyH_take (i := 14) (v := ?_) rfl (by kernel_rfl) (by kernel_rfl) (by kernel_rfl) (fun _ _ _ h => h) (Or.inl ⟨by rfl, ?_⟩) (by assumption) ?_
            rotate_left 1
            · (intro w hSw; (try dsimp only at hSw); first | (go_simp; done) | (go_simp; with_reducible rfl))
            try simp only [Act.put, List.setIfInBounds_toArray, List.set_cons_zero, List.set_cons_succ, List.getElem_toArray, List.getElem_cons_zero, List.getElem_cons_succ]
            refine wpAnyH_done (by kernel_rfl) ?_ _
            go_wp2_with fail
            go_meet
            have hkp := Keeps.set2 (b1 := b1) (k1 := k1) (d1 := d1) (b2 := b2) (k2 := k2) (d2 := d2) hnq
            exact ⟨R, b1, k1, d1, b2, k2, d2, b3, k3, d3, wr.heap.size, rfl, rfl, rfl, hres, hkp.sl s1, hkp.bsl s2, hkp.bsl s3, set2 hnq, (Array.getElem?_eq_some_iff.1 HST.out.hy).1, (hbd.setCell (p := ⟨wr.heap.size, 0, none⟩) (Nat.le_refl _) _).setCell (p := ⟨wr.heap.size, 1, none⟩) (Nat.le_refl _) _⟩
        case rest =>
          obtain ⟨R, b1, k1, d1, b2, k2, d2, b3, k3, d3, bq, rfl, rfl, rfl, hres, s1, s2, s3, hq, hbq, hb⟩ := hcut
          refine ‹∀ (a : Act) (w : World), Code.wp _ _ _ a w → _› _ _ ?_
          obtain ⟨gk_0, hgk0⟩ : ∃ z, z = gk := ⟨_, rfl⟩
          have HST1 := Lib.hid (HST.out.below hb)
          have HMT1 := Lib.hid (HMT.out.below hb)
          obtain ⟨z0, z1, _⟩ := pair_cells hq
          obtain ⟨y0, y1, _⟩ := pair_cells HST1.out.hy
          have HOR := Lib.hid hres.own
          have HRS := Lib.hid hres
          have HQ := Lib.hid hq
          have HS1 := Lib.hid (And.intro s1 (And.intro s2 s3))
          have HLR := Lib.hid (show (R.hs.length ≤ 100 ∧ R.bs.length ≤ 1000) ∧ H.length ≤ 100 ∧ B.length ≤ 1000 ∧ R.ch.length ≤ 20 from ⟨⟨by have := hres.hl; have := HST.out.hl; have := HI.out; omega, by have := hres.bl; have := HST.out.bl; have := HI.out; omega⟩, by have := HST.out.hl; have := HI.out; omega, by have := HST.out.bl; have := HI.out; omega, hres.chg.len⟩)
          have HBQ := Lib.hid hbq
          have HOS := Lib.hid HST1.out.own
          clear hres hq s1 s2 s3 hb hbq
          go_upto_region 12 with fail
          refine wp_region_held_drew (S := (fun w' => w'.cell? ⟨w.heap.size + 1, 0, none⟩ = some (.slice a1 n1 c1) ∧ w'.cell? ⟨w.heap.size + 1, 1, none⟩ = some (.slice a2 n2 c2) ∧ w'.cell? ⟨bq, 0, none⟩ = some (.slice b1 k1 d1) ∧ w'.cell? ⟨bq, 1, none⟩ = some (.slice b2 k2 d2))) (by kernel_rfl) ?_ (fun hHeld => ?_)
          · ((try dsimp only); exact ⟨y0, y1, z0, z1⟩)
          have hbd := below_drewN (Below.refl wc.heap.size wc) 1
          refine wpAnyH_take (i := 0) (v := ?_) rfl (by kernel_rfl) (by kernel_rfl) (by kernel_rfl) (fun _ _ _ h => h) (Or.inl ⟨by rfl, ?_⟩) (by assumption) ?_
          rotate_left 1
          · (intro w hSw; (try dsimp only at hSw); first | (go_simp; done) | (go_simp; with_reducible rfl))
          try simp only [Act.put, List.setIfInBounds_toArray, List.set_cons_zero, List.set_cons_succ, List.getElem_toArray, List.getElem_cons_zero]
          refine wpAnyH_take (i := 3) (v := ?_) rfl (by kernel_rfl) (by kernel_rfl) (by kernel_rfl) (fun _ _ _ h => h) (Or.inl ⟨by rfl, ?_⟩) (by assumption) ?_
          rotate_left 1
          · (intro w hSw; (try dsimp only at hSw); first | (go_simp; done) | (go_simp; with_reducible rfl))
          try simp only [Act.put, List.setIfInBounds_toArray, List.set_cons_zero, List.set_cons_succ, List.getElem_toArray, List.getElem_cons_zero, List.getElem_cons_succ]
          refine wpAnyH_ready (rs := [1]) (by kernel_rfl) (by simp) ?_
          refine AllReadyH.cons rfl (fun K hK => ?_) AllReadyH.nil
          go_simp
          go_at_call 11
          refine (ownto_any (HST1.out.at_.hands.below hbd).rd (HST1.out.at_.held.below hbd).rd (by have := HLR.out; omega) (by have := HLR.out; omega)).mono ?_
          rintro e wn ⟨vh2, vb2, rfl, hoh, hob, hcb⟩
          replace hbd := hbd.trans (hcb.mono hbd.size)
          have t1 := hoh.sl HOS.out.wfH
          have t2 := hob.sl HOS.out.wfB
          clear hoh hob
          clear hcb
          try go_wp2_with fail
          refine hK.out _ _ ?_ (fun hHeld => ?_)
          · ((try dsimp only); exact ⟨(hbd.cell (p := ⟨w.heap.size + 1, 0, none⟩) (Lib.lt_of_cell y0)).trans y0, (hbd.cell (p := ⟨w.heap.size + 1, 1, none⟩) (Lib.lt_of_cell y1)).trans y1, (hbd.cell (p := ⟨bq, 0, none⟩) (Lib.lt_of_cell z0)).trans z0, (hbd.cell (p := ⟨bq, 1, none⟩) (Lib.lt_of_cell z1)).trans z1⟩)
          clear hK K
          try simp only [Act.put, List.setIfInBounds_toArray, List.set_cons_zero, List.set_cons_succ, List.getElem_toArray, List.getElem_cons_zero, List.getElem_cons_succ]
          refine wpAnyH_ready (rs := [2]) (by kernel_rfl) (by simp) ?_
          refine AllReadyH.cons rfl (fun K hK => ?_) AllReadyH.nil
          go_simp
          go_at_call 15
          refine (all_any t1 t2 (by have := HLR.out; omega) (by have := HLR.out; omega)).mono ?_
          rintro e wn ⟨v12, rfl, hov, hcb⟩
          replace hbd := hbd.trans (hcb.mono hbd.size)
          have t3 := hov.sl (all_wf HOS.out.wfH HOS.out.wfB)
          clear hov t1 t2
          clear hcb
          try go_wp2_with fail
          refine hK.out _ _ ?_ (fun hHeld => ?_)
          · ((try dsimp only); exact ⟨(hbd.cell (p := ⟨w.heap.size + 1, 0, none⟩) (Lib.lt_of_cell y0)).trans y0, (hbd.cell (p := ⟨w.heap.size + 1, 1, none⟩) (Lib.lt_of_cell y1)).trans y1, (hbd.cell (p := ⟨bq, 0, none⟩) (Lib.lt_of_cell z0)).trans z0, (hbd.cell (p := ⟨bq, 1, none⟩) (Lib.lt_of_cell z1)).trans z1⟩)
          clear hK K
          try simp only [Act.put, List.setIfInBounds_toArray, List.set_cons_zero, List.set_cons_succ, List.getElem_toArray, List.getElem_cons_zero, List.getElem_cons_succ]
          refine wpAnyH_ready (rs := [4]) (by kernel_rfl) (by simp) ?_
          refine AllReadyH.cons rfl (fun K hK => ?_) AllReadyH.nil
          go_simp
          go_at_call 11
          refine (ownto_any (HS1.out.1.below hbd).rd (HS1.out.2.1.below hbd).rd (by have := HLR.out; omega) (by have := HLR.out; omega)).mono ?_
          rintro e wn ⟨vh2, vb2, rfl, hoh, hob, hcb⟩
          replace hbd := hbd.trans (hcb.mono hbd.size)
          have t1 := hoh.sl HOR.out.wfH
          have t2 := hob.sl HOR.out.wfB
          replace t3 := t3.below hcb
          clear hoh hob
          clear hcb
          try go_wp2_with fail
          refine hK.out _ _ ?_ (fun hHeld => ?_)
          · ((try dsimp only); exact ⟨(hbd.cell (p := ⟨w.heap.size + 1, 0, none⟩) (Lib.lt_of_cell y0)).trans y0, (hbd.cell (p := ⟨w.heap.size + 1, 1, none⟩) (Lib.lt_of_cell y1)).trans y1, (hbd.cell (p := ⟨bq, 0, none⟩) (Lib.lt_of_cell z0)).trans z0, (hbd.cell (p := ⟨bq, 1, none⟩) (Lib.lt_of_cell z1)).trans z1⟩)
          clear hK K
          try simp only [Act.put, List.setIfInBounds_toArray, List.set_cons_zero, List.set_cons_succ, List.getElem_toArray, List.getElem_cons_zero, List.getElem_cons_succ]
          refine wpAnyH_ready (rs := [5]) (by kernel_rfl) (by simp) ?_
          refine AllReadyH.cons rfl (fun K hK => ?_) AllReadyH.nil
          go_simp
          go_at_call 15
          refine (all_any t1 t2 (by have := HLR.out; omega) (by have := HLR.out; omega)).mono ?_
          rintro e wn ⟨v13, rfl, hov, hcb⟩
          replace hbd := hbd.trans (hcb.mono hbd.size)
          have t4 := hov.sl (all_wf HOR.out.wfH HOR.out.wfB)
          replace t3 := t3.below hcb
          clear hov t1 t2
          clear hcb
          try go_wp2_with fail
          refine hK.out _ _ ?_ (fun hHeld => ?_)
          · ((try dsimp only); exact ⟨(hbd.cell (p := ⟨w.heap.size + 1, 0, none⟩) (Lib.lt_of_cell y0)).trans y0, (hbd.cell (p := ⟨w.heap.size + 1, 1, none⟩) (Lib.lt_of_cell y1)).trans y1, (hbd.cell (p := ⟨bq, 0, none⟩) (Lib.lt_of_cell z0)).trans z0, (hbd.cell (p := ⟨bq, 1, none⟩) (Lib.lt_of_cell z1)).trans z1⟩)
          clear hK K
          try simp only [Act.put, List.setIfInBounds_toArray, List.set_cons_zero, List.set_cons_succ, List.getElem_toArray, List.getElem_cons_zero, List.getElem_cons_succ]
          refine wpAnyH_take (i := 6) (v := ?_) rfl (by kernel_rfl) (by kernel_rfl) (by kernel_rfl) (fun _ _ _ h => h) (Or.inl ⟨by rfl, ?_⟩) (by assumption) ?_
          rotate_left 1
          · (intro w hSw; (try dsimp only at hSw); first | (go_simp; done) | (go_simp; with_reducible rfl))
          try simp only [Act.put, List.setIfInBounds_toArray, List.set_cons_zero, List.set_cons_succ, List.getElem_toArray, List.getElem_cons_zero, List.getElem_cons_succ]
          refine wpAnyH_take (i := 7) (v := ?_) rfl (by kernel_rfl) (by kernel_rfl) (by kernel_rfl) (fun _ _ _ h => h) (Or.inl ⟨by rfl, ?_⟩) (by assumption) ?_
          rotate_left 1
          · (intro w hSw; (try dsimp only at hSw); first | (go_simp; done) | (go_simp; with_reducible rfl))
          try simp only [Act.put, List.setIfInBounds_toArray, List.set_cons_zero, List.set_cons_succ, List.getElem_toArray, List.getElem_cons_zero, List.getElem_cons_succ]
          refine wpAnyH_done (by kernel_rfl) ?_ _
          have hl1 : (allL H B).length ≤ 2000 := Nat.le_trans all_length (by have := HLR.out; omega)
          have hl2 : (allL R.hs R.bs).length ≤ 2000 := Nat.le_trans all_length (by have := HLR.out; omega)
          have HCH := Lib.hid (HRS.out.chg.apply HOS.out HOR.out (by have := HLR.out; omega) (by have := HLR.out; omega))
          have HFT := Lib.hid (fun p x y (hp : p < m) hx hy => HRS.out.chg.front (p := p) (x := x) (y := y) HMM.out hp HOS.out HOR.out hx hy)
          have HRT := Lib.hid (HOS.out.bag HM6.out.2 (by have := HLR.out; omega)).right
          have hr1 := all_rise HOS.out.wfH HOS.out.wfB
          have hr2 := all_rise HOR.out.wfH HOR.out.wfB
          clear y0 y1 z0 z1
          obtain ⟨a12, k12, e12⟩ : ∃ a c, v12 = .slice a (allL H B).length c := by obtain ⟨a, c, e, _⟩ := t3; exact ⟨a, c, e⟩
          obtain ⟨a13, k13, e13⟩ : ∃ a c, v13 = .slice a (allL R.hs R.bs).length c := by obtain ⟨a, c, e, _⟩ := t4; exact ⟨a, c, e⟩
          generalize hA1 : allL H B = A1 at t3 hl1 HCH HFT HRT hr1 e12
          generalize hA2 : allL R.hs R.bs = A2 at t4 hl2 HCH HFT hr2 e13
          clear hA1 hA2
          subst e12 e13
          go_wp2_with fail
          go_at_call 16
          refine (Fr.of_any ((HMT1.out.below hbd).base (Nat.zero_le _)) (Fr.m_bd HLS.out) t3 hr1 (by omega) HM6.out.1 HM6.out.2).mono ?_
          rintro e wn1 ⟨g1, F1, rfl, _, hrow1, hf1, hcb⟩
          replace hbd := hbd.trans (hcb.mono hbd.size)
          replace t3 := t3.below hcb
          replace t4 := t4.below hcb
          clear hcb
          go_wp2_with fail
          go_at_call 16
          refine (Fr.of_any ((HMT1.out.below hbd).base (Nat.zero_le _)) (Fr.m_bd HLS.out) t4 hr2 (by omega) HM6.out.1 HM6.out.2).mono ?_
          rintro e wn2 ⟨g2, F2, rfl, _, hrow2, hf2, hcb⟩
          replace hbd := hbd.trans (hcb.mono hbd.size)
          replace t3 := t3.below hcb
          replace t4 := t4.below hcb
          replace hrow1 := hrow1.of_block (hcb.block _ hrow1.lt)
          have HRW := Lib.hid (And.intro hrow1 hrow2)
          have HLE := Lib.hid (fun p (hp : p < m) => HFT.out p (F1 p) (F2 p) hp (hf1 p hp) (hf2 p hp))
          have HT3 := Lib.hid (And.intro t3 t4)
          have HBD := Lib.hid hbd
          have HSL := Lib.hid (And.intro hl1 hl2)
          clear hcb t3 t4 hf1 hf2 HFT hrow1 hrow2 hbd hl1 hl2 hr1 hr2
          have hmm : ((m : Int) != (m : Int)) = false := by simp
          obtain ⟨g0, _⟩ := three_cells (HST1.out.below HBD.out).hx
          go_wp2_with fail
          go_loopg [16] m (fun k s16 wq => ∃ p : Nat, p + k = m ∧ s16 = .int .i64 (p : Int) ∧ Hid (Below wn2.heap.size wn2 wq))
          case atStart => exact ⟨0, by omega, rfl, Lib.hid (Below.refl _ _)⟩
          case round =>
            obtain ⟨p, hpk, rfl, HBP⟩ := hrel
            have HPK := Lib.hid hpk
            have hp0 : (0 : Int) ≤ (p : Int) := Int.natCast_nonneg _
            clear hpk g0
            have hbn := HBD.out.trans (HBP.out.mono HBD.out.size)
            obtain ⟨g0, _⟩ := three_cells (HST1.out.below hbn).hx
            by_cases hpm : p < m
            · have hp1 : (p : Int) < (m : Int) := by omega
              have hp64 : (p : Int) < 64 := by have := HM6.out; omega
              have hp2 : decide ((p : Int) < (m : Int)) = true := decide_eq_true hp1
              have HPM := Lib.hid hpm
              have r1 := (HRW.out.1.of_block (HBP.out.block _ HRW.out.1.lt)).cell hpm
              have r2 := (HRW.out.2.of_block (HBP.out.block _ HRW.out.2.lt)).cell hpm
              have hle := HLE.out p hpm
              have hlf : decide (F2 p < F1 p) = false := decide_eq_false (by omega)
              clear hpm hbn hle
              go_wp2_with fail
              go_quiet (fail)
              have HBP2 := Lib.hid (below_drewN HBP.out nq)
              go_wp2_with fail
              go_roundg (gk - 1)
              case measure => have := HPK.out; have := HPM.out; omega
              case rel => exact ⟨p + 1, by have := HPK.out; have := HPM.out; omega, by go_num, HBP2⟩
            · have hp2 : decide ((p : Int) < (m : Int)) = false := decide_eq_false (by omega)
              obtain ⟨s3a, s3c, s3e, _⟩ := HS1.out.2.2
              have HS3 := Lib.hid (HS1.out.2.2.below hbn)
              have HT5 := Lib.hid (And.intro (HT3.out.1.below HBP.out) (HT3.out.2.below HBP.out))
              have HBN := Lib.hid hbn
              clear hbn HRW HLE HT3 HBP
              go_wp2_with fail
              go_at_call 18
              refine (Batch.to_any HS3.out.rd (by have := HLR.out; omega)).mono ?_
              rintro e wn3 ⟨v20, rfl, hov, hcb⟩
              have t5 := hov.sl HRS.out.chg.wf
              replace HT5 := Lib.hid (And.intro (HT5.out.1.below hcb) (HT5.out.2.below hcb))
              replace HBN := Lib.hid (HBN.out.trans (hcb.mono HBN.out.size))
              clear hov hcb
              go_wp2_with fail
              go_at_call 17
              refine (Batch.apply_any HT5.out.1 t5 HRT.out HRS.out.chg.right (by have := HLR.out; have := HSL.out; omega)).mono ?_
              rw [HCH.out.1, HCH.out.2]
              rintro e wn4 ⟨v21, rfl, hov, hcb⟩
              have hA2w : ∀ z ∈ A2, z.Wf := HT5.out.2.wf
              have t6 := hov.sl hA2w
              replace HT5 := Lib.hid (HT5.out.2.below hcb)
              replace HBN := Lib.hid (HBN.out.trans (hcb.mono HBN.out.size))
              clear hov hcb t5 hA2w
              go_wp2_with fail
              go_at_call 19
              refine (Batch.same_any t6 HT5.out).mono ?_
              rw [Batch.eqL_self]
              rintro e wn5 ⟨rfl, nd, hwd⟩
              have hcb : Below wn4.heap.size wn4 wn5 := by rw [hwd]; exact below_drewN (Below.refl _ _) nd
              replace HBN := Lib.hid (HBN.out.trans (hcb.mono HBN.out.size))
              clear hcb hwd t6 HT5 g0
              have HST6 := Lib.hid (HST1.out.below HBN.out)
              have hq6 := (HBN.out.block _ (Array.getElem?_eq_some_iff.1 HQ.out).1).trans HQ.out
              obtain ⟨z0, z1, _⟩ := pair_cells hq6
              obtain ⟨y0, y1, yf⟩ := pair_cells HST6.out.hy
              have yf0 := yf 0
              have yf1 := yf 1
              clear yf
              have hkp := Keeps.set2 (b1 := b1) (k1 := k1) (d1 := d1) (b2 := b2) (k2 := k2) (d2 := d2) HST6.out.hy
              have hs0 := slb_of HST6.out.hy
              have HST7 := Lib.hid (show St w m E1 I1 (.slice aoE E1.length capE) (.slice aoI I1.length capI) (i + 1) R.hs R.bs (.slice b1 k1 d1) (.slice b2 k2 d2) ((wn5.setCell ⟨w.heap.size + 1, 0, none⟩ (.slice b1 k1 d1)).setCell ⟨w.heap.size + 1, 1, none⟩ (.slice b2 k2 d2)) from ⟨HOR.out, by have := HRS.out.hl; have := HST6.out.hl; omega, by have := HRS.out.bl; have := HST6.out.bl; omega, by rw [blk_two (by omega)]; exact HST6.out.hx, set2 HST6.out.hy, ⟨hkp.sl (HS1.out.1.below HBN.out), hkp.bsl (HS1.out.2.1.below HBN.out)⟩, gmem_keeps (slb_set HST6.out.hy) _ _ (gmem_keeps hs0 _ _ HST6.out.ge_), (HST6.out.bel.setCell (p := ⟨w.heap.size + 1, 0, none⟩) (Nat.le_succ _) _).setCell (p := ⟨w.heap.size + 1, 1, none⟩) (Nat.le_succ _) _⟩)
              have HMT7 := Lib.hid (mat_two (P := w.heap.size + 1) (HMT1.out.below HBN.out) HBS.out (.slice b1 k1 d1) (.slice b2 k2 d2))
              clear hkp hs0 hq6
              go_wp2_with fail
              go_roundg (gk_0 - 1)
              case measure => have := HIK.out; have := HI.out; omega
              case rel => exact ⟨i + 1, R.hs, R.bs, b1, k1, d1, b2, k2, d2, by have := HIK.out; have := HI.out; omega, by have := HI.out; omega, by go_num, HST7, HMT7⟩
      · have h41 : decide ((i : Int) < 40) = false := decide_eq_false (by omega)
        go_wp2_with fail
        go_ret
        exact ⟨rfl, HST.out.bel⟩
    · have hlt1 : decide ((i : Int) < (OL.length : Int)) = false := decide_eq_false (by omega)
      go_wp2_with fail
      go_ret
      exact ⟨rfl, HST.out.bel⟩
end Go.Proofs.YtlkljeedlkbkgaaGreatDoor.Cl
