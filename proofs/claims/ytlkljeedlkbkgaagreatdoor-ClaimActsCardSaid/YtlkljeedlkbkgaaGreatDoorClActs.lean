/-
  YtlkljeedlkbkgaaGreatDoorClActs
-/
import Derived.Test.YtlkljeedlkbkgaaGreatDoorJoined23
import Derived.Test.YtlkljeedlkbkgaaGreatDoorClDo
import Derived.Test.YtlkljeedlkbkgaaGreatDoorJoined31
import Derived.Test.YtlkljeedlkbkgaaGreatDoorJoined24
import Derived.Test.YtlkljeedlkbkgaaGreatDoorJoined28
import Derived.Deep.RegionHeldLaw
import Derived.BigQuiet
namespace Go.Proofs.YtlkljeedlkbkgaaGreatDoor.Cl
open Go.RowKit Go.Deep Gr Go.Proofs.YtlkljeedlkbkgaaGreatDoor.Fault
set_option linter.unusedVariables false
set_option linter.unusedSimpArgs false
structure St (w : World) (m : Nat) (E1 : List Ed) (I1 : List Int) (ge gi : Value) (i : Nat) (H : List Ed) (B : List Batch.Ch) (vh vb : Value) (W : World) : Prop where
  own : OwnP m H B
  hl : H.length ≤ 5 + i
  bl : B.length ≤ 12 + 20 * i
  hx : W.heap[w.heap.size]? = some (.cells #[.int .i64 (m : Int), ge, gi] 25 (0, 0))
  hy : W.heap[w.heap.size + 1]? = some (.cells #[vh, vb] 29 (0, 0))
  at_ : OwnAt W vh vb H B
  ge_ : GMemP W ge gi E1 I1
  bel : Below w.heap.size w W
theorem St.below {w W W' : World} {m : Nat} {E1 : List Ed} {I1 : List Int} {ge gi : Value} {i : Nat} {H : List Ed} {B : List Batch.Ch} {vh vb : Value} (h : St w m E1 I1 ge gi i H B vh vb W) (hb : Below W.heap.size W W') : St w m E1 I1 ge gi i H B vh vb W' :=
  ⟨h.own, h.hl, h.bl, (hb.block _ (Array.getElem?_eq_some_iff.1 h.hx).1).trans h.hx, (hb.block _ (Array.getElem?_eq_some_iff.1 h.hy).1).trans h.hy, h.at_.below hb, h.ge_.below hb, h.bel.trans (hb.mono h.bel.size)⟩
theorem gmem_keeps {w : World} {P : Nat} {ve vi : Value} {E : List Ed} {I : List Int} (hs : SlB w P) (j : Nat) (z : Value) (h : GMemP w ve vi E I) : GMemP (w.setCell ⟨P, j, none⟩ z) ve vi E I := by
  obtain ⟨⟨ao, cap, rfl, h1, h2, h3, hc⟩, ⟨aoi, capi, rfl, k1, k2, k3, kc⟩⟩ := h
  refine ⟨⟨ao, cap, rfl, h1, h2, h3, ?_⟩, ⟨aoi, capi, rfl, k1, k2, k3, ?_⟩⟩
  · rcases hc with hc | ⟨b, off, he, hc⟩
    · exact .inl hc
    · refine .inr ⟨b, off, he, fun i x hx => ?_⟩
      obtain ⟨c0, c1, c2⟩ := hc i x hx
      exact ⟨cell_set (by intros; simp) hs c0 j z, cell_set (by intros; simp) hs c1 j z, cell_set (by intros; simp) hs c2 j z⟩
  · rcases kc with kc | ⟨b, off, he, kc⟩
    · exact .inl kc
    · exact .inr ⟨b, off, he, fun i x hx => cell_set (by intros; simp) hs (kc i x hx) j z⟩
def DoB (m : Nat) (M : Nat → Nat → Int) (H : List Ed) (B : List Batch.Ch) (w : World) (s8 s9 s10 : Value) (wr wx : World) : Prop :=
  ∃ (R : Res) (b1 : Option Addr) (k1 d1 : Nat) (b2 : Option Addr) (k2 d2 : Nat) (b3 : Option Addr) (k3 d3 bq : Nat), s8 = .pointer (some ⟨bq, 0, none⟩) ∧ s9 = .slice b3 k3 d3 ∧ s10 = .bool true ∧ ResP m M H B R ∧ Sl wx (.slice b1 k1 d1) R.hs ∧ Batch.Sl wx (.slice b2 k2 d2) R.bs ∧ Batch.Sl wx (.slice b3 k3 d3) R.ch ∧ wx.heap[bq]? = some (.cells #[.slice b1 k1 d1, .slice b2 k2 d2] 29 (0, 0)) ∧ w.heap.size + 1 < bq ∧ Below wr.heap.size wr wx
theorem find_all {H : List Ed} (hr : Rise H) (hl : H.length ≤ 1000) (id : Int) : ∃ (f1 f2 f3 : Int) (bk : Bool), bk = hasB H id ∧ (bk = true → ∃ y, H[idx H id]? = some y ∧ f3 = y.a) ∧ ∀ W vh vb, Sl W vh H → Calls Tryz.prog 10 #[.agg #[vh, vb], .int .i64 id] W fun e w' => e = .returned (.tuple #[.agg #[.int .i64 f1, .int .i64 f2, .int .u64 f3], .bool bk]) ∧ Below W.heap.size W w' := by
  cases hb : hasB H id with
  | true =>
    obtain ⟨y, hy, _, _⟩ := at_has hr hb
    exact ⟨y.f, y.t, y.a, true, rfl, fun _ => ⟨y, hy, rfl⟩, fun W vh vb hv => find_yes id hv hr (by omega) hb hy⟩
  | false => exact ⟨0, 0, 0, false, rfl, (fun h => by cases h), fun W vh vb hv => find_no id hv hr (by omega) hb⟩
def FiB (bk : Bool) (f3 : Int) (s11 s12 : Value) (wr wx : World) : Prop := ∃ bf : Nat, s11 = .pointer (some ⟨bf, 0, none⟩) ∧ s12 = .bool bk ∧ wx.cell? ⟨bf, 2, none⟩ = some (.int .u64 f3) ∧ Below wr.heap.size wr wx
set_option maxRecDepth 1000000 in
set_option maxHeartbeats 32000000 in
theorem clacts_any {w : World} {ve vi vh vb vo : Value} {E : List Ed} {I : List Int} {H0 : List Ed} {B0 : List Batch.Ch} {OL : List OpC} (n : Int) (hL : LV w) (hg : GMemP w ve vi E I) (hh : Rd w vh H0) (hbr : Batch.Rd w vb B0) (hBl : B0.length * 24 ≤ 140737488355328) (ho : RdOC w vo OL) :
    Calls Tryz.prog 3 #[.agg #[.int .i64 n, ve, vi], .agg #[vh, vb], vo] w fun e w' => e = .returned (.bool true) ∧ Below w.heap.size w w' := by
  obtain ⟨w0, hw0⟩ : ∃ w0, w0 = (w.alloc (.cells #[.int .i64 n, ve, vi] 25)).alloc (.cells #[vh, vb] 29) := ⟨_, rfl⟩
  have hb0 : Below w.heap.size w w0 := by rw [hw0]; exact ((Below.refl _ _).alloc (Nat.le_refl _) _).alloc (by simp) _
  have hs0 : w0.heap.size = w.heap.size + 2 := by rw [hw0]; simp
  have hx0 : w0.heap[w.heap.size]? = some (.cells #[.int .i64 n, ve, vi] 25 (0, 0)) := by
    rw [hw0, heap_alloc_old _ _ (by simp)]; exact heap_alloc_new w _
  have hy0 : w0.heap[w.heap.size + 1]? = some (.cells #[vh, vb] 29 (0, 0)) := by
    have h := heap_alloc_new (w.alloc (.cells #[.int .i64 n, ve, vi] 25)) (.cells #[vh, vb] 29)
    rw [hw0]; simpa using h
  have HL := Lib.hid hL
  have HG := Lib.hid (show GMemP w0 ve vi E I from hg.below hb0)
  have HHR := Lib.hid hh
  have HBR := Lib.hid hbr
  have HBL := Lib.hid hBl
  have HOC := Lib.hid ho
  have HX0 := Lib.hid hx0
  have HY0 := Lib.hid hy0
  have HB0 := Lib.hid hb0
  have HS0 := Lib.hid hs0
  clear hL hh hbr hBl ho hb0 hs0 hx0 hy0
  obtain ⟨⟨ao, cap, e1, _⟩, ⟨aoi, capi, e2, _⟩⟩ := And.intro hg.ed hg.inp
  obtain ⟨ah, ch, e3, _⟩ := HHR.out
  obtain ⟨ab, cb, e4, _⟩ := HBR.out
  obtain ⟨ol, cl, e5, hol, _⟩ := HOC.out
  subst e1 e2 e3 e4 e5
  clear hg
  go_enter Tryz.func3, Tryz.ntmps3
  go_wp2_with fail
  go_at_call 6
  rw [← hw0]
  clear hw0
  refine (gfix_any n HG.out).mono ?_
  rintro e w1 ⟨m, ve1, vi1, E1, I1, hm6, hl12, rfl, hgm, hoe, hoi, hok, hb⟩
  obtain ⟨aoE, capE, rfl⟩ := Fr.formE hoe
  obtain ⟨aoI, capI, rfl⟩ := hoi.form
  have HM6 := Lib.hid (show 1 ≤ m ∧ m ≤ 64 from ⟨hok.n0, hok.n1⟩)
  have HL12 := Lib.hid (show E1.length ≤ 12 ∧ I1.length ≤ 8 from ⟨hl12, Fr.inlenF hok⟩)
  have HOK := Lib.hid hok
  have HOE := Lib.hid hoe
  have HOI := Lib.hid hoi
  have HWE := Lib.hid (And.intro hgm.ed.wf hgm.inp.wf)
  have HB1 := Lib.hid hb
  clear hm6 hl12 hgm hoe hoi hok hb HG
  have hb2 : Below (w.heap.size + 2) w0 w1 := HB1.out.mono (by rw [HS0.out]; exact Nat.le_refl _)
  have hx1 := (hb2.block _ (by omega)).trans HX0.out
  have hy1 := (hb2.block _ (by omega)).trans HY0.out
  obtain ⟨y0, y1, y2, yf⟩ := three_cells hx1
  have yf0 := yf 0
  have yf1 := yf 1
  have yf2 := yf 2
  have hr1 := heap_setCell_same w1 w.heap.size 0 _ _ (.int .i64 (m : Int)) hx1
  have hr2 := heap_setCell_same _ w.heap.size 1 _ _ (.slice aoE E1.length capE) hr1
  have hr3 := heap_setCell_same _ w.heap.size 2 _ _ (.slice aoI I1.length capI) hr2
  have hbe := World.ownsRow.lt HOE.out
  have hbi := World.ownsRow.lt HOI.out
  rw [HS0.out] at hbe hbi
  obtain ⟨w2, hw2⟩ : ∃ w2, w2 = ((w1.setCell ⟨w.heap.size, 0, none⟩ (.int .i64 (m : Int))).setCell ⟨w.heap.size, 1, none⟩ (.slice aoE E1.length capE)).setCell ⟨w.heap.size, 2, none⟩ (.slice aoI I1.length capI) := ⟨_, rfl⟩
  have hoe2 : Own w2 (w0.heap.size + 3) 76 (.slice aoE E1.length capE) E1 := by
    rw [hw2]
    exact ownsRow_setCell_other (ownsRow_setCell_other (ownsRow_setCell_other HOE.out (fun e => by have h := (hbe _ e).1; (try dsimp only at h); omega) _) (fun e => by have h := (hbe _ e).1; (try dsimp only at h); omega) _) (fun e => by have h := (hbe _ e).1; (try dsimp only at h); omega) _
  have hoi2 : OwnI w2 (w0.heap.size + 3) 3 (.slice aoI I1.length capI) I1 := by
    rw [hw2]
    exact ownsRow_setCell_other (ownsRow_setCell_other (ownsRow_setCell_other HOI.out (fun e => by have h := (hbi _ e).1; (try dsimp only at h); omega) _) (fun e => by have h := (hbi _ e).1; (try dsimp only at h); omega) _) (fun e => by have h := (hbi _ e).1; (try dsimp only at h); omega) _
  have HOE2 := Lib.hid hoe2
  have HOI2 := Lib.hid hoi2
  have HB := Lib.hid (show Below w.heap.size w w2 by rw [hw2]; exact (((HB0.out.trans (hb2.mono (by omega))).setCell (Nat.le_refl _) _).setCell (Nat.le_refl _) _).setCell (Nat.le_refl _) _)
  have HX := Lib.hid (show w2.heap[w.heap.size]? = some (.cells #[.int .i64 (m : Int), .slice aoE E1.length capE, .slice aoI I1.length capI] 25 (0, 0)) by rw [hw2]; simpa using hr3)
  have HY := Lib.hid (show w2.heap[w.heap.size + 1]? = some (.cells #[.slice ah H0.length ch, .slice ab B0.length cb] 29 (0, 0)) by rw [hw2, heap_setCell_other _ _ _ _ (by simp), heap_setCell_other _ _ _ _ (by simp), heap_setCell_other _ _ _ _ (by simp)]; exact hy1)
  have HS2 := Lib.hid (show w.heap.size + 2 ≤ w2.heap.size by rw [hw2]; simp; have := HB1.out.size; have := HS0.out; omega)
  clear hb2 hx1 hy1 yf hr1 hr2 hr3 hbe hbi hoe2 hoi2 HX0 HY0 HB0 HB1 HOE HOI
  go_upto_region 2 with fail
  rw [← hw2]
  clear hw2 y0 y1 y2 yf0 yf1 yf2
  obtain ⟨x0, x1, x2, _⟩ := three_cells HX.out
  obtain ⟨z0, z1, zf, _⟩ := own_two HY.out
  go_wp2_with fail
  go_at_call 7
  refine (ownfix_any m HM6.out (HHR.out.below HB.out) (HBR.out.below HB.out) HBL.out).mono ?_
  rintro e w3 ⟨vh1, vb1, rfl, hoh, hob, hb⟩
  have HOP := Lib.hid (fix_ownp HM6.out HHR.out.wf HBR.out.wf)
  have HLN := Lib.hid (show (fixHL H0 m).length ≤ 5 ∧ (fixBL B0 m).length ≤ 12 from ⟨fixO_len H0 m 5, (fixBL_nice HM6.out HBR.out.wf).len⟩)
  clear HHR HBR HBL x0 x1 x2
  obtain ⟨aH, cH, rfl⟩ := Fr.formE hoh
  obtain ⟨aB, cB, hvb⟩ : ∃ aB cB, vb1 = .slice aB (fixBL B0 m).length cB := by
    rcases hob.form with ⟨h, h2⟩ | ⟨g, cap, hv, _⟩
    · exact ⟨none, 0, by rw [h2, h]; rfl⟩
    · exact ⟨_, _, hv⟩
  subst hvb
  generalize fixHL H0 m = H at *
  generalize fixBL B0 m = B at *
  have HOH := Lib.hid hoh
  have HOB := Lib.hid hob
  have HB3 := Lib.hid hb
  replace HOE2 := Lib.hid (HOE2.out.below hb)
  replace HOI2 := Lib.hid (HOI2.out.below hb)
  have hb3 : Below (w.heap.size + 2) w2 w3 := hb.mono HS2.out
  clear hoh hob hb
  have hx3 := (hb3.block _ (by omega)).trans HX.out
  have hy3 := (hb3.block _ (by omega)).trans HY.out
  obtain ⟨y0, y1, yf, _⟩ := own_two hy3
  have yf0 := yf 0
  have yf1 := yf 1
  have hr1 := own_set0 hy3 (.slice aH H.length cH)
  have hr2 := own_set1 hr1 (.slice aB B.length cB)
  have hbh := World.ownsRow.lt HOH.out
  have hbb := World.ownsRow.lt HOB.out
  obtain ⟨w4, hw4⟩ : ∃ w4, w4 = (w3.setCell ⟨w.heap.size + 1, 0, none⟩ (.slice aH H.length cH)).setCell ⟨w.heap.size + 1, 1, none⟩ (.slice aB B.length cB) := ⟨_, rfl⟩
  have HOA := Lib.hid (show OwnAt w4 (.slice aH H.length cH) (.slice aB B.length cB) H B from ⟨by
    rw [hw4]
    exact Own.sl (T := 50) (base := w2.heap.size) (ownsRow_setCell_other (ownsRow_setCell_other HOH.out (fun e => by have h := (hbh _ e).1; have := HS2.out; (try dsimp only at h); omega) _) (fun e => by have h := (hbh _ e).1; have := HS2.out; (try dsimp only at h); omega) _) HOP.out.wfH, by
    rw [hw4]
    exact Batch.Own.sl (T := 67) (base := w2.heap.size) (ownsRow_setCell_other (ownsRow_setCell_other HOB.out (fun e => by have h := (hbb _ e).1; have := HS2.out; (try dsimp only at h); omega) _) (fun e => by have h := (hbb _ e).1; have := HS2.out; (try dsimp only at h); omega) _) HOP.out.wfB⟩)
  have hbe := World.ownsRow.lt HOE2.out
  have hbi := World.ownsRow.lt HOI2.out
  rw [HS0.out] at hbe hbi
  have hoe2 : Own w4 (w0.heap.size + 3) 76 (.slice aoE E1.length capE) E1 := by
    rw [hw4]
    exact ownsRow_setCell_other (ownsRow_setCell_other HOE2.out (fun e => by have h := (hbe _ e).1; (try dsimp only at h); omega) _) (fun e => by have h := (hbe _ e).1; (try dsimp only at h); omega) _
  have hoi2 : OwnI w4 (w0.heap.size + 3) 3 (.slice aoI I1.length capI) I1 := by
    rw [hw4]
    exact ownsRow_setCell_other (ownsRow_setCell_other HOI2.out (fun e => by have h := (hbi _ e).1; (try dsimp only at h); omega) _) (fun e => by have h := (hbi _ e).1; (try dsimp only at h); omega) _
  have HGE := Lib.hid (show GMemP w4 (.slice aoE E1.length capE) (.slice aoI I1.length capI) E1 I1 from ⟨hoe2.rd HWE.out.1, hoi2.rd HWE.out.2⟩)
  replace HX := Lib.hid (show w4.heap[w.heap.size]? = some (.cells #[.int .i64 (m : Int), .slice aoE E1.length capE, .slice aoI I1.length capI] 25 (0, 0)) by rw [hw4, heap_setCell_other _ _ _ _ (by simp), heap_setCell_other _ _ _ _ (by simp)]; exact hx3)
  replace HY := Lib.hid (show w4.heap[w.heap.size + 1]? = some (.cells #[.slice aH H.length cH, .slice aB B.length cB] 29 (0, 0)) by rw [hw4]; exact hr2)
  replace HB := Lib.hid (show Below w.heap.size w w4 by rw [hw4]; exact ((HB.out.trans (HB3.out.mono HB.out.size)).setCell (by simp) _).setCell (by simp) _)
  clear hb3 hx3 hy3 yf hr1 hr2 hbh hbb hbe hbi hoe2 hoi2 HB3 HOH HOB HOE2 HOI2 HS2 HS0 zf z0 z1
  go_upto_region 3 with fail
  rw [← hw4]
  clear hw4 y0 y1 yf0 yf1
  go_wp2_with fail
  go_at_call 8
  refine (cltold_any _ (HL.out.below HB.out)).mono ?_
  rintro e wk ⟨rfl, hb⟩
  replace HOA := Lib.hid (HOA.out.below hb)
  replace HGE := Lib.hid (HGE.out.below hb)
  replace HX := Lib.hid ((hb.block _ (Array.getElem?_eq_some_iff.1 HX.out).1).trans HX.out)
  replace HY := Lib.hid ((hb.block _ (Array.getElem?_eq_some_iff.1 HY.out).1).trans HY.out)
  replace HB := Lib.hid (HB.out.trans (hb.mono HB.out.size))
  clear hb
  have HST := Lib.hid (show St w m E1 I1 (.slice aoE E1.length capE) (.slice aoI I1.length capI) 0 H B (.slice aH H.length cH) (.slice aB B.length cB) wk from ⟨HOP.out, by have := HLN.out; omega, by have := HLN.out; omega, HX.out, HY.out, HOA.out, HGE.out, HB.out⟩)
  obtain ⟨M, hLM⟩ := least_ex HOK.out.fits
  have HLM := Lib.hid hLM
  clear hLM HX HY HOA HGE HB HOP HLN
  have hol2 : OL.length ≤ 9223372036854775807 := hol
  go_wp2_with fail
  go_loopg [7] OL.length (fun k s7 wr => ∃ (i : Nat) (H : List Ed) (B : List Batch.Ch) (a1 : Option Addr) (n1 c1 : Nat) (a2 : Option Addr) (n2 c2 : Nat), i + k = OL.length ∧ i ≤ 40 ∧ s7 = .int .i64 (i : Int) ∧ Hid (St w m E1 I1 (.slice aoE E1.length capE) (.slice aoI I1.length capI) i H B (.slice a1 n1 c1) (.slice a2 n2 c2) wr))
  case atStart => exact ⟨0, H, B, _, _, _, _, _, _, by omega, by omega, rfl, HST⟩
  case round =>
    clear HST
    obtain ⟨i, H, B, a1, n1, c1, a2, n2, c2, hik, hi40, rfl, HST⟩ := hrel
    have HIK := Lib.hid (And.intro hik hi40)
    have hi0 : (0 : Int) ≤ (i : Int) := Int.natCast_nonneg _
    clear hik hi40
    by_cases hlt : i < OL.length
    · have hlt1 : decide ((i : Int) < (OL.length : Int)) = true := decide_eq_true (by omega)
      have hlt2 : (i : Int) < (OL.length : Int) := by omega
      by_cases h40 : i < 40
      · have h41 : decide ((i : Int) < 40) = true := decide_eq_true (by omega)
        have HI := Lib.hid (And.intro hlt h40)
        obtain ⟨x, hx⟩ : ∃ x, OL[i]? = some x := ⟨_, List.getElem?_eq_getElem hlt⟩
        obtain ⟨ob, off, rfl, hat⟩ := HOC.out.at hx
        have HAT := Lib.hid hat
        clear hlt h40 hx
        go_upto_region 8 with fail
        go_cut [8, 9, 10] from 22 to 81 (fun s8 s9 s10 wx => DoB m M H B w s8 s9 s10 wr wx)
        case first =>
          have hatw := HAT.out.below HST.out.bel
          obtain ⟨q0, q1, q2, q3, ⟨vl, q4, hrl0⟩, _⟩ := hatw
          obtain ⟨_, _, _, _, ⟨vl2, q42, hrl⟩, hxb⟩ := HAT.out
          have hvl : vl2 = vl := by
            have h := (HST.out.bel.cell (p := ⟨ob, off + i * 5 + 4, none⟩) (Lib.lt_of_cell q42)).trans q42
            rw [q4] at h
            exact (Option.some.inj h).symm
          subst hvl
          obtain ⟨al, cl2, rfl, _⟩ := And.left (And.intro hrl trivial)
          have HXB := Lib.hid hxb
          clear hrl0 hxb q42
          obtain ⟨g0, g1, g2, _⟩ := three_cells HST.out.hx
          obtain ⟨y0, y1, _⟩ := pair_cells HST.out.hy
          refine wp_region_held_drew (S := (fun w' => w'.cell? ⟨w.heap.size + 1, 0, none⟩ = some (.slice a1 n1 c1) ∧ w'.cell? ⟨w.heap.size + 1, 1, none⟩ = some (.slice a2 n2 c2) ∧ w'.cell? ⟨w.heap.size, 0, none⟩ = some (.int .i64 (m : Int)) ∧ w'.cell? ⟨w.heap.size, 1, none⟩ = some (.slice aoE E1.length capE) ∧ w'.cell? ⟨w.heap.size, 2, none⟩ = some (.slice aoI I1.length capI) ∧ w'.cell? ⟨ob, off + i * 5, none⟩ = some (.int .i64 x.kd) ∧ w'.cell? ⟨ob, off + i * 5 + 1, none⟩ = some (.int .i64 x.hd) ∧ w'.cell? ⟨ob, off + i * 5 + 2, none⟩ = some (.int .i64 x.nm) ∧ w'.cell? ⟨ob, off + i * 5 + 3, none⟩ = some (.int .u64 x.tm) ∧ w'.cell? ⟨ob, off + i * 5 + 4, none⟩ = some (.slice al x.l.length cl2))) (by kernel_rfl) ?_ (fun hHeld => ?_)
          · ((try dsimp only); exact ⟨y0, y1, g0, g1, g2, q0, q1, q2, q3, q4⟩)
          have hb1 := below_drewN (Below.refl wr.heap.size wr) 1
          refine wpAnyH_take (i := 0) (v := ?_) rfl (by kernel_rfl) (by kernel_rfl) (by kernel_rfl) (fun _ _ _ h => h) (Or.inl ⟨by rfl, ?_⟩) (by assumption) ?_
          rotate_left 1
          · (intro w hSw; (try dsimp only at hSw); first | (go_simp; done) | (go_simp; with_reducible rfl))
          try simp only [Act.put, List.setIfInBounds_toArray, List.set_cons_zero, List.set_cons_succ, List.getElem_toArray, List.getElem_cons_zero]
          refine wpAnyH_take (i := 1) (v := ?_) rfl (by kernel_rfl) (by kernel_rfl) (by kernel_rfl) (fun _ _ _ h => h) (Or.inl ⟨by rfl, ?_⟩) (by assumption) ?_
          rotate_left 1
          · (intro w hSw; (try dsimp only at hSw); first | (go_simp; done) | (go_simp; with_reducible rfl))
          try simp only [Act.put, List.setIfInBounds_toArray, List.set_cons_zero, List.set_cons_succ, List.getElem_toArray, List.getElem_cons_zero, List.getElem_cons_succ]
          refine wpAnyH_take (i := 2) (v := ?_) rfl (by kernel_rfl) (by kernel_rfl) (by kernel_rfl) (fun _ _ _ h => h) (Or.inl ⟨by rfl, ?_⟩) (by assumption) ?_
          rotate_left 1
          · (intro w hSw; (try dsimp only at hSw); first | (go_simp; done) | (go_simp; with_reducible rfl))
          try simp only [Act.put, List.setIfInBounds_toArray, List.set_cons_zero, List.set_cons_succ, List.getElem_toArray, List.getElem_cons_zero, List.getElem_cons_succ]
          refine wpAnyH_take (i := 3) (v := ?_) rfl (by kernel_rfl) (by kernel_rfl) (by kernel_rfl) (fun _ _ _ h => h) (Or.inl ⟨by rfl, ?_⟩) (by assumption) ?_
          rotate_left 1
          · (intro w hSw; (try dsimp only at hSw); first | (go_simp; done) | (go_simp; with_reducible rfl))
          try simp only [Act.put, List.setIfInBounds_toArray, List.set_cons_zero, List.set_cons_succ, List.getElem_toArray, List.getElem_cons_zero, List.getElem_cons_succ]
          refine wpAnyH_take (i := 4) (v := ?_) rfl (by kernel_rfl) (by kernel_rfl) (by kernel_rfl) (fun _ _ _ h => h) (Or.inl ⟨by rfl, ?_⟩) (by assumption) ?_
          rotate_left 1
          · (intro w hSw; (try dsimp only at hSw); first | (go_simp; done) | (go_simp; with_reducible rfl))
          try simp only [Act.put, List.setIfInBounds_toArray, List.set_cons_zero, List.set_cons_succ, List.getElem_toArray, List.getElem_cons_zero, List.getElem_cons_succ]
          refine wpAnyH_take (i := 5) (v := ?_) rfl (by kernel_rfl) (by kernel_rfl) (by kernel_rfl) (fun _ _ _ h => h) (Or.inl ⟨by rfl, ?_⟩) (by assumption) ?_
          rotate_left 1
          · (intro w hSw; (try dsimp only at hSw); first | (go_simp; done) | (go_simp; with_reducible rfl))
          try simp only [Act.put, List.setIfInBounds_toArray, List.set_cons_zero, List.set_cons_succ, List.getElem_toArray, List.getElem_cons_zero, List.getElem_cons_succ]
          refine wpAnyH_ready (rs := [6, 11]) (by kernel_rfl) (by simp) ?_
          refine AllReadyH.cons rfl (fun K hK => ?_) (AllReadyH.cons rfl (fun K hK => ?_) AllReadyH.nil)
          · go_simp
            go_at_call 9
            refine (do_any (M := M) x.kd x.hd x.nm x.tm (HL.out.below (HST.out.bel.trans (hb1.mono HST.out.bel.size))) (HST.out.below hb1).ge_ HOK.out (by have := HL12.out; omega) HLM.out (HST.out.below hb1).at_ HST.out.own (by have := HST.out.hl; have := HI.out; omega) (by have := HST.out.bl; have := HI.out; omega) (hrl.below (HST.out.bel.trans (hb1.mono HST.out.bel.size))) HXB.out.2.1.2 HXB.out.2.2.1.2 ⟨HXB.out.2.2.2.1, HXB.out.2.2.2.2⟩).mono ?_
            rintro e wd hq
            obtain ⟨R, b1, k1, d1, b2, k2, d2, b3, k3, d3, rfl, hres, s1, s2, s3, hcb⟩ := hq
            have hbd := hb1.trans (hcb.mono hb1.size)
            try go_wp2_with fail
            refine hK.out _ _ ?_ (fun hHeld => ?_)
            · ((try dsimp only); exact ⟨(hbd.cell (p := ⟨w.heap.size + 1, 0, none⟩) (Lib.lt_of_cell y0)).trans y0, (hbd.cell (p := ⟨w.heap.size + 1, 1, none⟩) (Lib.lt_of_cell y1)).trans y1, (hbd.cell (p := ⟨w.heap.size, 0, none⟩) (Lib.lt_of_cell g0)).trans g0, (hbd.cell (p := ⟨w.heap.size, 1, none⟩) (Lib.lt_of_cell g1)).trans g1, (hbd.cell (p := ⟨w.heap.size, 2, none⟩) (Lib.lt_of_cell g2)).trans g2, (hbd.cell (p := ⟨ob, off + i * 5, none⟩) (Lib.lt_of_cell q0)).trans q0, (hbd.cell (p := ⟨ob, off + i * 5 + 1, none⟩) (Lib.lt_of_cell q1)).trans q1, (hbd.cell (p := ⟨ob, off + i * 5 + 2, none⟩) (Lib.lt_of_cell q2)).trans q2, (hbd.cell (p := ⟨ob, off + i * 5 + 3, none⟩) (Lib.lt_of_cell q3)).trans q3, (hbd.cell (p := ⟨ob, off + i * 5 + 4, none⟩) (Lib.lt_of_cell q4)).trans q4⟩)
            clear hK K
            try simp only [Act.put, List.setIfInBounds_toArray, List.set_cons_zero, List.set_cons_succ, List.getElem_toArray, List.getElem_cons_zero, List.getElem_cons_succ]
            refine wpAnyH_take (i := 7) (v := ?_) rfl (by kernel_rfl) (by kernel_rfl) (by kernel_rfl) (fun _ _ _ h => h) (Or.inl ⟨by rfl, ?_⟩) (by assumption) ?_
            rotate_left 1
            · (intro w hSw; (try dsimp only at hSw); first | (go_simp; done) | (go_simp; with_reducible rfl))
            try simp only [Act.put, List.setIfInBounds_toArray, List.set_cons_zero, List.set_cons_succ, List.getElem_toArray, List.getElem_cons_zero, List.getElem_cons_succ]
            refine wpAnyH_take (i := 8) (v := ?_) rfl (by kernel_rfl) (by kernel_rfl) (by kernel_rfl) (fun _ _ _ h => h) (Or.inl ⟨by rfl, ?_⟩) (by assumption) ?_
            rotate_left 1
            · (intro w hSw; (try dsimp only at hSw); first | (go_simp; done) | (go_simp; with_reducible rfl))
            try simp only [Act.put, List.setIfInBounds_toArray, List.set_cons_zero, List.set_cons_succ, List.getElem_toArray, List.getElem_cons_zero, List.getElem_cons_succ]
            refine wpAnyH_take (i := 9) (v := ?_) rfl (by kernel_rfl) (by kernel_rfl) (by kernel_rfl) (fun _ _ _ h => h) (Or.inl ⟨by rfl, ?_⟩) (by assumption) ?_
            rotate_left 1
            · (intro w hSw; (try dsimp only at hSw); first | (go_simp; done) | (go_simp; with_reducible rfl))
            try simp only [Act.put, List.setIfInBounds_toArray, List.set_cons_zero, List.set_cons_succ, List.getElem_toArray, List.getElem_cons_zero, List.getElem_cons_succ]
            refine wpAnyH_take (i := 10) (v := ?_) rfl (by kernel_rfl) (by kernel_rfl) (by kernel_rfl) (fun _ _ _ h => h) (Or.inl ⟨by rfl, ?_⟩) (by assumption) ?_
            rotate_left 1
            · (intro w hSw; (try dsimp only at hSw); first | (go_simp; done) | (go_simp; with_reducible rfl))
            try simp only [Act.put, List.setIfInBounds_toArray, List.set_cons_zero, List.set_cons_succ, List.getElem_toArray, List.getElem_cons_zero, List.getElem_cons_succ]
            refine wpAnyH_ready (rs := [11]) (by kernel_rfl) (by simp) ?_
            refine AllReadyH.cons rfl (fun K hK => ?_) AllReadyH.nil
            go_simp
            try go_wp2_with fail
            refine hK.out _ _ ?_ (fun hHeld => ?_)
            · ((try dsimp only); exact ⟨((hbd.alloc hbd.size _).cell (p := ⟨w.heap.size + 1, 0, none⟩) (Lib.lt_of_cell y0)).trans y0, ((hbd.alloc hbd.size _).cell (p := ⟨w.heap.size + 1, 1, none⟩) (Lib.lt_of_cell y1)).trans y1, ((hbd.alloc hbd.size _).cell (p := ⟨w.heap.size, 0, none⟩) (Lib.lt_of_cell g0)).trans g0, ((hbd.alloc hbd.size _).cell (p := ⟨w.heap.size, 1, none⟩) (Lib.lt_of_cell g1)).trans g1, ((hbd.alloc hbd.size _).cell (p := ⟨w.heap.size, 2, none⟩) (Lib.lt_of_cell g2)).trans g2, ((hbd.alloc hbd.size _).cell (p := ⟨ob, off + i * 5, none⟩) (Lib.lt_of_cell q0)).trans q0, ((hbd.alloc hbd.size _).cell (p := ⟨ob, off + i * 5 + 1, none⟩) (Lib.lt_of_cell q1)).trans q1, ((hbd.alloc hbd.size _).cell (p := ⟨ob, off + i * 5 + 2, none⟩) (Lib.lt_of_cell q2)).trans q2, ((hbd.alloc hbd.size _).cell (p := ⟨ob, off + i * 5 + 3, none⟩) (Lib.lt_of_cell q3)).trans q3, ((hbd.alloc hbd.size _).cell (p := ⟨ob, off + i * 5 + 4, none⟩) (Lib.lt_of_cell q4)).trans q4⟩)
            clear hK K
            try simp only [Act.put, List.setIfInBounds_toArray, List.set_cons_zero, List.set_cons_succ, List.getElem_toArray, List.getElem_cons_zero, List.getElem_cons_succ]
            refine wpAnyH_ready (rs := [12]) (by kernel_rfl) (by simp) ?_
            refine AllReadyH.cons rfl (fun K hK => ?_) AllReadyH.nil
            go_simp
            try go_wp2_with fail
            refine hK.out _ _ ?_ (fun hHeld => ?_)
            · ((try dsimp only); exact ⟨((hbd.alloc hbd.size _).cell (p := ⟨w.heap.size + 1, 0, none⟩) (Lib.lt_of_cell y0)).trans y0, ((hbd.alloc hbd.size _).cell (p := ⟨w.heap.size + 1, 1, none⟩) (Lib.lt_of_cell y1)).trans y1, ((hbd.alloc hbd.size _).cell (p := ⟨w.heap.size, 0, none⟩) (Lib.lt_of_cell g0)).trans g0, ((hbd.alloc hbd.size _).cell (p := ⟨w.heap.size, 1, none⟩) (Lib.lt_of_cell g1)).trans g1, ((hbd.alloc hbd.size _).cell (p := ⟨w.heap.size, 2, none⟩) (Lib.lt_of_cell g2)).trans g2, ((hbd.alloc hbd.size _).cell (p := ⟨ob, off + i * 5, none⟩) (Lib.lt_of_cell q0)).trans q0, ((hbd.alloc hbd.size _).cell (p := ⟨ob, off + i * 5 + 1, none⟩) (Lib.lt_of_cell q1)).trans q1, ((hbd.alloc hbd.size _).cell (p := ⟨ob, off + i * 5 + 2, none⟩) (Lib.lt_of_cell q2)).trans q2, ((hbd.alloc hbd.size _).cell (p := ⟨ob, off + i * 5 + 3, none⟩) (Lib.lt_of_cell q3)).trans q3, ((hbd.alloc hbd.size _).cell (p := ⟨ob, off + i * 5 + 4, none⟩) (Lib.lt_of_cell q4)).trans q4⟩)
            clear hK K
            try simp only [Act.put, List.setIfInBounds_toArray, List.set_cons_zero, List.set_cons_succ, List.getElem_toArray, List.getElem_cons_zero, List.getElem_cons_succ]
            refine wpAnyH_take (i := 13) (v := ?_) rfl (by kernel_rfl) (by kernel_rfl) (by kernel_rfl) (fun _ _ _ h => h) (Or.inl ⟨by rfl, ?_⟩) (by assumption) ?_
            rotate_left 1
            · (intro w hSw; (try dsimp only at hSw); first | (go_simp; done) | (go_simp; with_reducible rfl))
            try simp only [Act.put, List.setIfInBounds_toArray, List.set_cons_zero, List.set_cons_succ, List.getElem_toArray, List.getElem_cons_zero, List.getElem_cons_succ]
            refine wpAnyH_take (i := 14) (v := ?_) rfl (by kernel_rfl) (by kernel_rfl) (by kernel_rfl) (fun _ _ _ h => h) (Or.inl ⟨by rfl, ?_⟩) (by assumption) ?_
            rotate_left 1
            · (intro w hSw; (try dsimp only at hSw); first | (go_simp; done) | (go_simp; with_reducible rfl))
            try simp only [Act.put, List.setIfInBounds_toArray, List.set_cons_zero, List.set_cons_succ, List.getElem_toArray, List.getElem_cons_zero, List.getElem_cons_succ]
            refine wpAnyH_done (by kernel_rfl) ?_ _
            go_wp2_with fail
            go_meet
            have hca : Below wd.heap.size wd (wd.alloc (.cells #[.slice b1 k1 d1, .slice b2 k2 d2] 29)) := (Below.refl _ _).alloc (Nat.le_refl _) _
            exact ⟨R, b1, k1, d1, b2, k2, d2, b3, k3, d3, wd.heap.size, rfl, rfl, rfl, hres, s1.below hca, s2.below hca, s3.below hca, heap_alloc_new wd _, Nat.lt_of_lt_of_le (Array.getElem?_eq_some_iff.1 HST.out.hy).1 hbd.size, hbd.alloc hbd.size _⟩
          · have hb2 : Below wr.heap.size wr (wr.drew.alloc (.cells #[.slice none 0 0, .slice none 0 0] 29)) := hb1.alloc hb1.size _
            go_simp
            try go_wp2_with fail
            refine hK.out _ _ ?_ (fun hHeld => ?_)
            · ((try dsimp only); exact ⟨(hb2.cell (p := ⟨w.heap.size + 1, 0, none⟩) (Lib.lt_of_cell y0)).trans y0, (hb2.cell (p := ⟨w.heap.size + 1, 1, none⟩) (Lib.lt_of_cell y1)).trans y1, (hb2.cell (p := ⟨w.heap.size, 0, none⟩) (Lib.lt_of_cell g0)).trans g0, (hb2.cell (p := ⟨w.heap.size, 1, none⟩) (Lib.lt_of_cell g1)).trans g1, (hb2.cell (p := ⟨w.heap.size, 2, none⟩) (Lib.lt_of_cell g2)).trans g2, (hb2.cell (p := ⟨ob, off + i * 5, none⟩) (Lib.lt_of_cell q0)).trans q0, (hb2.cell (p := ⟨ob, off + i * 5 + 1, none⟩) (Lib.lt_of_cell q1)).trans q1, (hb2.cell (p := ⟨ob, off + i * 5 + 2, none⟩) (Lib.lt_of_cell q2)).trans q2, (hb2.cell (p := ⟨ob, off + i * 5 + 3, none⟩) (Lib.lt_of_cell q3)).trans q3, (hb2.cell (p := ⟨ob, off + i * 5 + 4, none⟩) (Lib.lt_of_cell q4)).trans q4⟩)
            clear hK K
            try simp only [Act.put, List.setIfInBounds_toArray, List.set_cons_zero, List.set_cons_succ, List.getElem_toArray, List.getElem_cons_zero, List.getElem_cons_succ]
            refine wpAnyH_ready (rs := [6]) (by kernel_rfl) (by simp) ?_
            refine AllReadyH.cons rfl (fun K hK => ?_) AllReadyH.nil
            go_simp
            go_at_call 9
            refine (do_any (M := M) x.kd x.hd x.nm x.tm (HL.out.below (HST.out.bel.trans (hb2.mono HST.out.bel.size))) (HST.out.below hb2).ge_ HOK.out (by have := HL12.out; omega) HLM.out (HST.out.below hb2).at_ HST.out.own (by have := HST.out.hl; have := HI.out; omega) (by have := HST.out.bl; have := HI.out; omega) (hrl.below (HST.out.bel.trans (hb2.mono HST.out.bel.size))) HXB.out.2.1.2 HXB.out.2.2.1.2 ⟨HXB.out.2.2.2.1, HXB.out.2.2.2.2⟩).mono ?_
            rintro e wd hq
            obtain ⟨R, b1, k1, d1, b2, k2, d2, b3, k3, d3, rfl, hres, s1, s2, s3, hcb⟩ := hq
            have hbd := hb2.trans (hcb.mono hb2.size)
            try go_wp2_with fail
            refine hK.out _ _ ?_ (fun hHeld => ?_)
            · ((try dsimp only); exact ⟨(hbd.cell (p := ⟨w.heap.size + 1, 0, none⟩) (Lib.lt_of_cell y0)).trans y0, (hbd.cell (p := ⟨w.heap.size + 1, 1, none⟩) (Lib.lt_of_cell y1)).trans y1, (hbd.cell (p := ⟨w.heap.size, 0, none⟩) (Lib.lt_of_cell g0)).trans g0, (hbd.cell (p := ⟨w.heap.size, 1, none⟩) (Lib.lt_of_cell g1)).trans g1, (hbd.cell (p := ⟨w.heap.size, 2, none⟩) (Lib.lt_of_cell g2)).trans g2, (hbd.cell (p := ⟨ob, off + i * 5, none⟩) (Lib.lt_of_cell q0)).trans q0, (hbd.cell (p := ⟨ob, off + i * 5 + 1, none⟩) (Lib.lt_of_cell q1)).trans q1, (hbd.cell (p := ⟨ob, off + i * 5 + 2, none⟩) (Lib.lt_of_cell q2)).trans q2, (hbd.cell (p := ⟨ob, off + i * 5 + 3, none⟩) (Lib.lt_of_cell q3)).trans q3, (hbd.cell (p := ⟨ob, off + i * 5 + 4, none⟩) (Lib.lt_of_cell q4)).trans q4⟩)
            clear hK K
            try simp only [Act.put, List.setIfInBounds_toArray, List.set_cons_zero, List.set_cons_succ, List.getElem_toArray, List.getElem_cons_zero, List.getElem_cons_succ]
            refine wpAnyH_take (i := 7) (v := ?_) rfl (by kernel_rfl) (by kernel_rfl) (by kernel_rfl) (fun _ _ _ h => h) (Or.inl ⟨by rfl, ?_⟩) (by assumption) ?_
            rotate_left 1
            · (intro w hSw; (try dsimp only at hSw); first | (go_simp; done) | (go_simp; with_reducible rfl))
            try simp only [Act.put, List.setIfInBounds_toArray, List.set_cons_zero, List.set_cons_succ, List.getElem_toArray, List.getElem_cons_zero, List.getElem_cons_succ]
            refine wpAnyH_take (i := 8) (v := ?_) rfl (by kernel_rfl) (by kernel_rfl) (by kernel_rfl) (fun _ _ _ h => h) (Or.inl ⟨by rfl, ?_⟩) (by assumption) ?_
            rotate_left 1
            · (intro w hSw; (try dsimp only at hSw); first | (go_simp; done) | (go_simp; with_reducible rfl))
            try simp only [Act.put, List.setIfInBounds_toArray, List.set_cons_zero, List.set_cons_succ, List.getElem_toArray, List.getElem_cons_zero, List.getElem_cons_succ]
            refine wpAnyH_take (i := 9) (v := ?_) rfl (by kernel_rfl) (by kernel_rfl) (by kernel_rfl) (fun _ _ _ h => h) (Or.inl ⟨by rfl, ?_⟩) (by assumption) ?_
            rotate_left 1
            · (intro w hSw; (try dsimp only at hSw); first | (go_simp; done) | (go_simp; with_reducible rfl))
            try simp only [Act.put, List.setIfInBounds_toArray, List.set_cons_zero, List.set_cons_succ, List.getElem_toArray, List.getElem_cons_zero, List.getElem_cons_succ]
            refine wpAnyH_take (i := 10) (v := ?_) rfl (by kernel_rfl) (by kernel_rfl) (by kernel_rfl) (fun _ _ _ h => h) (Or.inl ⟨by rfl, ?_⟩) (by assumption) ?_
            rotate_left 1
            · (intro w hSw; (try dsimp only at hSw); first | (go_simp; done) | (go_simp; with_reducible rfl))
            try simp only [Act.put, List.setIfInBounds_toArray, List.set_cons_zero, List.set_cons_succ, List.getElem_toArray, List.getElem_cons_zero, List.getElem_cons_succ]
            have hnq := (hcb.block wr.heap.size (by simp)).trans (heap_alloc_new wr.drew (.cells #[.slice none 0 0, .slice none 0 0] 29))
            obtain ⟨z0, z1, zf⟩ := pair_cells hnq
            have zf0 := zf 0
            have zf1 := zf 1
            clear zf
            refine wpAnyH_ready (rs := [12]) (by kernel_rfl) (by simp) ?_
            refine AllReadyH.cons rfl (fun K hK => ?_) AllReadyH.nil
            go_simp
            try go_wp2_with fail
            refine hK.out _ _ ?_ (fun hHeld => ?_)
            · ((try dsimp only); exact ⟨(((hbd.setCell (p := ⟨wr.heap.size, 0, none⟩) (Nat.le_refl _) _).setCell (p := ⟨wr.heap.size, 1, none⟩) (Nat.le_refl _) _).cell (p := ⟨w.heap.size + 1, 0, none⟩) (Lib.lt_of_cell y0)).trans y0, (((hbd.setCell (p := ⟨wr.heap.size, 0, none⟩) (Nat.le_refl _) _).setCell (p := ⟨wr.heap.size, 1, none⟩) (Nat.le_refl _) _).cell (p := ⟨w.heap.size + 1, 1, none⟩) (Lib.lt_of_cell y1)).trans y1, (((hbd.setCell (p := ⟨wr.heap.size, 0, none⟩) (Nat.le_refl _) _).setCell (p := ⟨wr.heap.size, 1, none⟩) (Nat.le_refl _) _).cell (p := ⟨w.heap.size, 0, none⟩) (Lib.lt_of_cell g0)).trans g0, (((hbd.setCell (p := ⟨wr.heap.size, 0, none⟩) (Nat.le_refl _) _).setCell (p := ⟨wr.heap.size, 1, none⟩) (Nat.le_refl _) _).cell (p := ⟨w.heap.size, 1, none⟩) (Lib.lt_of_cell g1)).trans g1, (((hbd.setCell (p := ⟨wr.heap.size, 0, none⟩) (Nat.le_refl _) _).setCell (p := ⟨wr.heap.size, 1, none⟩) (Nat.le_refl _) _).cell (p := ⟨w.heap.size, 2, none⟩) (Lib.lt_of_cell g2)).trans g2, (((hbd.setCell (p := ⟨wr.heap.size, 0, none⟩) (Nat.le_refl _) _).setCell (p := ⟨wr.heap.size, 1, none⟩) (Nat.le_refl _) _).cell (p := ⟨ob, off + i * 5, none⟩) (Lib.lt_of_cell q0)).trans q0, (((hbd.setCell (p := ⟨wr.heap.size, 0, none⟩) (Nat.le_refl _) _).setCell (p := ⟨wr.heap.size, 1, none⟩) (Nat.le_refl _) _).cell (p := ⟨ob, off + i * 5 + 1, none⟩) (Lib.lt_of_cell q1)).trans q1, (((hbd.setCell (p := ⟨wr.heap.size, 0, none⟩) (Nat.le_refl _) _).setCell (p := ⟨wr.heap.size, 1, none⟩) (Nat.le_refl _) _).cell (p := ⟨ob, off + i * 5 + 2, none⟩) (Lib.lt_of_cell q2)).trans q2, (((hbd.setCell (p := ⟨wr.heap.size, 0, none⟩) (Nat.le_refl _) _).setCell (p := ⟨wr.heap.size, 1, none⟩) (Nat.le_refl _) _).cell (p := ⟨ob, off + i * 5 + 3, none⟩) (Lib.lt_of_cell q3)).trans q3, (((hbd.setCell (p := ⟨wr.heap.size, 0, none⟩) (Nat.le_refl _) _).setCell (p := ⟨wr.heap.size, 1, none⟩) (Nat.le_refl _) _).cell (p := ⟨ob, off + i * 5 + 4, none⟩) (Lib.lt_of_cell q4)).trans q4⟩)
            clear hK K
            try simp only [Act.put, List.setIfInBounds_toArray, List.set_cons_zero, List.set_cons_succ, List.getElem_toArray, List.getElem_cons_zero, List.getElem_cons_succ]
            refine wpAnyH_take (i := 13) (v := ?_) rfl (by kernel_rfl) (by kernel_rfl) (by kernel_rfl) (fun _ _ _ h => h) (Or.inl ⟨by rfl, ?_⟩) (by assumption) ?_
            rotate_left 1
            · (intro w hSw; (try dsimp only at hSw); first | (go_simp; done) | (go_simp; with_reducible rfl))
            try simp only [Act.put, List.setIfInBounds_toArray, List.set_cons_zero, List.set_cons_succ, List.getElem_toArray, List.getElem_cons_zero, List.getElem_cons_succ]
            refine wpAnyH_take (i := 14) (v := ?_) rfl (by kernel_rfl) (by kernel_rfl) (by kernel_rfl) (fun _ _ _ h => h) (Or.inl ⟨by rfl, ?_⟩) (by assumption) ?_
            rotate_left 1
            · (intro w hSw; (try dsimp only at hSw); first | (go_simp; done) | (go_simp; with_reducible rfl))
            try simp only [Act.put, List.setIfInBounds_toArray, List.set_cons_zero, List.set_cons_succ, List.getElem_toArray, List.getElem_cons_zero, List.getElem_cons_succ]
            refine wpAnyH_done (by kernel_rfl) ?_ _
            go_wp2_with fail
            go_meet
            have hkp := Keeps.set2 (b1 := b1) (k1 := k1) (d1 := d1) (b2 := b2) (k2 := k2) (d2 := d2) hnq
            exact ⟨R, b1, k1, d1, b2, k2, d2, b3, k3, d3, wr.heap.size, rfl, rfl, rfl, hres, hkp.sl s1, hkp.bsl s2, hkp.bsl s3, set2 hnq, (Array.getElem?_eq_some_iff.1 HST.out.hy).1, (hbd.setCell (p := ⟨wr.heap.size, 0, none⟩) (Nat.le_refl _) _).setCell (p := ⟨wr.heap.size, 1, none⟩) (Nat.le_refl _) _⟩
        case rest =>
          obtain ⟨R, b1, k1, d1, b2, k2, d2, b3, k3, d3, bq, rfl, rfl, rfl, hres, s1, s2, s3, hq, hbq, hb⟩ := hcut
          refine ‹∀ (a : Act) (w : World), Code.wp _ _ _ a w → _› _ _ ?_
          replace HST := Lib.hid (HST.out.below hb)
          obtain ⟨z0, z1, _⟩ := pair_cells hq
          obtain ⟨y0, y1, yf⟩ := pair_cells HST.out.hy
          have yf0 := yf 0
          have yf1 := yf 1
          clear yf
          obtain ⟨we, hwe⟩ : ∃ we, we = (wc.setCell ⟨w.heap.size + 1, 0, none⟩ (.slice b1 k1 d1)).setCell ⟨w.heap.size + 1, 1, none⟩ (.slice b2 k2 d2) := ⟨_, rfl⟩
          have hkp := Keeps.set2 (b1 := b1) (k1 := k1) (d1 := d1) (b2 := b2) (k2 := k2) (d2 := d2) HST.out.hy
          have hs0 := slb_of HST.out.hy
          have HST2 := Lib.hid (show St w m E1 I1 (.slice aoE E1.length capE) (.slice aoI I1.length capI) (i + 1) R.hs R.bs (.slice b1 k1 d1) (.slice b2 k2 d2) we from ⟨hres.own, by have := hres.hl; have := HST.out.hl; omega, by have := hres.bl; have := HST.out.bl; omega, by rw [hwe, blk_two (by omega)]; exact HST.out.hx, by rw [hwe]; exact set2 HST.out.hy, by rw [hwe]; exact ⟨hkp.sl s1, hkp.bsl s2⟩, by rw [hwe]; exact gmem_keeps (slb_set HST.out.hy) _ _ (gmem_keeps hs0 _ _ HST.out.ge_), by rw [hwe]; exact (HST.out.bel.setCell (p := ⟨w.heap.size + 1, 0, none⟩) (Nat.le_succ _) _).setCell (p := ⟨w.heap.size + 1, 1, none⟩) (Nat.le_succ _) _⟩)
          have HOR := Lib.hid hres.own
          have HLR := Lib.hid (show R.hs.length ≤ 100 ∧ R.bs.length ≤ 1000 from ⟨by have := HST2.out.hl; have := HI.out; omega, by have := HST2.out.bl; have := HI.out; omega⟩)
          obtain ⟨f1, f2, f3, bk, hbe, hfa, hfc⟩ := find_all HOR.out.rise (by have := HLR.out; omega) x.nm
          have HFC := Lib.hid hfc
          have HBE := Lib.hid (And.intro hbe hfa)
          clear hbe hfa
          go_upto_region 12 with fail
          rw [← hwe]
          clear hwe hkp hs0 hfc z0 z1 y0 y1 yf0 yf1 s1 s2 s3 hq hbq hb hres
          go_cut [11, 12] from 22 to 81 (fun s11 s12 wx => FiB bk f3 s11 s12 we wx)
          case first =>
            obtain ⟨y0, y1, _⟩ := pair_cells HST2.out.hy
            obtain ⟨_, _, q2, _⟩ := HAT.out.below HST2.out.bel
            refine wp_region_held_drew (S := (fun w' => w'.cell? ⟨w.heap.size + 1, 0, none⟩ = some (.slice b1 k1 d1) ∧ w'.cell? ⟨w.heap.size + 1, 1, none⟩ = some (.slice b2 k2 d2) ∧ w'.cell? ⟨ob, off + i * 5 + 2, none⟩ = some (.int .i64 x.nm))) (by kernel_rfl) ?_ (fun hHeld => ?_)
            · ((try dsimp only); exact ⟨y0, y1, q2⟩)
            have hb1 := below_drewN (Below.refl we.heap.size we) 1
            refine wpAnyH_take (i := 0) (v := ?_) rfl (by kernel_rfl) (by kernel_rfl) (by kernel_rfl) (fun _ _ _ h => h) (Or.inl ⟨by rfl, ?_⟩) (by assumption) ?_
            rotate_left 1
            · (intro w hSw; (try dsimp only at hSw); first | (go_simp; done) | (go_simp; with_reducible rfl))
            try simp only [Act.put, List.setIfInBounds_toArray, List.set_cons_zero, List.set_cons_succ, List.getElem_toArray, List.getElem_cons_zero]
            refine wpAnyH_take (i := 2) (v := ?_) rfl (by kernel_rfl) (by kernel_rfl) (by kernel_rfl) (fun _ _ _ h => h) (Or.inl ⟨by rfl, ?_⟩) (by assumption) ?_
            rotate_left 1
            · (intro w hSw; (try dsimp only at hSw); first | (go_simp; done) | (go_simp; with_reducible rfl))
            try simp only [Act.put, List.setIfInBounds_toArray, List.set_cons_zero, List.set_cons_succ, List.getElem_toArray, List.getElem_cons_zero, List.getElem_cons_succ]
            refine wpAnyH_take (i := 3) (v := ?_) rfl (by kernel_rfl) (by kernel_rfl) (by kernel_rfl) (fun _ _ _ h => h) (Or.inl ⟨by rfl, ?_⟩) (by assumption) ?_
            rotate_left 1
            · (intro w hSw; (try dsimp only at hSw); first | (go_simp; done) | (go_simp; with_reducible rfl))
            try simp only [Act.put, List.setIfInBounds_toArray, List.set_cons_zero, List.set_cons_succ, List.getElem_toArray, List.getElem_cons_zero, List.getElem_cons_succ]
            refine wpAnyH_take (i := 4) (v := ?_) rfl (by kernel_rfl) (by kernel_rfl) (by kernel_rfl) (fun _ _ _ h => h) (Or.inl ⟨by rfl, ?_⟩) (by assumption) ?_
            rotate_left 1
            · (intro w hSw; (try dsimp only at hSw); first | (go_simp; done) | (go_simp; with_reducible rfl))
            try simp only [Act.put, List.setIfInBounds_toArray, List.set_cons_zero, List.set_cons_succ, List.getElem_toArray, List.getElem_cons_zero, List.getElem_cons_succ]
            refine wpAnyH_take (i := 5) (v := ?_) rfl (by kernel_rfl) (by kernel_rfl) (by kernel_rfl) (fun _ _ _ h => h) (Or.inl ⟨by rfl, ?_⟩) (by assumption) ?_
            rotate_left 1
            · (intro w hSw; (try dsimp only at hSw); first | (go_simp; done) | (go_simp; with_reducible rfl))
            try simp only [Act.put, List.setIfInBounds_toArray, List.set_cons_zero, List.set_cons_succ, List.getElem_toArray, List.getElem_cons_zero, List.getElem_cons_succ]
            refine wpAnyH_take (i := 6) (v := ?_) rfl (by kernel_rfl) (by kernel_rfl) (by kernel_rfl) (fun _ _ _ h => h) (Or.inl ⟨by rfl, ?_⟩) (by assumption) ?_
            rotate_left 1
            · (intro w hSw; (try dsimp only at hSw); first | (go_simp; done) | (go_simp; with_reducible rfl))
            try simp only [Act.put, List.setIfInBounds_toArray, List.set_cons_zero, List.set_cons_succ, List.getElem_toArray, List.getElem_cons_zero, List.getElem_cons_succ]
            refine wpAnyH_ready (rs := [1, 11]) (by kernel_rfl) (by simp) ?_
            refine AllReadyH.cons rfl (fun K hK => ?_) (AllReadyH.cons rfl (fun K hK => ?_) AllReadyH.nil)
            · go_simp
              go_at_call 11
              refine (ownto_any (HST2.out.below hb1).at_.hands.rd (HST2.out.below hb1).at_.held.rd (by have := HLR.out; omega) (by have := HLR.out; omega)).mono ?_
              rintro e wt ⟨vh2, vb2, rfl, hoh, hob, hcb⟩
              have hbt := hb1.trans (hcb.mono hb1.size)
              have hsl := hoh.sl HOR.out.wfH
              try go_wp2_with fail
              refine hK.out _ _ ?_ (fun hHeld => ?_)
              · ((try dsimp only); exact ⟨(hbt.cell (p := ⟨w.heap.size + 1, 0, none⟩) (Lib.lt_of_cell y0)).trans y0, (hbt.cell (p := ⟨w.heap.size + 1, 1, none⟩) (Lib.lt_of_cell y1)).trans y1, (hbt.cell (p := ⟨ob, off + i * 5 + 2, none⟩) (Lib.lt_of_cell q2)).trans q2⟩)
              clear hK K
              try simp only [Act.put, List.setIfInBounds_toArray, List.set_cons_zero, List.set_cons_succ, List.getElem_toArray, List.getElem_cons_zero, List.getElem_cons_succ]
              refine wpAnyH_ready (rs := [7, 11]) (by kernel_rfl) (by simp) ?_
              refine AllReadyH.cons rfl (fun K hK => ?_) (AllReadyH.cons rfl (fun K hK => ?_) AllReadyH.nil)
              · go_simp
                go_at_call 10
                refine (HFC.out _ _ _ hsl).mono ?_
                rintro e wf ⟨rfl, hcf⟩
                have hbf := hbt.trans (hcf.mono hbt.size)
                try go_wp2_with fail
                refine hK.out _ _ ?_ (fun hHeld => ?_)
                · ((try dsimp only); exact ⟨(hbf.cell (p := ⟨w.heap.size + 1, 0, none⟩) (Lib.lt_of_cell y0)).trans y0, (hbf.cell (p := ⟨w.heap.size + 1, 1, none⟩) (Lib.lt_of_cell y1)).trans y1, (hbf.cell (p := ⟨ob, off + i * 5 + 2, none⟩) (Lib.lt_of_cell q2)).trans q2⟩)
                clear hK K
                try simp only [Act.put, List.setIfInBounds_toArray, List.set_cons_zero, List.set_cons_succ, List.getElem_toArray, List.getElem_cons_zero, List.getElem_cons_succ]
                refine wpAnyH_take (i := 8) (v := ?_) rfl (by kernel_rfl) (by kernel_rfl) (by kernel_rfl) (fun _ _ _ h => h) (Or.inl ⟨by rfl, ?_⟩) (by assumption) ?_
                rotate_left 1
                · (intro w hSw; (try dsimp only at hSw); first | (go_simp; done) | (go_simp; with_reducible rfl))
                try simp only [Act.put, List.setIfInBounds_toArray, List.set_cons_zero, List.set_cons_succ, List.getElem_toArray, List.getElem_cons_zero, List.getElem_cons_succ]
                refine wpAnyH_take (i := 9) (v := ?_) rfl (by kernel_rfl) (by kernel_rfl) (by kernel_rfl) (fun _ _ _ h => h) (Or.inl ⟨by rfl, ?_⟩) (by assumption) ?_
                rotate_left 1
                · (intro w hSw; (try dsimp only at hSw); first | (go_simp; done) | (go_simp; with_reducible rfl))
                try simp only [Act.put, List.setIfInBounds_toArray, List.set_cons_zero, List.set_cons_succ, List.getElem_toArray, List.getElem_cons_zero, List.getElem_cons_succ]
                refine wpAnyH_take (i := 10) (v := ?_) rfl (by kernel_rfl) (by kernel_rfl) (by kernel_rfl) (fun _ _ _ h => h) (Or.inl ⟨by rfl, ?_⟩) (by assumption) ?_
                rotate_left 1
                · (intro w hSw; (try dsimp only at hSw); first | (go_simp; done) | (go_simp; with_reducible rfl))
                try simp only [Act.put, List.setIfInBounds_toArray, List.set_cons_zero, List.set_cons_succ, List.getElem_toArray, List.getElem_cons_zero, List.getElem_cons_succ]
                refine wpAnyH_ready (rs := [11]) (by kernel_rfl) (by simp) ?_
                refine AllReadyH.cons rfl (fun K hK => ?_) AllReadyH.nil
                go_simp
                try go_wp2_with fail
                refine hK.out _ _ ?_ (fun hHeld => ?_)
                · ((try dsimp only); exact ⟨((hbf.alloc hbf.size _).cell (p := ⟨w.heap.size + 1, 0, none⟩) (Lib.lt_of_cell y0)).trans y0, ((hbf.alloc hbf.size _).cell (p := ⟨w.heap.size + 1, 1, none⟩) (Lib.lt_of_cell y1)).trans y1, ((hbf.alloc hbf.size _).cell (p := ⟨ob, off + i * 5 + 2, none⟩) (Lib.lt_of_cell q2)).trans q2⟩)
                clear hK K
                try simp only [Act.put, List.setIfInBounds_toArray, List.set_cons_zero, List.set_cons_succ, List.getElem_toArray, List.getElem_cons_zero, List.getElem_cons_succ]
                refine wpAnyH_ready (rs := [12]) (by kernel_rfl) (by simp) ?_
                refine AllReadyH.cons rfl (fun K hK => ?_) AllReadyH.nil
                go_simp
                try go_wp2_with fail
                refine hK.out _ _ ?_ (fun hHeld => ?_)
                · ((try dsimp only); exact ⟨((hbf.alloc hbf.size _).cell (p := ⟨w.heap.size + 1, 0, none⟩) (Lib.lt_of_cell y0)).trans y0, ((hbf.alloc hbf.size _).cell (p := ⟨w.heap.size + 1, 1, none⟩) (Lib.lt_of_cell y1)).trans y1, ((hbf.alloc hbf.size _).cell (p := ⟨ob, off + i * 5 + 2, none⟩) (Lib.lt_of_cell q2)).trans q2⟩)
                clear hK K
                try simp only [Act.put, List.setIfInBounds_toArray, List.set_cons_zero, List.set_cons_succ, List.getElem_toArray, List.getElem_cons_zero, List.getElem_cons_succ]
                refine wpAnyH_take (i := 13) (v := ?_) rfl (by kernel_rfl) (by kernel_rfl) (by kernel_rfl) (fun _ _ _ h => h) (Or.inl ⟨by rfl, ?_⟩) (by assumption) ?_
                rotate_left 1
                · (intro w hSw; (try dsimp only at hSw); first | (go_simp; done) | (go_simp; with_reducible rfl))
                try simp only [Act.put, List.setIfInBounds_toArray, List.set_cons_zero, List.set_cons_succ, List.getElem_toArray, List.getElem_cons_zero, List.getElem_cons_succ]
                refine wpAnyH_done (by kernel_rfl) ?_ _
                go_wp2_with fail
                go_meet
                exact ⟨_, rfl, rfl, (trip_cells (heap_alloc_new wf (.cells #[.int .i64 f1, .int .i64 f2, .int .u64 f3] 40))).2.2.1, hbf.alloc hbf.size _⟩
              · have hba : Below we.heap.size we (wt.alloc (.cells #[.int .i64 0, .int .i64 0, .int .u64 0] 40)) := hbt.alloc hbt.size _
                go_simp
                try go_wp2_with fail
                refine hK.out _ _ ?_ (fun hHeld => ?_)
                · ((try dsimp only); exact ⟨(hba.cell (p := ⟨w.heap.size + 1, 0, none⟩) (Lib.lt_of_cell y0)).trans y0, (hba.cell (p := ⟨w.heap.size + 1, 1, none⟩) (Lib.lt_of_cell y1)).trans y1, (hba.cell (p := ⟨ob, off + i * 5 + 2, none⟩) (Lib.lt_of_cell q2)).trans q2⟩)
                clear hK K
                try simp only [Act.put, List.setIfInBounds_toArray, List.set_cons_zero, List.set_cons_succ, List.getElem_toArray, List.getElem_cons_zero, List.getElem_cons_succ]
                refine wpAnyH_ready (rs := [7]) (by kernel_rfl) (by simp) ?_
                refine AllReadyH.cons rfl (fun K hK => ?_) AllReadyH.nil
                go_simp
                go_at_call 10
                refine (HFC.out _ _ _ (hsl.below ((Below.refl _ _).alloc (Nat.le_refl _) _))).mono ?_
                rintro e wf ⟨rfl, hcf⟩
                have hbf := hba.trans (hcf.mono hba.size)
                try go_wp2_with fail
                refine hK.out _ _ ?_ (fun hHeld => ?_)
                · ((try dsimp only); exact ⟨(hbf.cell (p := ⟨w.heap.size + 1, 0, none⟩) (Lib.lt_of_cell y0)).trans y0, (hbf.cell (p := ⟨w.heap.size + 1, 1, none⟩) (Lib.lt_of_cell y1)).trans y1, (hbf.cell (p := ⟨ob, off + i * 5 + 2, none⟩) (Lib.lt_of_cell q2)).trans q2⟩)
                clear hK K
                try simp only [Act.put, List.setIfInBounds_toArray, List.set_cons_zero, List.set_cons_succ, List.getElem_toArray, List.getElem_cons_zero, List.getElem_cons_succ]
                refine wpAnyH_take (i := 8) (v := ?_) rfl (by kernel_rfl) (by kernel_rfl) (by kernel_rfl) (fun _ _ _ h => h) (Or.inl ⟨by rfl, ?_⟩) (by assumption) ?_
                rotate_left 1
                · (intro w hSw; (try dsimp only at hSw); first | (go_simp; done) | (go_simp; with_reducible rfl))
                try simp only [Act.put, List.setIfInBounds_toArray, List.set_cons_zero, List.set_cons_succ, List.getElem_toArray, List.getElem_cons_zero, List.getElem_cons_succ]
                refine wpAnyH_take (i := 9) (v := ?_) rfl (by kernel_rfl) (by kernel_rfl) (by kernel_rfl) (fun _ _ _ h => h) (Or.inl ⟨by rfl, ?_⟩) (by assumption) ?_
                rotate_left 1
                · (intro w hSw; (try dsimp only at hSw); first | (go_simp; done) | (go_simp; with_reducible rfl))
                try simp only [Act.put, List.setIfInBounds_toArray, List.set_cons_zero, List.set_cons_succ, List.getElem_toArray, List.getElem_cons_zero, List.getElem_cons_succ]
                refine wpAnyH_take (i := 10) (v := ?_) rfl (by kernel_rfl) (by kernel_rfl) (by kernel_rfl) (fun _ _ _ h => h) (Or.inl ⟨by rfl, ?_⟩) (by assumption) ?_
                rotate_left 1
                · (intro w hSw; (try dsimp only at hSw); first | (go_simp; done) | (go_simp; with_reducible rfl))
                try simp only [Act.put, List.setIfInBounds_toArray, List.set_cons_zero, List.set_cons_succ, List.getElem_toArray, List.getElem_cons_zero, List.getElem_cons_succ]
                have hzz := (hcf.block wt.heap.size (by simp)).trans (heap_alloc_new wt (.cells #[.int .i64 0, .int .i64 0, .int .u64 0] 40))
                obtain ⟨z0, z1, z2, zf⟩ := trip_cells hzz
                have zf0 := zf 0
                have zf1 := zf 1
                have zf2 := zf 2
                clear zf
                refine wpAnyH_ready (rs := [12]) (by kernel_rfl) (by simp) ?_
                refine AllReadyH.cons rfl (fun K hK => ?_) AllReadyH.nil
                go_simp
                try go_wp2_with fail
                refine hK.out _ _ ?_ (fun hHeld => ?_)
                · ((try dsimp only); exact ⟨((((hbf.setCell (p := ⟨wt.heap.size, 0, none⟩) hbt.size _).setCell (p := ⟨wt.heap.size, 1, none⟩) hbt.size _).setCell (p := ⟨wt.heap.size, 2, none⟩) hbt.size _).cell (p := ⟨w.heap.size + 1, 0, none⟩) (Lib.lt_of_cell y0)).trans y0, ((((hbf.setCell (p := ⟨wt.heap.size, 0, none⟩) hbt.size _).setCell (p := ⟨wt.heap.size, 1, none⟩) hbt.size _).setCell (p := ⟨wt.heap.size, 2, none⟩) hbt.size _).cell (p := ⟨w.heap.size + 1, 1, none⟩) (Lib.lt_of_cell y1)).trans y1, ((((hbf.setCell (p := ⟨wt.heap.size, 0, none⟩) hbt.size _).setCell (p := ⟨wt.heap.size, 1, none⟩) hbt.size _).setCell (p := ⟨wt.heap.size, 2, none⟩) hbt.size _).cell (p := ⟨ob, off + i * 5 + 2, none⟩) (Lib.lt_of_cell q2)).trans q2⟩)
                clear hK K
                try simp only [Act.put, List.setIfInBounds_toArray, List.set_cons_zero, List.set_cons_succ, List.getElem_toArray, List.getElem_cons_zero, List.getElem_cons_succ]
                refine wpAnyH_take (i := 13) (v := ?_) rfl (by kernel_rfl) (by kernel_rfl) (by kernel_rfl) (fun _ _ _ h => h) (Or.inl ⟨by rfl, ?_⟩) (by assumption) ?_
                rotate_left 1
                · (intro w hSw; (try dsimp only at hSw); first | (go_simp; done) | (go_simp; with_reducible rfl))
                try simp only [Act.put, List.setIfInBounds_toArray, List.set_cons_zero, List.set_cons_succ, List.getElem_toArray, List.getElem_cons_zero, List.getElem_cons_succ]
                refine wpAnyH_done (by kernel_rfl) ?_ _
                go_wp2_with fail
                go_meet
                have hz3 := trip_cells (heap_setCell_same _ wt.heap.size 2 _ _ (.int .u64 f3) (heap_setCell_same _ wt.heap.size 1 _ _ (.int .i64 f2) (heap_setCell_same wf wt.heap.size 0 _ _ (.int .i64 f1) hzz)))
                exact ⟨_, rfl, rfl, by simpa using hz3.2.2.1, (((hbf.setCell (p := ⟨wt.heap.size, 0, none⟩) hbt.size _).setCell (p := ⟨wt.heap.size, 1, none⟩) hbt.size _).setCell (p := ⟨wt.heap.size, 2, none⟩) hbt.size _)⟩
            · have hba : Below we.heap.size we (we.drew.alloc (.cells #[.int .i64 0, .int .i64 0, .int .u64 0] 40)) := hb1.alloc hb1.size _
              go_simp
              try go_wp2_with fail
              refine hK.out _ _ ?_ (fun hHeld => ?_)
              · ((try dsimp only); exact ⟨(hba.cell (p := ⟨w.heap.size + 1, 0, none⟩) (Lib.lt_of_cell y0)).trans y0, (hba.cell (p := ⟨w.heap.size + 1, 1, none⟩) (Lib.lt_of_cell y1)).trans y1, (hba.cell (p := ⟨ob, off + i * 5 + 2, none⟩) (Lib.lt_of_cell q2)).trans q2⟩)
              clear hK K
              try simp only [Act.put, List.setIfInBounds_toArray, List.set_cons_zero, List.set_cons_succ, List.getElem_toArray, List.getElem_cons_zero, List.getElem_cons_succ]
              refine wpAnyH_ready (rs := [1]) (by kernel_rfl) (by simp) ?_
              refine AllReadyH.cons rfl (fun K hK => ?_) AllReadyH.nil
              go_simp
              go_at_call 11
              refine (ownto_any (HST2.out.below hba).at_.hands.rd (HST2.out.below hba).at_.held.rd (by have := HLR.out; omega) (by have := HLR.out; omega)).mono ?_
              rintro e wt ⟨vh2, vb2, rfl, hoh, hob, hcb⟩
              have hbt := hba.trans (hcb.mono hba.size)
              have hsl := hoh.sl HOR.out.wfH
              try go_wp2_with fail
              refine hK.out _ _ ?_ (fun hHeld => ?_)
              · ((try dsimp only); exact ⟨(hbt.cell (p := ⟨w.heap.size + 1, 0, none⟩) (Lib.lt_of_cell y0)).trans y0, (hbt.cell (p := ⟨w.heap.size + 1, 1, none⟩) (Lib.lt_of_cell y1)).trans y1, (hbt.cell (p := ⟨ob, off + i * 5 + 2, none⟩) (Lib.lt_of_cell q2)).trans q2⟩)
              clear hK K
              try simp only [Act.put, List.setIfInBounds_toArray, List.set_cons_zero, List.set_cons_succ, List.getElem_toArray, List.getElem_cons_zero, List.getElem_cons_succ]
              refine wpAnyH_ready (rs := [7]) (by kernel_rfl) (by simp) ?_
              refine AllReadyH.cons rfl (fun K hK => ?_) AllReadyH.nil
              go_simp
              go_at_call 10
              refine (HFC.out _ _ _ hsl).mono ?_
              rintro e wf ⟨rfl, hcf⟩
              have hbf := hbt.trans (hcf.mono hbt.size)
              try go_wp2_with fail
              refine hK.out _ _ ?_ (fun hHeld => ?_)
              · ((try dsimp only); exact ⟨(hbf.cell (p := ⟨w.heap.size + 1, 0, none⟩) (Lib.lt_of_cell y0)).trans y0, (hbf.cell (p := ⟨w.heap.size + 1, 1, none⟩) (Lib.lt_of_cell y1)).trans y1, (hbf.cell (p := ⟨ob, off + i * 5 + 2, none⟩) (Lib.lt_of_cell q2)).trans q2⟩)
              clear hK K
              try simp only [Act.put, List.setIfInBounds_toArray, List.set_cons_zero, List.set_cons_succ, List.getElem_toArray, List.getElem_cons_zero, List.getElem_cons_succ]
              refine wpAnyH_take (i := 8) (v := ?_) rfl (by kernel_rfl) (by kernel_rfl) (by kernel_rfl) (fun _ _ _ h => h) (Or.inl ⟨by rfl, ?_⟩) (by assumption) ?_
              rotate_left 1
              · (intro w hSw; (try dsimp only at hSw); first | (go_simp; done) | (go_simp; with_reducible rfl))
              try simp only [Act.put, List.setIfInBounds_toArray, List.set_cons_zero, List.set_cons_succ, List.getElem_toArray, List.getElem_cons_zero, List.getElem_cons_succ]
              refine wpAnyH_take (i := 9) (v := ?_) rfl (by kernel_rfl) (by kernel_rfl) (by kernel_rfl) (fun _ _ _ h => h) (Or.inl ⟨by rfl, ?_⟩) (by assumption) ?_
              rotate_left 1
              · (intro w hSw; (try dsimp only at hSw); first | (go_simp; done) | (go_simp; with_reducible rfl))
              try simp only [Act.put, List.setIfInBounds_toArray, List.set_cons_zero, List.set_cons_succ, List.getElem_toArray, List.getElem_cons_zero, List.getElem_cons_succ]
              refine wpAnyH_take (i := 10) (v := ?_) rfl (by kernel_rfl) (by kernel_rfl) (by kernel_rfl) (fun _ _ _ h => h) (Or.inl ⟨by rfl, ?_⟩) (by assumption) ?_
              rotate_left 1
              · (intro w hSw; (try dsimp only at hSw); first | (go_simp; done) | (go_simp; with_reducible rfl))
              try simp only [Act.put, List.setIfInBounds_toArray, List.set_cons_zero, List.set_cons_succ, List.getElem_toArray, List.getElem_cons_zero, List.getElem_cons_succ]
              have hzz := (hcf.block we.heap.size (by have h := hcb.size; simp at h; omega)).trans ((hcb.block we.heap.size (by simp)).trans (heap_alloc_new we.drew (.cells #[.int .i64 0, .int .i64 0, .int .u64 0] 40)))
              obtain ⟨z0, z1, z2, zf⟩ := trip_cells hzz
              have zf0 := zf 0
              have zf1 := zf 1
              have zf2 := zf 2
              clear zf
              refine wpAnyH_ready (rs := [12]) (by kernel_rfl) (by simp) ?_
              refine AllReadyH.cons rfl (fun K hK => ?_) AllReadyH.nil
              go_simp
              try go_wp2_with fail
              refine hK.out _ _ ?_ (fun hHeld => ?_)
              · ((try dsimp only); exact ⟨((((hbf.setCell (p := ⟨we.heap.size, 0, none⟩) (Nat.le_refl _) _).setCell (p := ⟨we.heap.size, 1, none⟩) (Nat.le_refl _) _).setCell (p := ⟨we.heap.size, 2, none⟩) (Nat.le_refl _) _).cell (p := ⟨w.heap.size + 1, 0, none⟩) (Lib.lt_of_cell y0)).trans y0, ((((hbf.setCell (p := ⟨we.heap.size, 0, none⟩) (Nat.le_refl _) _).setCell (p := ⟨we.heap.size, 1, none⟩) (Nat.le_refl _) _).setCell (p := ⟨we.heap.size, 2, none⟩) (Nat.le_refl _) _).cell (p := ⟨w.heap.size + 1, 1, none⟩) (Lib.lt_of_cell y1)).trans y1, ((((hbf.setCell (p := ⟨we.heap.size, 0, none⟩) (Nat.le_refl _) _).setCell (p := ⟨we.heap.size, 1, none⟩) (Nat.le_refl _) _).setCell (p := ⟨we.heap.size, 2, none⟩) (Nat.le_refl _) _).cell (p := ⟨ob, off + i * 5 + 2, none⟩) (Lib.lt_of_cell q2)).trans q2⟩)
              clear hK K
              try simp only [Act.put, List.setIfInBounds_toArray, List.set_cons_zero, List.set_cons_succ, List.getElem_toArray, List.getElem_cons_zero, List.getElem_cons_succ]
              refine wpAnyH_take (i := 13) (v := ?_) rfl (by kernel_rfl) (by kernel_rfl) (by kernel_rfl) (fun _ _ _ h => h) (Or.inl ⟨by rfl, ?_⟩) (by assumption) ?_
              rotate_left 1
              · (intro w hSw; (try dsimp only at hSw); first | (go_simp; done) | (go_simp; with_reducible rfl))
              try simp only [Act.put, List.setIfInBounds_toArray, List.set_cons_zero, List.set_cons_succ, List.getElem_toArray, List.getElem_cons_zero, List.getElem_cons_succ]
              refine wpAnyH_done (by kernel_rfl) ?_ _
              go_wp2_with fail
              go_meet
              have hz3 := trip_cells (heap_setCell_same _ we.heap.size 2 _ _ (.int .u64 f3) (heap_setCell_same _ we.heap.size 1 _ _ (.int .i64 f2) (heap_setCell_same wf we.heap.size 0 _ _ (.int .i64 f1) hzz)))
              exact ⟨_, rfl, rfl, by simpa using hz3.2.2.1, (((hbf.setCell (p := ⟨we.heap.size, 0, none⟩) (Nat.le_refl _) _).setCell (p := ⟨we.heap.size, 1, none⟩) (Nat.le_refl _) _).setCell (p := ⟨we.heap.size, 2, none⟩) (Nat.le_refl _) _)⟩
          case rest =>
            obtain ⟨bf, rfl, rfl, hf3, hb⟩ := hcut
            refine ‹∀ (a : Act) (w : World), Code.wp _ _ _ a w → _› _ _ ?_
            have HST3 := Lib.hid (HST2.out.below hb)
            obtain ⟨y0, y1, _⟩ := pair_cells HST3.out.hy
            obtain ⟨_, _, q2, _⟩ := HAT.out.below HST3.out.bel
            go_upto_region 13 with fail
            refine wp_region_held_drew (S := (fun w' => w'.cell? ⟨w.heap.size + 1, 0, none⟩ = some (.slice b1 k1 d1) ∧ w'.cell? ⟨w.heap.size + 1, 1, none⟩ = some (.slice b2 k2 d2) ∧ w'.cell? ⟨ob, off + i * 5 + 2, none⟩ = some (.int .i64 x.nm))) (by kernel_rfl) ?_ (fun hHeld => ?_)
            · ((try dsimp only); exact ⟨y0, y1, q2⟩)
            have hb1 := below_drewN (Below.refl wc.heap.size wc) 1
            refine wpAnyH_take (i := 0) (v := ?_) rfl (by kernel_rfl) (by kernel_rfl) (by kernel_rfl) (fun _ _ _ h => h) (Or.inl ⟨by rfl, ?_⟩) (by assumption) ?_
            rotate_left 1
            · (intro w hSw; (try dsimp only at hSw); first | (go_simp; done) | (go_simp; with_reducible rfl))
            try simp only [Act.put, List.setIfInBounds_toArray, List.set_cons_zero, List.set_cons_succ, List.getElem_toArray, List.getElem_cons_zero]
            refine wpAnyH_take (i := 1) (v := ?_) rfl (by kernel_rfl) (by kernel_rfl) (by kernel_rfl) (fun _ _ _ h => h) (Or.inl ⟨by rfl, ?_⟩) (by assumption) ?_
            rotate_left 1
            · (intro w hSw; (try dsimp only at hSw); first | (go_simp; done) | (go_simp; with_reducible rfl))
            try simp only [Act.put, List.setIfInBounds_toArray, List.set_cons_zero, List.set_cons_succ, List.getElem_toArray, List.getElem_cons_zero, List.getElem_cons_succ]
            refine wpAnyH_take (i := 2) (v := ?_) rfl (by kernel_rfl) (by kernel_rfl) (by kernel_rfl) (fun _ _ _ h => h) (Or.inl ⟨by rfl, ?_⟩) (by assumption) ?_
            rotate_left 1
            · (intro w hSw; (try dsimp only at hSw); first | (go_simp; done) | (go_simp; with_reducible rfl))
            try simp only [Act.put, List.setIfInBounds_toArray, List.set_cons_zero, List.set_cons_succ, List.getElem_toArray, List.getElem_cons_zero, List.getElem_cons_succ]
            refine wpAnyH_take (i := 3) (v := ?_) rfl (by kernel_rfl) (by kernel_rfl) (by kernel_rfl) (fun _ _ _ h => h) (Or.inl ⟨by rfl, ?_⟩) (by assumption) ?_
            rotate_left 1
            · (intro w hSw; (try dsimp only at hSw); first | (go_simp; done) | (go_simp; with_reducible rfl))
            try simp only [Act.put, List.setIfInBounds_toArray, List.set_cons_zero, List.set_cons_succ, List.getElem_toArray, List.getElem_cons_zero, List.getElem_cons_succ]
            refine wpAnyH_take (i := 4) (v := ?_) rfl (by kernel_rfl) (by kernel_rfl) (by kernel_rfl) (fun _ _ _ h => h) (Or.inl ⟨by rfl, ?_⟩) (by assumption) ?_
            rotate_left 1
            · (intro w hSw; (try dsimp only at hSw); first | (go_simp; done) | (go_simp; with_reducible rfl))
            try simp only [Act.put, List.setIfInBounds_toArray, List.set_cons_zero, List.set_cons_succ, List.getElem_toArray, List.getElem_cons_zero, List.getElem_cons_succ]
            refine wpAnyH_take (i := 5) (v := ?_) rfl (by kernel_rfl) (by kernel_rfl) (by kernel_rfl) (fun _ _ _ h => h) (Or.inl ⟨by rfl, ?_⟩) (by assumption) ?_
            rotate_left 1
            · (intro w hSw; (try dsimp only at hSw); first | (go_simp; done) | (go_simp; with_reducible rfl))
            try simp only [Act.put, List.setIfInBounds_toArray, List.set_cons_zero, List.set_cons_succ, List.getElem_toArray, List.getElem_cons_zero, List.getElem_cons_succ]
            refine wpAnyH_ready (rs := [6]) (by kernel_rfl) (by simp) ?_
            refine AllReadyH.cons rfl (fun K hK => ?_) AllReadyH.nil
            go_simp
            go_at_call 12
            refine (reffind_any x.nm (HST3.out.below hb1).at_.hands HOR.out.rise).mono ?_
            rintro e wg ⟨rfl, hcg⟩
            have hbg := hb1.trans (hcg.mono hb1.size)
            try go_wp2_with fail
            refine hK.out _ _ ?_ (fun hHeld => ?_)
            · ((try dsimp only); exact ⟨(hbg.cell (p := ⟨w.heap.size + 1, 0, none⟩) (Lib.lt_of_cell y0)).trans y0, (hbg.cell (p := ⟨w.heap.size + 1, 1, none⟩) (Lib.lt_of_cell y1)).trans y1, (hbg.cell (p := ⟨ob, off + i * 5 + 2, none⟩) (Lib.lt_of_cell q2)).trans q2⟩)
            clear hK K
            try simp only [Act.put, List.setIfInBounds_toArray, List.set_cons_zero, List.set_cons_succ, List.getElem_toArray, List.getElem_cons_zero, List.getElem_cons_succ]
            refine wpAnyH_take (i := 7) (v := ?_) rfl (by kernel_rfl) (by kernel_rfl) (by kernel_rfl) (fun _ _ _ h => h) (Or.inl ⟨by rfl, ?_⟩) (by assumption) ?_
            rotate_left 1
            · (intro w hSw; (try dsimp only at hSw); first | (go_simp; done) | (go_simp; with_reducible rfl))
            try simp only [Act.put, List.setIfInBounds_toArray, List.set_cons_zero, List.set_cons_succ, List.getElem_toArray, List.getElem_cons_zero, List.getElem_cons_succ]
            refine wpAnyH_done (by kernel_rfl) ?_ _
            replace hf3 := (hbg.cell (p := ⟨bf, 2, none⟩) (Lib.lt_of_cell hf3)).trans hf3
            have HST4 := Lib.hid (HST3.out.below hbg)
            clear y0 y1 q2 hb1 hcg hbg hb
            obtain ⟨y0, y1, _⟩ := pair_cells HST4.out.hy
            cases bk with
            | false =>
              have hre := refIdx_no HBE.out.1.symm
              rw [hre]
              go_wp2_with fail
              go_quiet (fail)
              have HST5 := Lib.hid (HST4.out.below (below_drewN (Below.refl wg.heap.size wg) nq))
              go_wp2_with fail
              go_roundg (gk - 1)
              case measure => have := HIK.out; have := HI.out; omega
              case rel => exact ⟨i + 1, R.hs, R.bs, b1, k1, d1, b2, k2, d2, by have := HIK.out; have := HI.out; omega, by have := HI.out; omega, by go_num, HST5⟩
            | true =>
              have hre := refIdx_yes HBE.out.1.symm
              obtain ⟨y, hy, hfy⟩ := HBE.out.2 rfl
              have hil := (List.getElem?_eq_some_iff.1 hy).1
              rw [hre]
              obtain ⟨qo, qc, qe, qcell, _⟩ := HST4.out.at_.hands
              simp only [Value.slice.injEq] at qe
              obtain ⟨rfl, rfl, rfl⟩ := qe
              obtain ⟨qb, qf, rfl, qcc⟩ := qcell.resolve_left (fun h => by rw [h.2] at hil; simp at hil)
              obtain ⟨_, _, c2⟩ := qcc _ _ hy
              subst hfy
              obtain ⟨ix, hix⟩ : ∃ ix, ix = idx R.hs x.nm := ⟨_, rfl⟩
              rw [← hix] at hil c2
              rw [← hix]
              have hx0 : (0 : Int) ≤ (ix : Int) := Int.natCast_nonneg _
              have hx1 : (ix : Int) < (R.hs.length : Int) := by omega
              have hx2 : decide ((0 : Int) ≤ (ix : Int)) = true := decide_eq_true hx0
              clear hix qcell qcc hre
              go_wp2_with fail
              go_quiet (fail)
              have HST5 := Lib.hid (HST4.out.below (below_drewN (Below.refl wg.heap.size wg) nq))
              go_wp2_with fail
              go_roundg (gk - 1)
              case measure => have := HIK.out; have := HI.out; omega
              case rel => exact ⟨i + 1, R.hs, R.bs, _, _, _, _, _, _, by have := HIK.out; have := HI.out; omega, by have := HI.out; omega, by go_num, HST5⟩
      · have h41 : decide ((i : Int) < 40) = false := decide_eq_false (by omega)
        go_wp2_with fail
        go_ret
        exact ⟨rfl, HST.out.bel⟩
    · have hlt1 : decide ((i : Int) < (OL.length : Int)) = false := decide_eq_false (by omega)
      go_wp2_with fail
      go_ret
      exact ⟨rfl, HST.out.bel⟩
end Go.Proofs.YtlkljeedlkbkgaaGreatDoor.Cl
