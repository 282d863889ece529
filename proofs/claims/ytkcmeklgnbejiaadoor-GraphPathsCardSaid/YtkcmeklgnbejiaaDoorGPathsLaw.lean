
/-
  PACKAGE marchlandlaw05: GraphPaths.
-/
import Derived.Test.YtkcmeklgnbejiaaDoorGTold
import Derived.Deep.QuietTactic
import Derived.BigQuiet
namespace Go.Proofs.YtkcmeklgnbejiaaDoor.Gr
open Go.RowKit Go.Deep Go.Proofs.YtkcmeklgnbejiaaDoor.Fault
set_option linter.unusedVariables false
set_option linter.unusedSimpArgs false

theorem Own.form2 {w : World} {base : Nat} {T : TypeId} {v : Value} {l : List Ed} (h : Own w base T v l) : ∃ ao cap, v = .slice ao l.length cap := by
  rcases h.2 with ⟨h, h0⟩ | ⟨g, cap, cur, h, _⟩
  · exact ⟨none, 0, by rw [h, h0]⟩
  · exact ⟨_, _, h⟩
theorem quiet_past {P : Program} {f : Nat} {args : Array Value} {v : Value} {w : World} {a n : Nat} (h : Calls P f args (w.drewN (a + n)) fun e w' => e = .returned v ∧ w' = w.drewN (a + n)) :
    Calls P f args (w.drewN (a + n)) fun e w'' => e = .returned v ∧ ∃ m, w'' = w.drewN (a + m) := h.mono fun _ _ ⟨he, hm⟩ => ⟨he, n, hm⟩
theorem GOk.inlen {n : Nat} {E : List Ed} {I : List Int} (h : GOk n E I) : I.length ≤ 8 := by
  by_cases h8 : I.length ≤ 8
  · exact h8
  · have hc := h.chk
    unfold chkV at hc
    rw [if_neg (by have := h.n0; have := h.n1; omega), if_neg (by have := h.len; omega)] at hc
    by_cases he : (edgesV (n : Int) 0 E).2 ≠ 0
    · rw [if_pos he] at hc
      rw [hc] at he
      exact absurd rfl he
    · rw [if_neg he, if_pos (.inr (by omega))] at hc
      simp at hc
theorem edge_le {E : List Ed} {n : Nat} {D : Nat → Nat → Int} (hE : Fits E n) (h : LeastM E true n D) {e : Ed} (he : e ∈ E) {i j f t : Nat} {mij : Int} (hi : i < n) (hf : e.f = f) (ht : e.t = t) (hfn : f < n) (htn : t < n) (hm : mij = D i j) (hj : j = t) : mij ≤ plusN (D i f) e.a := by
  subst hj
  rw [hm]
  exact least_edge hE he (by rw [ht]; exact h i j hi htn) (by rw [hf]; exact h i f hi hfn)
/-- The last edge of a shortest way was met among the first edges (or need not be). -/
def LastB (E : List Ed) (D : Nat → Int) (j mij : Int) (b0 : Bool) (y : Nat) (bv : Bool) : Prop := bv = true ↔ (b0 = true ∨ ∃ e ∈ E.take y, e.t = j ∧ plusN (D e.f.toNat) e.a = mij)
theorem LastB.start (E : List Ed) (D : Nat → Int) (j mij : Int) (b0 : Bool) : LastB E D j mij b0 0 b0 := by unfold LastB; simp
theorem LastB.step {E : List Ed} {D : Nat → Int} {j mij : Int} {b0 : Bool} {y : Nat} {bv : Bool} (h : LastB E D j mij b0 y bv) {e : Ed} (hx : E[y]? = some e) : LastB E D j mij b0 (y + 1) (bv || decide (e.t = j ∧ plusN (D e.f.toNat) e.a = mij)) := by
  unfold LastB at *
  rw [take_succ' hx, Bool.or_eq_true, h, decide_eq_true_iff, or_assoc]
  refine or_congr_right ⟨?_, ?_⟩
  · rintro (⟨e', he', h1⟩ | h1)
    · exact ⟨e', List.mem_append_left _ he', h1⟩
    · exact ⟨e, by simp, h1⟩
  · rintro ⟨e', he', h1⟩
    rcases List.mem_append.1 he' with h2 | h2
    · exact .inl ⟨e', h2, h1⟩
    · simp at h2
      subst h2
      exact .inr h1
theorem LastB.keep {E : List Ed} {D : Nat → Int} {j mij : Int} {b0 : Bool} {y : Nat} (h : LastB E D j mij b0 y true) {e : Ed} (hx : E[y]? = some e) : LastB E D j mij b0 (y + 1) true := by
  have := h.step hx
  rwa [Bool.true_or] at this
theorem LastB.skip {E : List Ed} {D : Nat → Int} {j mij : Int} {b0 : Bool} {y : Nat} {bv : Bool} (h : LastB E D j mij b0 y bv) {e : Ed} (hx : E[y]? = some e) (hn : ¬ (e.t = j ∧ plusN (D e.f.toNat) e.a = mij)) : LastB E D j mij b0 (y + 1) bv := by
  have := h.step hx
  rwa [decide_eq_false hn, Bool.or_false] at this
theorem LastB.hit {E : List Ed} {D : Nat → Int} {j mij : Int} {b0 : Bool} {y : Nat} {bv : Bool} (h : LastB E D j mij b0 y bv) {e : Ed} (hx : E[y]? = some e) (hn : e.t = j ∧ plusN (D e.f.toNat) e.a = mij) : LastB E D j mij b0 (y + 1) true := by
  have := h.step hx
  rwa [decide_eq_true hn, Bool.or_true] at this
theorem LastB.done {E : List Ed} {n : Nat} {D : Nat → Int} {i j : Nat} {mij : Int} {b0 : Bool} {y : Nat} {bv : Bool} (h : LastB E D j mij b0 y bv) (hy : E.length ≤ y) (hb : b0 = true ↔ (i = j ∨ mij = 18446744073709551615)) (hE : Fits E n) (h0 : IsLeast E true i j mij) (hD : ∀ k : Nat, k < n → IsLeast E true i k (D k)) : bv = true := by
  refine h.2 ?_
  by_cases hb0 : i = j ∨ mij = 18446744073709551615
  · exact .inl (hb.2 hb0)
  · refine .inr ?_
    rw [take_all hy]
    exact least_last (D := fun k => D k.toNat) hE (by omega) (by omega) h0 (fun k h0 h1 => by
      have := hD k.toNat (by omega)
      rwa [show ((k.toNat : Nat) : Int) = k by omega] at this)
set_option maxRecDepth 1000000 in
set_option maxHeartbeats 16000000 in
theorem gpaths_any {w : World} {ve vi : Value} {E : List Ed} {I : List Int} (n : Int) (hL : LV w) (hg : GMemP w ve vi E I) :
    Calls Tryd.prog 4 #[.agg #[.int .i64 n, ve, vi]] w fun e w' => e = .returned (.bool true) ∧ Below w.heap.size w w' := by
  have HL := Lib.hid hL
  obtain ⟨hge, hgi⟩ := hg
  have hge0 := hge
  have hgi0 := hgi
  obtain ⟨ao, cap, rfl, _⟩ := hge0
  obtain ⟨aoi, capi, rfl, _⟩ := hgi0
  obtain ⟨w0, hw0⟩ : ∃ w0, w0 = w.alloc (.cells #[.int .i64 n, .slice ao E.length cap, .slice aoi I.length capi] 25) := ⟨_, rfl⟩
  have hb0 : Below w.heap.size w w0 := by rw [hw0]; exact (Below.refl _ _).alloc (Nat.le_refl _) _
  have hs0 : w0.heap.size = w.heap.size + 1 := by rw [hw0]; simp
  have hx0 : w0.heap[w.heap.size]? = some (.cells #[.int .i64 n, .slice ao E.length cap, .slice aoi I.length capi] 25 (0, 0)) := by rw [hw0]; exact heap_alloc_new w _
  have HG := Lib.hid (show GMemP w0 (.slice ao E.length cap) (.slice aoi I.length capi) E I from ⟨hge.below hb0, hgi.below hb0⟩)
  have HX0 := Lib.hid hx0
  have HB0 := Lib.hid hb0
  have HS0 := Lib.hid hs0
  clear hge hgi hL hb0 hs0 hx0
  go_enter Tryd.func4, Tryd.ntmps4
  go_wp2_with fail
  go_at_call 18
  rw [← hw0]
  clear hw0
  refine (gfix_any n HG.out).mono ?_
  rintro e w1 ⟨m, ve1, vi1, E1, I1, hm6, hl12, rfl, hgm, hoe, hoi, hok, hb⟩
  obtain ⟨aoE, capE, rfl⟩ := hoe.form2
  obtain ⟨aoI, capI, rfl⟩ := hoi.form
  have hx1 := (hb.block _ (by rw [HS0.out]; omega)).trans HX0.out
  obtain ⟨y0, y1, y2, yf⟩ := three_cells hx1
  have yf0 := yf 0
  have yf1 := yf 1
  have yf2 := yf 2
  have hr1 := heap_setCell_same w1 w.heap.size 0 _ _ (.int .i64 (m : Int)) hx1
  have hr2 := heap_setCell_same _ w.heap.size 1 _ _ (.slice aoE E1.length capE) hr1
  have hr3 := heap_setCell_same _ w.heap.size 2 _ _ (.slice aoI I1.length capI) hr2
  have hbe := World.ownsRow.lt hoe
  have hbi := World.ownsRow.lt hoi
  rw [HS0.out] at hbe hbi
  obtain ⟨w2, hw2⟩ : ∃ w2, w2 = ((w1.setCell ⟨w.heap.size, 0, none⟩ (.int .i64 (m : Int))).setCell ⟨w.heap.size, 1, none⟩ (.slice aoE E1.length capE)).setCell ⟨w.heap.size, 2, none⟩ (.slice aoI I1.length capI) := ⟨_, rfl⟩
  have hoe2 : Own w2 (w0.heap.size + 3) 51 (.slice aoE E1.length capE) E1 := by
    rw [hw2]
    exact ownsRow_setCell_other (ownsRow_setCell_other (ownsRow_setCell_other hoe (fun e => by have := (hbe _ e).1; first | omega | (simp at this; done) | (simp at this; omega)) _) (fun e => by have := (hbe _ e).1; first | omega | (simp at this; done) | (simp at this; omega)) _) (fun e => by have := (hbe _ e).1; first | omega | (simp at this; done) | (simp at this; omega)) _
  have hoi2 : OwnI w2 (w0.heap.size + 3) 3 (.slice aoI I1.length capI) I1 := by
    rw [hw2]
    exact ownsRow_setCell_other (ownsRow_setCell_other (ownsRow_setCell_other hoi (fun e => by have := (hbi _ e).1; first | omega | (simp at this; done) | (simp at this; omega)) _) (fun e => by have := (hbi _ e).1; first | omega | (simp at this; done) | (simp at this; omega)) _) (fun e => by have := (hbi _ e).1; first | omega | (simp at this; done) | (simp at this; omega)) _
  have HGE := Lib.hid (show GMemP w2 (.slice aoE E1.length capE) (.slice aoI I1.length capI) E1 I1 from ⟨hoe2.rd hgm.ed.wf, hoi2.rd hgm.inp.wf⟩)
  have HB := Lib.hid (show Below w.heap.size w w2 by rw [hw2]; exact (((HB0.out.trans (hb.mono (by rw [HS0.out]; omega))).setCell (Nat.le_refl _) _).setCell (Nat.le_refl _) _).setCell (Nat.le_refl _) _)
  have HX := Lib.hid (show w2.heap[w.heap.size]? = some (.cells #[.int .i64 (m : Int), .slice aoE E1.length capE, .slice aoI I1.length capI] 25 (0, 0)) by rw [hw2]; simpa using hr3)
  have HOK := Lib.hid hok
  have HM6 := Lib.hid (And.intro hm6 hl12)
  clear hgm hoe hoi hok hb hx1 yf hr1 hr2 hr3 hbe hbi hoe2 hoi2 HG HX0 HS0 HB0 hm6 hl12
  go_upto_region 2 with fail
  rw [← hw2]
  clear hw2 y0 y1 y2 yf0 yf1 yf2
  obtain ⟨x0, x1, x2, _⟩ := three_cells HX.out
  go_wp2_with fail
  go_at_call 9
  refine (gto_any (m : Int) HGE.out (by have := HM6.out; omega) (by have := HOK.out.inlen; omega)).mono ?_
  rintro e w3 ⟨ve3, vi3, rfl, hg3, hb⟩
  have hg30 := hg3
  obtain ⟨⟨ao3, cap3, rfl, _⟩, ⟨ai3, ci3, rfl, _⟩⟩ := hg30
  have HG3 := Lib.hid hg3
  replace HGE := Lib.hid (HGE.out.below hb)
  replace HX := Lib.hid ((hb.block _ (Array.getElem?_eq_some_iff.1 HX.out).1).trans HX.out)
  replace HB := Lib.hid (HB.out.trans (hb.mono HB.out.size))
  clear hg3 hb x0 x1 x2
  go_wp2_with fail
  go_at_call 14
  refine (paths_any HG3.out.ed HG3.out.inp HOK.out).mono ?_
  rintro e w4 ⟨v4, M, rfl, ⟨g, r, rfl, hmat⟩, hlst, hb⟩
  have HMAT := Lib.hid hmat
  have HLST := Lib.hid hlst
  replace HGE := Lib.hid (HGE.out.below hb)
  replace HX := Lib.hid ((hb.block _ (Array.getElem?_eq_some_iff.1 HX.out).1).trans HX.out)
  replace HB := Lib.hid (HB.out.trans (hb.mono HB.out.size))
  clear HG3 hmat hlst hb
  go_wp2_with fail
  go_at_call 11
  refine (gtold_any _ (HL.out.below HB.out)).mono ?_
  rintro e w5 ⟨rfl, hb⟩
  replace HMAT := Lib.hid (HMAT.out.below hb)
  replace HGE := Lib.hid (HGE.out.below hb)
  replace HX := Lib.hid ((hb.block _ (Array.getElem?_eq_some_iff.1 HX.out).1).trans HX.out)
  replace HB := Lib.hid (HB.out.trans (hb.mono HB.out.size))
  clear hb
  obtain ⟨x0, x1, x2, _⟩ := three_cells HX.out
  go_wp2_with fail
  have hm6 := HM6.out.1
  go_loopg [4] m (fun mm t wr => ∃ i : Nat, i + mm = m ∧ t = .int .i64 (i : Int) ∧ Below w5.heap.size w5 wr)
  case atStart => exact ⟨0, by omega, rfl, Below.refl _ _⟩
  case round =>
    clear x0 x1 x2
    obtain ⟨i, him, rfl, hbw⟩ := hrel
    have HIM := Lib.hid him
    have HBW := Lib.hid hbw
    have hblk := (hbw.block _ (Array.getElem?_eq_some_iff.1 HX.out).1).trans HX.out
    obtain ⟨x0, x1, x2, _⟩ := three_cells hblk
    have HMW := Lib.hid (HMAT.out.below hbw)
    clear him hblk hbw
    by_cases hi : i < m
    · have hi0 : (0 : Int) ≤ (i : Int) := Int.natCast_nonneg _
      have hi1 : (i : Int) < (m : Int) := by omega
      have g0 := HMW.out.top.cell hi
      have d0 := (HMW.out.row i hi).cell hi
      rw [(HLST.out i i hi hi).one (least_here HOK.out.fits (i : Int))] at d0
      have HI := Lib.hid hi
      clear hi
      go_wp2_with fail
      go_quiet (fail)
      go_wp2_with fail
      go_loopg [5] m (fun mm t wq => ∃ j : Nat, j + mm = m ∧ t = .int .i64 (j : Int) ∧ Below w5.heap.size w5 wq)
      case atStart => exact ⟨0, by omega, rfl, below_drewN HBW.out _⟩
      case round =>
        clear x0 x1 x2 g0 d0 HMW HBW
        obtain ⟨j, hjm, rfl, hbw⟩ := hrel
        have HJM := Lib.hid hjm
        have HBW := Lib.hid hbw
        have hblk := (hbw.block _ (Array.getElem?_eq_some_iff.1 HX.out).1).trans HX.out
        obtain ⟨x0, x1, x2, _⟩ := three_cells hblk
        have HMW := Lib.hid (HMAT.out.below hbw)
        clear hjm hblk hbw
        by_cases hj : j < m
        · have hj0 : (0 : Int) ≤ (j : Int) := Int.natCast_nonneg _
          have hj1 : (j : Int) < (m : Int) := by omega
          have g0 := HMW.out.top.cell HI.out
          have gj := HMW.out.top.cell hj
          have d0 := (HMW.out.row i HI.out).cell hj
          obtain ⟨mij, hmij⟩ : ∃ q, q = M i j := ⟨_, rfl⟩
          rw [← hmij] at d0
          have HMIJ := Lib.hid hmij
          have HJ := Lib.hid hj
          clear hj hmij
          go_wp2_with fail
          go_quiet (fail)
          go_upto_region 13 with fail
          go_cut [6] (fun s6 wx => ∃ bl : Bool, s6 = .bool bl ∧ (bl = true ↔ (i = j ∨ mij = 18446744073709551615)) ∧ Below w5.heap.size w5 wx)
          case first =>
            by_cases hij : i = j
            · subst hij
              go_wp2_with fail
              go_meet
              exact ⟨true, rfl, by simp, below_drewN HBW.out _⟩
            · have hij2 : ((i : Int) == (j : Int)) = false := by simp; omega
              by_cases hmn : mij = 18446744073709551615
              · subst hmn
                go_wp2_with fail
                go_meet
                exact ⟨true, rfl, by simp, below_drewN HBW.out _⟩
              · have hmn2 : (mij == 18446744073709551615) = false := by simpa using hmn
                go_wp2_with fail
                go_meet
                exact ⟨false, rfl, by simp [hij, hmn], below_drewN HBW.out _⟩
          case rest =>
            obtain ⟨bl, rfl, hbl, hbx⟩ := hcut
            have HBL := Lib.hid hbl
            have HBX := Lib.hid hbx
            clear x0 x1 x2 g0 gj d0 HMW HBW hbl hbx
            go_wp2_with fail
            go_loopg [7] m (fun mm t wq => ∃ k : Nat, k + mm = m ∧ t = .int .i64 (k : Int) ∧ Below w5.heap.size w5 wq)
            case atStart => exact ⟨0, by omega, rfl, HBX.out⟩
            case round =>
              clear HBX
              obtain ⟨k, hkm, rfl, hbw⟩ := hrel
              have HKM := Lib.hid hkm
              have HBW := Lib.hid hbw
              have hblk := (hbw.block _ (Array.getElem?_eq_some_iff.1 HX.out).1).trans HX.out
              obtain ⟨x0, x1, x2, _⟩ := three_cells hblk
              have HMW := Lib.hid (HMAT.out.below hbw)
              clear hkm hblk hbw
              by_cases hk : k < m
              · have hk0 : (0 : Int) ≤ (k : Int) := Int.natCast_nonneg _
                have hk1 : (k : Int) < (m : Int) := by omega
                have gi := HMW.out.top.cell HI.out
                have gk' := HMW.out.top.cell hk
                have dik := (HMW.out.row i HI.out).cell hk
                have dkj := (HMW.out.row k hk).cell HJ.out
                have dij := (HMW.out.row i HI.out).cell HJ.out
                have htri := least_tri (HLST.out i j HI.out HJ.out) (HLST.out i k HI.out hk) (HLST.out k j hk HJ.out)
                have hu1 := (HLST.out i k HI.out hk).1.1
                have hu2 := (HLST.out k j hk HJ.out).1.1
                obtain ⟨mik, hmik⟩ : ∃ q, q = M i k := ⟨_, rfl⟩
                obtain ⟨mkj, hmkj⟩ : ∃ q, q = M k j := ⟨_, rfl⟩
                rw [← hmik] at dik htri hu1
                rw [← hmkj] at dkj htri hu2
                rw [← HMIJ.out] at dij htri
                have HPS := Lib.hid (fun W => refplus_still mik mkj hu1 hu2 W)
                obtain ⟨ps, hps⟩ : ∃ ps, ps = plusN mik mkj := ⟨_, rfl⟩
                rw [← hps] at htri HPS
                have hnlt : ¬ ps < mij := by omega
                have hnlt2 : decide (ps < mij) = false := by simpa using htri
                have HK := Lib.hid hk
                clear hk hmik hmkj hps hu1 hu2
                go_wp2_with fail
                go_quiet (fail)
                go_wp2_with fail
                go_quiet ((go_at_call 19; exact quiet_past (HPS.out _)))
                go_wp2_with fail
                go_roundg (m - (k + 1))
                case measure => have := HKM.out; have := HK.out; omega
                case rel => exact ⟨k + 1, by have := HKM.out; have := HK.out; omega, by go_num, by first | exact below_drewN HBW.out _ | exact below_drewN (below_drewN HBW.out _) _⟩
              · go_wp2_with fail
                go_quiet (fail)
                go_wp2_with fail
                obtain ⟨wo, rfl⟩ : ∃ wo : World, wo = wr := ⟨_, rfl⟩
                clear x0 x1 x2
                go_loopg [6, 8] E1.length (fun mm t6 t8 wq => ∃ (y : Nat) (bv : Bool), y + mm = E1.length ∧ t6 = .bool bv ∧ t8 = .int .i64 (y : Int) ∧ LastB E1 (M i) (j : Int) mij bl y bv ∧ Below w5.heap.size w5 wq)
                case atStart => exact ⟨0, bl, by omega, rfl, rfl, LastB.start _ _ _ _ _, below_drewN HBW.out _⟩
                case round =>
                  clear HMW HBW
                  obtain ⟨y, bv, hym, rfl, rfl, hlb, hbw⟩ := hrel
                  have HYM := Lib.hid hym
                  have HLB := Lib.hid hlb
                  have HBW := Lib.hid hbw
                  have hblk := (hbw.block _ (Array.getElem?_eq_some_iff.1 HX.out).1).trans HX.out
                  obtain ⟨x0, x1, x2, _⟩ := three_cells hblk
                  have hxlt := (Array.getElem?_eq_some_iff.1 hblk).1
                  have HMW := Lib.hid (HMAT.out.below hbw)
                  clear hym hlb hbw hblk
                  by_cases hy : y < E1.length
                  · obtain ⟨e0, hx0, hxm0⟩ := at_of hy
                    have hfit := HOK.out.fits e0 hxm0
                    obtain ⟨b, off, hao, hcc⟩ := HGE.out.ed.at hx0
                    subst hao
                    have hbl := hcc.lt
                    obtain ⟨c0, c1, c2⟩ := hcc.below HBW.out hbl
                    have hblw : b < wr.heap.size := Nat.lt_of_lt_of_le hbl HBW.out.size
                    obtain ⟨f, hf⟩ : ∃ f : Nat, e0.f = f := ⟨e0.f.toNat, by omega⟩
                    obtain ⟨t, ht⟩ : ∃ t : Nat, e0.t = t := ⟨e0.t.toNat, by omega⟩
                    have hfm : f < m := by omega
                    have htm : t < m := by omega
                    have hedge : j = t → mij ≤ plusN (M i f) e0.a := edge_le HOK.out.fits HLST.out hxm0 HI.out hf ht hfm htm HMIJ.out
                    have HKP := Lib.hid (fun (h : LastB E1 (M i) (j : Int) mij bl y true) => h.keep hx0)
                    have HSK := Lib.hid (fun (h : ¬ (e0.t = j ∧ plusN (M i e0.f.toNat) e0.a = mij)) => HLB.out.skip hx0 h)
                    have HHT := Lib.hid (fun (h : e0.t = j ∧ plusN (M i e0.f.toNat) e0.a = mij) => HLB.out.hit hx0 h)
                    have ha0 : 0 ≤ e0.a := hfit.2.2.2.2.1
                    have ha1 : e0.a ≤ 18446744073709551615 := hfit.2.2.2.2.2
                    obtain ⟨xf, xt, xa⟩ := e0
                    simp only at c0 c1 c2 hf ht ha0 ha1 hedge HKP HSK HHT
                    subst hf ht
                    rw [Int.toNat_natCast] at HSK HHT
                    have hy0 : (0 : Int) ≤ (y : Int) := Int.natCast_nonneg _
                    have hy1 : (y : Int) < (E1.length : Int) := by omega
                    have hf0 : (0 : Int) ≤ (f : Int) := Int.natCast_nonneg _
                    have hf1 : (f : Int) < (m : Int) := by omega
                    have g0 := HMW.out.top.cell HI.out
                    have r0 := (HMW.out.row i HI.out).cell hfm
                    have r1 := (HMW.out.row i HI.out).cell HJ.out
                    have hgl := HMW.out.top.lt
                    have hrl := (HMW.out.row i HI.out).lt
                    have HU1 := Lib.hid (HLST.out i f HI.out hfm).1.1
                    have HU2 := Lib.hid (show 0 ≤ xa ∧ xa ≤ 18446744073709551615 from ⟨ha0, ha1⟩)
                    have HYN := Lib.hid hy
                    have HAL := Lib.hid (fun (W : World) => show Below W.heap.size W ((W.alloc (.cells #[.int .i64 (f : Int), .int .i64 (t : Int), .int .u64 xa] 51))) from ((Below.refl _ _).alloc (Nat.le_refl _) _))
                    obtain ⟨m1, hm1⟩ : ∃ q, q = M i f := ⟨_, rfl⟩
                    rw [← hm1] at r0 HSK HHT HU1 hedge
                    rw [← HMIJ.out] at r1
                    obtain ⟨ps, hps⟩ : ∃ ps, ps = plusN m1 xa := ⟨_, rfl⟩
                    have HPS := Lib.hid (fun W => refplus_still m1 xa HU1.out HU2.out W)
                    rw [← hps] at HSK HHT HPS hedge
                    clear hm1 hps hx0 hxm0 hfit hcc hbl hfm htm hy
                    by_cases htj : t = j
                    · subst htj
                      have hle := hedge rfl
                      have hnlt : ¬ ps < mij := by omega
                      have htb : ((t : Int) == (t : Int)) = true := by simp
                      cases bv
                      · by_cases hpm : ps = mij
                        · subst hpm
                          have HN := Lib.hid (HHT.out ⟨rfl, rfl⟩)
                          clear HKP HSK HHT HLB hedge
                          go_wp2_with fail
                          go_quiet (fail)
                          go_wp2_with fail
                          go_quiet ((go_at_call 19; exact quiet_past (HPS.out _)))
                          go_wp2_with fail
                          go_roundg (gk - 1)
                          case measure => have := HYM.out; have := HYN.out; omega
                          case rel => exact ⟨y + 1, true, by have := HYM.out; have := HYN.out; omega, rfl, by go_num, HN.out, below_drewN (HBW.out.trans ((HAL.out _).mono HBW.out.size)) _⟩
                        · have HN := Lib.hid (HSK.out (fun h => hpm h.2))
                          have hpb : (ps == mij) = false := by simpa using hpm
                          clear HKP HSK HHT HLB hedge
                          go_wp2_with fail
                          go_quiet (fail)
                          go_wp2_with fail
                          go_quiet ((go_at_call 19; exact quiet_past (HPS.out _)))
                          go_wp2_with fail
                          go_roundg (gk - 1)
                          case measure => have := HYM.out; have := HYN.out; omega
                          case rel => exact ⟨y + 1, false, by have := HYM.out; have := HYN.out; omega, rfl, by go_num, HN.out, below_drewN (HBW.out.trans ((HAL.out _).mono HBW.out.size)) _⟩
                      · have HN := Lib.hid (HKP.out HLB.out)
                        clear HKP HSK HHT HLB hedge
                        go_wp2_with fail
                        go_quiet (fail)
                        go_wp2_with fail
                        go_quiet ((go_at_call 19; exact quiet_past (HPS.out _)))
                        go_wp2_with fail
                        go_roundg (gk - 1)
                        case measure => have := HYM.out; have := HYN.out; omega
                        case rel => exact ⟨y + 1, true, by have := HYM.out; have := HYN.out; omega, rfl, by go_num, HN.out, below_drewN (HBW.out.trans ((HAL.out _).mono HBW.out.size)) _⟩
                    · have htb : ((t : Int) == (j : Int)) = false := by simp; omega
                      have HN := Lib.hid (HSK.out (fun h => htj (by have := h.1; omega)))
                      clear HKP HSK HHT HLB hedge
                      go_wp2_with fail
                      go_quiet (fail)
                      go_wp2_with fail
                      go_roundg (gk - 1)
                      case measure => have := HYM.out; have := HYN.out; omega
                      case rel => exact ⟨y + 1, bv, by have := HYM.out; have := HYN.out; omega, rfl, by go_num, HN.out, below_drewN (HBW.out.trans ((HAL.out _).mono HBW.out.size)) _⟩
                  · have hbt : bv = true := HLB.out.done (i := i) (by omega) HBL.out HOK.out.fits (by rw [HMIJ.out]; exact HLST.out i j HI.out HJ.out) (fun k hk => HLST.out i k HI.out hk)
                    subst hbt
                    go_wp2_with fail
                    go_roundg (m - (j + 1))
                    case measure => have := HJM.out; have := HJ.out; omega
                    case rel => exact ⟨j + 1, by have := HJM.out; have := HJ.out; omega, by go_num, HBW.out⟩
        · go_wp2_with fail
          go_quiet (fail)
          go_wp2_with fail
          go_roundg (m - (i + 1))
          case measure => have := HIM.out; have := HI.out; omega
          case rel => exact ⟨i + 1, by have := HIM.out; have := HI.out; omega, by go_num, below_drewN HBW.out _⟩
    · go_wp2_with fail
      go_ret
      exact ⟨rfl, HB.out.trans (HBW.out.mono HB.out.size)⟩
end Go.Proofs.YtkcmeklgnbejiaaDoor.Gr
