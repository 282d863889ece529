
/-
  PACKAGE marchlandlaw05: GraphChecks.
-/
import Derived.Test.YtkcmeklgnbejiaaDoorGFew
import Derived.Test.YtkcmeklgnbejiaaDoorGTold
import Derived.Test.YtkcmeklgnbejiaaDoorFaultRef
import Derived.Deep.RegionHeldLaw
namespace Go.Proofs.YtkcmeklgnbejiaaDoor.Gr
open Go.RowKit Go.Deep Go.Proofs.YtkcmeklgnbejiaaDoor.Fault
set_option linter.unusedVariables false
set_option linter.unusedSimpArgs false

/-- What is told of a wrong graph is small. -/
def SmallV (V : List Pl × Int) : Prop := (∀ x ∈ V.1, Small x) ∧ V.1.length ≤ 2 ∧ 0 ≤ V.2 ∧ V.2 ≤ 4
theorem SmallV.nil (k : Int) (h0 : 0 ≤ k) (h1 : k ≤ 4) : SmallV ([], k) := ⟨by simp, by simp, h0, h1⟩
theorem small_of {s : ByteArray} {x : Int} (hs : s.size ≤ 20) (h0 : -9223372036854775808 ≤ x) (h1 : x ≤ 9223372036854775807) : Small (s, x) := ⟨hs, h0, h1⟩
theorem SmallV.one {s : ByteArray} {x k : Int} (hs : s.size ≤ 20) (h0 : -9223372036854775808 ≤ x) (h1 : x ≤ 9223372036854775807) (k0 : 0 ≤ k) (k1 : k ≤ 4) : SmallV ([(s, x)], k) :=
  ⟨fun y hy => by simp at hy; subst hy; exact small_of hs h0 h1, by simp, k0, k1⟩
theorem SmallV.two {s s' : ByteArray} {x x' k : Int} (hs : s.size ≤ 20) (h0 : -9223372036854775808 ≤ x) (h1 : x ≤ 9223372036854775807) (hs' : s'.size ≤ 20) (h0' : -9223372036854775808 ≤ x') (h1' : x' ≤ 9223372036854775807) (k0 : 0 ≤ k) (k1 : k ≤ 4) : SmallV ([(s, x), (s', x')], k) :=
  ⟨fun y hy => by
    simp at hy
    rcases hy with rfl | rfl
    · exact small_of hs h0 h1
    · exact small_of hs' h0' h1', by simp, k0, k1⟩
theorem edgesV_small (n : Int) : ∀ (l : List Ed) (i : Nat), (∀ y ∈ l, y.Wf) → i + l.length ≤ 1000000 → SmallV (edgesV n i l)
  | [], _, _, _ => SmallV.nil 0 (by decide) (by decide)
  | x :: r, i, h, hi => by
    have hx := h x (by simp)
    simp only [List.length_cons] at hi
    unfold edgesV
    split
    · exact SmallV.two (by decide) (by omega) (by omega) (by decide) hx.f0 hx.f1 (by decide) (by decide)
    · split
      · exact SmallV.two (by decide) (by omega) (by omega) (by decide) hx.t0 hx.t1 (by decide) (by decide)
      · exact edgesV_small n r (i + 1) (fun y hy => h y (by simp [hy])) (by omega)
theorem inputsV_small (n : Int) : ∀ (l pre : List Int) (i : Nat), i + l.length ≤ 1000000 → SmallV (inputsV n i pre l)
  | [], _, _, _ => SmallV.nil 0 (by decide) (by decide)
  | p :: r, pre, i, hi => by
    simp only [List.length_cons] at hi
    unfold inputsV
    split
    · exact SmallV.one (by decide) (by omega) (by omega) (by decide) (by decide)
    · split
      · exact SmallV.one (by decide) (by omega) (by omega) (by decide) (by decide)
      · exact inputsV_small n r (pre ++ [p]) (i + 1) (by omega)
theorem chkV_small {n : Int} {E : List Ed} {I : List Int} (hw : ∀ y ∈ E, y.Wf) (he : E.length ≤ 1000) (hi : I.length ≤ 1000) : SmallV (chkV n E I) := by
  unfold chkV
  split
  · exact SmallV.nil _ (by decide) (by decide)
  rename_i hn
  split
  · exact SmallV.nil _ (by decide) (by decide)
  split
  · exact edgesV_small n E 0 hw (by omega)
  split
  · exact SmallV.nil _ (by decide) (by decide)
  split
  · exact inputsV_small n I [] 0 (by omega)
  by_cases hex : ∃ o, CycAt E n.toNat o
  · have hs := hex.choose_spec
    have he : cycO E n.toNat = hex.choose := cycO_eq hs
    rw [he]
    rcases hs with ⟨p, hp, hpn, _⟩ | ⟨hp, _⟩
    · rw [hp]
      exact SmallV.one (by decide) (by omega) (by omega) (by decide) (by decide)
    · rw [hp]
      exact SmallV.nil _ (by decide) (by decide)
  · have he : cycO E n.toNat = none := by unfold cycO; rw [dif_neg hex]
    rw [he]
    exact SmallV.nil _ (by decide) (by decide)
theorem reads_rdp {w : World} {v : Value} {V : List Pl × Int} (h : RdP w v V.1) (hs : SmallV V) : Reads w v V.1 := by
  obtain ⟨ao, cap, rfl, hc⟩ := h
  exact ⟨ao, cap, rfl, by have := hs.2.1; omega, fun x hx => ⟨by have := (hs.1 x hx).1; omega, (hs.1 x hx).2⟩, hc⟩
/-- What Paths gives: the least of all ways, or nothing where the graph is wrong. -/
def PV (n : Int) (E : List Ed) (I : List Int) (w : World) (v : Value) : Prop :=
  ((chkV n E I).2 = 0 ∧ ∃ (m : Nat) (M : Nat → Nat → Int) (b : Nat), n = m ∧ m ≤ 64 ∧ Mat w b v m M ∧ LeastM E true m M) ∨ ((chkV n E I).2 ≠ 0 ∧ v = .slice none 0 0)
theorem PV.below {n : Int} {E : List Ed} {I : List Int} {w w' : World} {v : Value} (h : PV n E I w v) (hb : Below w.heap.size w w') : PV n E I w' v := by
  rcases h with ⟨h0, m, M, b, hm, h6, hM, hl⟩ | h
  · exact .inl ⟨h0, m, M, b, hm, h6, hM.below hb, hl⟩
  · exact .inr h
theorem paths_pv {w : World} {ve vi : Value} {E : List Ed} {I : List Int} (n : Int) (hg : GMemP w ve vi E I) :
    Calls Tryd.prog 14 #[.agg #[.int .i64 n, ve, vi]] w fun e w' => ∃ v, e = .returned v ∧ PV n E I w' v ∧ Below w.heap.size w w' := by
  by_cases h : (chkV n E I).2 = 0
  · obtain ⟨m, rfl, hok⟩ := gok_of hg.ed.wf h
    refine (paths_any hg.ed hg.inp hok).mono ?_
    rintro e w' ⟨v, M, rfl, hM, hl, hb⟩
    exact ⟨v, rfl, .inl ⟨h, m, M, _, rfl, hok.n1, hM, hl⟩, hb⟩
  · refine (paths_none n hg.ed hg.inp h).mono ?_
    rintro e w' ⟨rfl, hb⟩
    exact ⟨_, rfl, .inr ⟨h, rfl⟩, hb⟩
theorem refpaths_pv {w : World} {ve vi : Value} {E : List Ed} {I : List Int} (n : Int) (hg : GMemP w ve vi E I) :
    Calls Tryd.prog 15 #[.agg #[.int .i64 n, ve, vi]] w fun e w' => ∃ v, e = .returned v ∧ PV n E I w' v ∧ Below w.heap.size w w' := by
  by_cases h : (chkV n E I).2 = 0
  · obtain ⟨m, rfl, hok⟩ := gok_of hg.ed.wf h
    refine (refpaths_any hg.ed hg.inp hok).mono ?_
    rintro e w' ⟨v, M, rfl, hM, hl, hb⟩
    exact ⟨v, rfl, .inl ⟨h, m, M, _, rfl, hok.n1, hM, hl⟩, hb⟩
  · refine (refpaths_none n hg.ed hg.inp h).mono ?_
    rintro e w' ⟨rfl, hb⟩
    exact ⟨_, rfl, .inr ⟨h, rfl⟩, hb⟩
theorem rows_pv {n : Int} {E : List Ed} {I : List Int} {w : World} {v1 v2 : Value} (h1 : PV n E I w v1) (h2 : PV n E I w v2) :
    Calls Tryd.prog 13 #[v1, v2] w fun e w' => e = .returned (.bool true) ∧ Below w.heap.size w w' := by
  rcases h1 with ⟨h0, m, M, b, hm, h6, hM, hl⟩ | ⟨h0, rfl⟩
  · rcases h2 with ⟨_, m', M', b', hm', _, hM', hl'⟩ | ⟨h0', _⟩
    · obtain rfl : m = m' := by omega
      exact rows_any hM hM' (hl.one hl') h6
    · exact absurd h0 h0'
  · rcases h2 with ⟨h0', _⟩ | ⟨_, rfl⟩
    · exact absurd h0' h0
    · exact rows_nil w
theorem kind_pv {w : World} {v : Value} {V : List Pl × Int} (hL : LV w) (h : ErrIs w v V) :
    Calls Tryd.prog 12 #[v] w fun e w' => e = .returned (.int .i64 V.2) ∧ Below w.heap.size w w' := by
  rcases h with ⟨h0, _, rfl⟩ | ⟨_, hch, _⟩
  · rw [h0]; exact kind_nil w
  · exact kind_errno V.2 hL.typ hch
/-- The Graph that is looked at. -/
def ChkW (w : World) (n : Int) (aoi : Option Addr) (capi : Nat) (I1 : List Int) (wx : World) : Prop := ∃ (E2 : List Ed) (ao2 : Option Addr) (cap2 : Nat), E2.length ≤ 300 ∧ GMemP w (.slice ao2 E2.length cap2) (.slice aoi I1.length capi) E2 I1 ∧ wx.heap[w.heap.size]? = some (.cells #[.int .i64 n, .slice ao2 E2.length cap2, .slice aoi I1.length capi] 25 (0, 0)) ∧ Below w.heap.size w wx
set_option maxRecDepth 1000000 in
set_option maxHeartbeats 16000000 in
theorem gchecks_any {w : World} {ve vi : Value} {E : List Ed} {I : List Int} (n : Int) (hL : LV w) (hg : GMemP w ve vi E I) :
    Calls Tryd.prog 3 #[.agg #[.int .i64 n, ve, vi]] w fun e w' => e = .returned (.bool true) ∧ Below w.heap.size w w' := by
  have HL := Lib.hid hL
  have HG0 := hg
  obtain ⟨⟨ao, cap, rfl, hc1, hc2, _⟩, ⟨aoi, capi, rfl, hc3, hc4, _⟩⟩ := HG0
  obtain ⟨w0, hw0⟩ : ∃ w0, w0 = w.alloc (.cells #[.int .i64 n, .slice ao E.length cap, .slice aoi I.length capi] 25) := ⟨_, rfl⟩
  have hb0 : Below w.heap.size w w0 := by rw [hw0]; exact (Below.refl _ _).alloc (Nat.le_refl _) _
  have hs0 : w0.heap.size = w.heap.size + 1 := by rw [hw0]; simp
  have hx0 : w0.heap[w.heap.size]? = some (.cells #[.int .i64 n, .slice ao E.length cap, .slice aoi I.length capi] 25 (0, 0)) := by rw [hw0]; exact heap_alloc_new w _
  have hg1 := hg.take 300 20
  have hl1 : (E.take 300).length = min E.length 300 := by rw [List.length_take]; omega
  have hl2 : (I.take 20).length = min I.length 20 := by rw [List.length_take]; omega
  have hc1' : min E.length 300 ≤ cap := by omega
  rw [← hl1, ← hl2] at hg1
  have HG := Lib.hid hg1
  have HX0 := Lib.hid hx0
  have HB0 := Lib.hid hb0
  have HS0 := Lib.hid hs0
  clear hg hg1 hL hb0 hs0 hx0
  go_enter Tryd.func3, Tryd.ntmps3
  go_wp2_with fail
  go_at_call 7
  rw [← hw0]
  clear hw0
  refine (gfew_any n hc1 hc3).mono ?_
  rw [← hl1, ← hl2]
  rw [← hl1] at hc1'
  have hle1 : (E.take 300).length ≤ 300 := by omega
  have hle2 : (I.take 20).length ≤ 20 := by omega
  generalize E.take 300 = E1 at HG hl1 hle1 hc1' ⊢
  generalize I.take 20 = I1 at HG hl2 hle2 ⊢
  rintro e w1 ⟨rfl, hb⟩
  have hx1 := (hb.block _ (by rw [HS0.out]; omega)).trans HX0.out
  obtain ⟨y0, y1, y2, yf⟩ := three_cells hx1
  have yf0 := yf 0
  have yf1 := yf 1
  have yf2 := yf 2
  have hr1 := heap_setCell_same w1 w.heap.size 0 _ _ (.int .i64 n) hx1
  have hr2 := heap_setCell_same _ w.heap.size 1 _ _ (.slice ao E1.length cap) hr1
  have hr3 := heap_setCell_same _ w.heap.size 2 _ _ (.slice aoi I1.length capi) hr2
  obtain ⟨w2, hw2⟩ : ∃ w2, w2 = ((w1.setCell ⟨w.heap.size, 0, none⟩ (.int .i64 n)).setCell ⟨w.heap.size, 1, none⟩ (.slice ao E1.length cap)).setCell ⟨w.heap.size, 2, none⟩ (.slice aoi I1.length capi) := ⟨_, rfl⟩
  have HB := Lib.hid (show Below w.heap.size w w2 by rw [hw2]; exact (((HB0.out.trans (hb.mono (by rw [HS0.out]; omega))).setCell (Nat.le_refl _) _).setCell (Nat.le_refl _) _).setCell (Nat.le_refl _) _)
  have HX := Lib.hid (show w2.heap[w.heap.size]? = some (.cells #[.int .i64 n, .slice ao E1.length cap, .slice aoi I1.length capi] 25 (0, 0)) by rw [hw2]; simpa using hr3)
  have HLE := Lib.hid (And.intro hle1 hle2)
  clear hb hx1 yf hr1 hr2 hr3 HX0 HB0 HS0 hl1 hl2 hle1 hle2 hc1 hc2 hc3 hc4
  go_upto_region 2 with fail
  rw [← hw2]
  clear hw2 y0 y1 y2 yf0 yf1 yf2
  go_cut [21] (fun s21 wx => ∃ bl : Bool, s21 = .bool bl ∧ (bl = true → (60 : Int) < (E1.length : Int)) ∧ wx = w2)
  case first =>
    obtain ⟨x0, x1, x2, xf⟩ := three_cells HX.out
    by_cases h1 : 24 < n
    · by_cases h2 : n ≤ 64
      · by_cases h3 : (60 : Int) < (E1.length : Int)
        · go_wp2_with fail
          go_meet
          exact ⟨true, rfl, fun _ => h3, rfl⟩
        · go_wp2_with fail
          go_meet
          exact ⟨false, rfl, fun h => by simp at h, rfl⟩
      · go_wp2_with fail
        go_meet
        exact ⟨false, rfl, fun h => by simp at h, rfl⟩
    · go_wp2_with fail
      go_meet
      exact ⟨false, rfl, fun h => by simp at h, rfl⟩
  case rest =>
   obtain ⟨bl, rfl, hbl, rfl⟩ := hcut
   refine ‹∀ (a : Act) (w : World), Code.wp _ _ _ a w → _› _ _ ?_
   go_cut [2] (fun s2 wx => s2 = .bool false ∧ ChkW w n aoi capi I1 wx)
   case first =>
    obtain ⟨x0, x1, x2, xf⟩ := three_cells HX.out
    have xf1 := xf 1
    cases bl
    · go_wp2_with fail
      go_meet
      exact ⟨rfl, E1, ao, cap, HLE.out.1, HG.out, HX.out, HB.out⟩
    · have h3 := hbl rfl
      have hsl := fun (W : World) => cut_slice (T := 22) (s := 3) (by kernel_rfl) sizeEs ao E1.length cap 60 (by omega) W
      have h60 : ((60 : Nat) : Int) = 60 := rfl
      rw [h60] at hsl
      go_wp2_with fail
      go_meet
      refine ⟨rfl, E1.take 60, ao, cap, by rw [List.length_take]; omega, ?_, ?_, HB.out.setCell (Nat.le_refl _) _⟩
      · have h4 := HG.out.take 60 (I1.length)
        rw [List.take_length, Nat.min_self] at h4
        rwa [List.length_take, Nat.min_comm]
      · have h5 := heap_setCell_same _ w.heap.size 1 _ _ (.slice ao 60 cap) HX.out
        rw [List.length_take, Nat.min_eq_left (by omega)]
        simpa using h5
   case rest =>
     obtain ⟨rfl, E2, ao2, cap2, hl2, hg2, hx, hb⟩ := hcut
     have HL2 := Lib.hid (show E2.length ≤ 300 ∧ I1.length ≤ 20 from ⟨hl2, HLE.out.2⟩)
     clear HB HX HLE HG hc1'
     obtain ⟨x0, x1, x2, _⟩ := three_cells hx
     have HG := Lib.hid hg2
     have HX := Lib.hid hx
     have HB := Lib.hid hb
     have HSM := Lib.hid (chkV_small (n := n) (I := I1) hg2.ed.wf (by omega) (by have := HL2.out; omega))
     clear hl2 hg2 hx hb
     go_wp2_with fail
     go_at_call 9
     refine (gto_any n (HG.out.below HB.out) (by have := HL2.out; omega) (by have := HL2.out; omega)).mono ?_
     rintro e w3 ⟨ve3, vi3, rfl, hg3, hb⟩
     have HG3 := Lib.hid hg3
     replace HX := Lib.hid ((hb.block _ (Array.getElem?_eq_some_iff.1 HX.out).1).trans HX.out)
     replace HB := Lib.hid (HB.out.trans (hb.mono HB.out.size))
     clear hg3 hb x0 x1 x2
     go_wp2_with fail
     go_at_call 8
     refine (check_any n HG3.out.ed HG3.out.inp).mono ?_
     rintro e w4 ⟨v4, rfl, her, hb⟩
     have HER := Lib.hid her
     replace HX := Lib.hid ((hb.block _ (Array.getElem?_eq_some_iff.1 HX.out).1).trans HX.out)
     replace HB := Lib.hid (HB.out.trans (hb.mono HB.out.size))
     clear her hb HG3
     obtain ⟨x0, x1, x2, _⟩ := three_cells HX.out
     go_wp2_with fail
     go_at_call 10
     have hgb := HG.out.below HB.out
     refine (refcheck_any n hgb.ed hgb.inp).mono ?_
     rintro e w5 ⟨v5, k, rfl, hrp, rfl, hb⟩
     replace HER := Lib.hid (HER.out.below hb)
     have HRP := Lib.hid hrp
     replace HX := Lib.hid ((hb.block _ (Array.getElem?_eq_some_iff.1 HX.out).1).trans HX.out)
     replace HB := Lib.hid (HB.out.trans (hb.mono HB.out.size))
     clear hrp hb hgb x0 x1 x2
     have HLW := Lib.hid (fun (W : World) (h : Below w5.heap.size w5 W) => (HL.out.below HB.out).below h)
     have HGM := Lib.hid (fun (W : World) (h : Below w5.heap.size w5 W) => (HG.out.below HB.out).below h)
     have HS3 := Lib.hid (show ∀ W, Below w5.heap.size w5 W → (W.cell? ⟨w.heap.size, 0, none⟩ = some (.int .i64 n) ∧ W.cell? ⟨w.heap.size, 1, none⟩ = some (.slice ao2 E2.length cap2) ∧ W.cell? ⟨w.heap.size, 2, none⟩ = some (.slice aoi I1.length capi)) from fun W h => by
       obtain ⟨q0, q1, q2, _⟩ := three_cells ((h.block _ (Array.getElem?_eq_some_iff.1 HX.out).1).trans HX.out)
       exact ⟨q0, q1, q2⟩)
     go_upto_region 6 with fail
     refine wp_region_held_drew (S := (fun w' => w'.cell? ⟨w.heap.size, 0, none⟩ = some (.int .i64 n) ∧ w'.cell? ⟨w.heap.size, 1, none⟩ = some (.slice ao2 E2.length cap2) ∧ w'.cell? ⟨w.heap.size, 2, none⟩ = some (.slice aoi I1.length capi))) (by kernel_rfl) ?_ (fun hHeld => ?_)
     · exact HS3.out _ ((Below.refl _ _).drew)
     have HK := Lib.hid ((Below.refl w5.heap.size w5).drew)
     refine wpAnyH_ready (rs := [0]) (by kernel_rfl) (by simp) ?_
     refine AllReadyH.cons rfl (fun K hK => ?_) AllReadyH.nil
     go_simp
     go_at_call 11
     refine (gtold_any _ (HLW.out _ HK.out)).mono ?_
     rintro e wk ⟨rfl, hcb⟩
     replace HK := Lib.hid (HK.out.trans (hcb.mono HK.out.size))
     clear hcb
     try go_wp2_with fail
     refine hK.out _ _ ?_ (fun hHeld => ?_)
     · exact HS3.out _ HK.out
     clear hK K
     try simp only [Act.put, List.setIfInBounds_toArray, List.set_cons_zero, List.set_cons_succ, List.getElem_toArray, List.getElem_cons_zero]
     refine wpAnyH_take (i := 1) (v := ?_) rfl (by kernel_rfl) (by kernel_rfl) (by kernel_rfl) (fun _ _ _ h => h) (Or.inl ⟨by rfl, ?_⟩) (by assumption) ?_
     rotate_left 1
     · (intro w hSw; (try dsimp only at hSw); first | (go_simp; done) | (go_simp; with_reducible rfl))
     try simp only [Act.put, List.setIfInBounds_toArray, List.set_cons_zero, List.set_cons_succ, List.getElem_toArray, List.getElem_cons_zero, List.getElem_cons_succ]
     refine wpAnyH_take (i := 2) (v := ?_) rfl (by kernel_rfl) (by kernel_rfl) (by kernel_rfl) (fun _ _ _ h => h) (Or.inl ⟨by rfl, ?_⟩) (by assumption) ?_
     rotate_left 1
     · (intro w hSw; (try dsimp only at hSw); first | (go_simp; done) | (go_simp; with_reducible rfl))
     try simp only [Act.put, List.setIfInBounds_toArray, List.set_cons_zero, List.set_cons_succ, List.getElem_toArray, List.getElem_cons_zero, List.getElem_cons_succ]
     refine wpAnyH_take (i := 3) (v := ?_) rfl (by kernel_rfl) (by kernel_rfl) (by kernel_rfl) (fun _ _ _ h => h) (Or.inl ⟨by rfl, ?_⟩) (by assumption) ?_
     rotate_left 1
     · (intro w hSw; (try dsimp only at hSw); first | (go_simp; done) | (go_simp; with_reducible rfl))
     try simp only [Act.put, List.setIfInBounds_toArray, List.set_cons_zero, List.set_cons_succ, List.getElem_toArray, List.getElem_cons_zero, List.getElem_cons_succ]
     refine wpAnyH_take (i := 5) (v := ?_) rfl (by kernel_rfl) (by kernel_rfl) (by kernel_rfl) (fun _ _ _ h => h) (Or.inl ⟨by rfl, ?_⟩) (by assumption) ?_
     rotate_left 1
     · (intro w hSw; (try dsimp only at hSw); first | (go_simp; done) | (go_simp; with_reducible rfl))
     try simp only [Act.put, List.setIfInBounds_toArray, List.set_cons_zero, List.set_cons_succ, List.getElem_toArray, List.getElem_cons_zero, List.getElem_cons_succ]
     refine wpAnyH_ready (rs := [4]) (by kernel_rfl) (by simp) ?_
     refine AllReadyH.cons rfl (fun K hK => ?_) AllReadyH.nil
     go_simp
     go_at_call 12
     refine (kind_pv (HLW.out _ HK.out) (HER.out.below HK.out)).mono ?_
     rintro e wk ⟨rfl, hcb⟩
     replace HK := Lib.hid (HK.out.trans (hcb.mono HK.out.size))
     clear hcb
     try go_wp2_with fail
     refine hK.out _ _ ?_ (fun hHeld => ?_)
     · exact HS3.out _ HK.out
     clear hK K
     try simp only [Act.put, List.setIfInBounds_toArray, List.set_cons_zero, List.set_cons_succ, List.getElem_toArray, List.getElem_cons_zero, List.getElem_cons_succ]
     refine wpAnyH_take (i := 6) (v := ?_) rfl (by kernel_rfl) (by kernel_rfl) (by kernel_rfl) (fun _ _ _ h => h) (Or.inl ⟨by rfl, ?_⟩) (by assumption) ?_
     rotate_left 1
     · (intro w hSw; (try dsimp only at hSw); first | (go_simp; done) | (go_simp; with_reducible rfl))
     try simp only [Act.put, List.setIfInBounds_toArray, List.set_cons_zero, List.set_cons_succ, List.getElem_toArray, List.getElem_cons_zero, List.getElem_cons_succ]
     refine wpAnyH_take (i := 7) (v := ?_) rfl (by kernel_rfl) (by kernel_rfl) (by kernel_rfl) (fun _ _ _ h => h) (Or.inl ⟨by rfl, ?_⟩) (by assumption) ?_
     rotate_left 1
     · (intro w hSw; (try dsimp only at hSw); first | (go_simp; done) | (go_simp; with_reducible rfl))
     try simp only [Act.put, List.setIfInBounds_toArray, List.set_cons_zero, List.set_cons_succ, List.getElem_toArray, List.getElem_cons_zero, List.getElem_cons_succ]
     refine wpAnyH_take (i := 8) (v := ?_) rfl (by kernel_rfl) (by kernel_rfl) (by kernel_rfl) (fun _ _ _ h => h) (Or.inl ⟨by rfl, ?_⟩) (by assumption) ?_
     rotate_left 1
     · (intro w hSw; (try dsimp only at hSw); first | (go_simp; done) | (go_simp; with_reducible rfl))
     try simp only [Act.put, List.setIfInBounds_toArray, List.set_cons_zero, List.set_cons_succ, List.getElem_toArray, List.getElem_cons_zero, List.getElem_cons_succ]
     refine wpAnyH_take (i := 9) (v := ?_) rfl (by kernel_rfl) (by kernel_rfl) (by kernel_rfl) (fun _ _ _ h => h) (Or.inl ⟨by rfl, ?_⟩) (by assumption) ?_
     rotate_left 1
     · (intro w hSw; (try dsimp only at hSw); first | (go_simp; done) | (go_simp; with_reducible rfl))
     try simp only [Act.put, List.setIfInBounds_toArray, List.set_cons_zero, List.set_cons_succ, List.getElem_toArray, List.getElem_cons_zero, List.getElem_cons_succ]
     refine wpAnyH_take (i := 12) (v := ?_) rfl (by kernel_rfl) (by kernel_rfl) (by kernel_rfl) (fun _ _ _ h => h) (Or.inl ⟨by rfl, ?_⟩) (by assumption) ?_
     rotate_left 1
     · (intro w hSw; (try dsimp only at hSw); first | (go_simp; done) | (go_simp; with_reducible rfl))
     try simp only [Act.put, List.setIfInBounds_toArray, List.set_cons_zero, List.set_cons_succ, List.getElem_toArray, List.getElem_cons_zero, List.getElem_cons_succ]
     refine wpAnyH_ready (rs := [10]) (by kernel_rfl) (by simp) ?_
     refine AllReadyH.cons rfl (fun K hK => ?_) AllReadyH.nil
     go_simp
     go_at_call 9
     refine (gto_any n (HGM.out _ HK.out) (by have := HL2.out; omega) (by have := HL2.out; omega)).mono ?_
     rintro e wk ⟨ve3, vi3, rfl, hg3, hcb⟩
     have HG3 := Lib.hid hg3
     clear hg3
     replace HK := Lib.hid (HK.out.trans (hcb.mono HK.out.size))
     clear hcb
     try go_wp2_with fail
     refine hK.out _ _ ?_ (fun hHeld => ?_)
     · exact HS3.out _ HK.out
     clear hK K
     try simp only [Act.put, List.setIfInBounds_toArray, List.set_cons_zero, List.set_cons_succ, List.getElem_toArray, List.getElem_cons_zero, List.getElem_cons_succ]
     refine wpAnyH_ready (rs := [11]) (by kernel_rfl) (by simp) ?_
     refine AllReadyH.cons rfl (fun K hK => ?_) AllReadyH.nil
     go_simp
     go_at_call 14
     refine (paths_pv n HG3.out).mono ?_
     rintro e wk ⟨v4, rfl, hp4, hcb⟩
     have HP4 := Lib.hid hp4
     clear hp4
     replace HK := Lib.hid (HK.out.trans (hcb.mono HK.out.size))
     clear hcb
     try go_wp2_with fail
     refine hK.out _ _ ?_ (fun hHeld => ?_)
     · exact HS3.out _ HK.out
     clear hK K
     try simp only [Act.put, List.setIfInBounds_toArray, List.set_cons_zero, List.set_cons_succ, List.getElem_toArray, List.getElem_cons_zero, List.getElem_cons_succ]
     refine wpAnyH_ready (rs := [13]) (by kernel_rfl) (by simp) ?_
     refine AllReadyH.cons rfl (fun K hK => ?_) AllReadyH.nil
     go_simp
     go_at_call 15
     refine (refpaths_pv n (HGM.out _ HK.out)).mono ?_
     rintro e wk ⟨v5, rfl, hp5, hcb⟩
     have HP5 := Lib.hid hp5
     clear hp5
     replace HP4 := Lib.hid (HP4.out.below hcb)
     replace HK := Lib.hid (HK.out.trans (hcb.mono HK.out.size))
     clear hcb
     try go_wp2_with fail
     refine hK.out _ _ ?_ (fun hHeld => ?_)
     · exact HS3.out _ HK.out
     clear hK K
     try simp only [Act.put, List.setIfInBounds_toArray, List.set_cons_zero, List.set_cons_succ, List.getElem_toArray, List.getElem_cons_zero, List.getElem_cons_succ]
     refine wpAnyH_ready (rs := [14]) (by kernel_rfl) (by simp) ?_
     refine AllReadyH.cons rfl (fun K hK => ?_) AllReadyH.nil
     go_simp
     go_at_call 13
     refine (rows_pv HP4.out HP5.out).mono ?_
     rintro e wk ⟨rfl, hcb⟩
     replace HK := Lib.hid (HK.out.trans (hcb.mono HK.out.size))
     clear hcb
     try go_wp2_with fail
     refine hK.out _ _ ?_ (fun hHeld => ?_)
     · exact HS3.out _ HK.out
     clear hK K
     try simp only [Act.put, List.setIfInBounds_toArray, List.set_cons_zero, List.set_cons_succ, List.getElem_toArray, List.getElem_cons_zero, List.getElem_cons_succ]
     refine wpAnyH_take (i := 15) (v := ?_) rfl (by kernel_rfl) (by kernel_rfl) (by kernel_rfl) (fun _ _ _ h => h) (Or.inl ⟨by rfl, ?_⟩) (by assumption) ?_
     rotate_left 1
     · (intro w hSw; (try dsimp only at hSw); first | (go_simp; done) | (go_simp; with_reducible rfl))
     try simp only [Act.put, List.setIfInBounds_toArray, List.set_cons_zero, List.set_cons_succ, List.getElem_toArray, List.getElem_cons_zero, List.getElem_cons_succ]
     refine wpAnyH_take (i := 16) (v := ?_) rfl (by kernel_rfl) (by kernel_rfl) (by kernel_rfl) (fun _ _ _ h => h) (Or.inl ⟨by rfl, ?_⟩) (by assumption) ?_
     rotate_left 1
     · (intro w hSw; (try dsimp only at hSw); first | (go_simp; done) | (go_simp; with_reducible rfl))
     try simp only [Act.put, List.setIfInBounds_toArray, List.set_cons_zero, List.set_cons_succ, List.getElem_toArray, List.getElem_cons_zero, List.getElem_cons_succ]
     refine wpAnyH_done (by kernel_rfl) ?_ _
     rcases HER.out with ⟨hz, _, hv⟩ | ⟨hz, hch, u5, x5, hv⟩
     · subst hv
       rw [hz]
       go_wp2_with fail
       go_ret
       exact ⟨rfl, HB.out.trans (HK.out.mono HB.out.size)⟩
     · subst hv
       have HZ := Lib.hid hz
       have HCH := Lib.hid (hch.below HK.out)
       have HPL := Lib.hid (HRP.out.below HK.out)
       obtain ⟨kk, hkk⟩ : ∃ kk, kk = (chkV n E2 I1).2 := ⟨_, rfl⟩
       have HKK := Lib.hid hkk
       rw [← hkk] at hz
       rw [← hkk]
       have hzb : (kk == 0) = false := by simpa using hz
       clear hch hkk
       go_wp2_with fail
       go_at_call 16
       refine (text_errno (chkV n E2 I1).2 (HLW.out _ HK.out) HCH.out HSM.out.2.2.1 (by have := HSM.out.2.2.2; omega) (by have := HSM.out.2.1; omega) HSM.out.1).mono ?_
       rintro e wk ⟨rfl, hcb⟩
       replace HPL := Lib.hid (HPL.out.below hcb)
       replace HK := Lib.hid (HK.out.trans (hcb.mono HK.out.size))
       clear hcb HCH
       rw [← HKK.out]
       go_wp2_with fail
       go_at_call 17
       rw [HKK.out]
       refine (refTextF_any (chkV n E2 I1).2 (by have := HSM.out.2.2.1; have := HZ.out; omega) (by have := HSM.out.2.2.2; omega) (reads_rdp HPL.out HSM.out) (by have := HSM.out.2.1; omega) HSM.out.1).mono ?_
       rintro e wk ⟨rfl, hcb⟩
       replace HK := Lib.hid (HK.out.trans (hcb.mono HK.out.size))
       clear hcb
       go_wp2_with fail
       go_ret
       exact ⟨by simp; exact HZ.out, HB.out.trans (HK.out.mono HB.out.size)⟩
end Go.Proofs.YtkcmeklgnbejiaaDoor.Gr
