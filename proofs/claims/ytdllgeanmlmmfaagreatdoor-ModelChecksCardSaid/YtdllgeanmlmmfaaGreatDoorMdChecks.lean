/-
  marchlandlaw14: ModelChecks. (gen/mdchecks.py)
-/
import Derived.Test.YtdllgeanmlmmfaaGreatDoorJoined29
import Derived.Test.YtdllgeanmlmmfaaGreatDoorJoined1
import Derived.Test.YtdllgeanmlmmfaaGreatDoorJoined28
import Derived.Test.YtdllgeanmlmmfaaGreatDoorMdPlan
import Derived.Test.YtdllgeanmlmmfaaGreatDoorJoined30
namespace Go.Proofs.YtdllgeanmlmmfaaGreatDoor.Md
open Go.RowKit Go.Deep Gr Go.Proofs.YtdllgeanmlmmfaaGreatDoor.Fault
set_option linter.unusedVariables false
set_option linter.unusedSimpArgs false
def InR (x : Int) : Prop := -9223372036854775808 ≤ x ∧ x ≤ 9223372036854775807
theorem planV_zero {n : Int} {E : List Ed} {I : List Int} {T R S K : Int} (h : (planV n E I T R S K).2 = 0) (hw : ∀ x ∈ E, x.Wf) : planV n E I T R S K = ([], 0) ∧ (chkV n E I).2 = 0 ∧ (1 ≤ T ∧ T ≤ 8) := by
  unfold planV at h ⊢
  by_cases c0 : (chkV n E I).2 ≠ 0
  · rw [if_pos c0] at h; exact absurd h c0
  rw [if_neg c0] at h ⊢
  by_cases c1 : T < 1 ∨ 8 < T
  · rw [if_pos c1] at h; exact absurd h (by simp)
  rw [if_neg c1] at h ⊢
  by_cases c2 : ringB R = false
  · rw [if_pos c2] at h; exact absurd h (by simp)
  rw [if_neg c2] at h ⊢
  by_cases c3 : S < 1 ∨ 8 < S
  · rw [if_pos c3] at h; exact absurd h (by simp)
  rw [if_neg c3] at h ⊢
  by_cases c4 : K < 1 ∨ 8 < K
  · rw [if_pos c4] at h; exact absurd h (by simp)
  rw [if_neg c4]
  exact ⟨rfl, Classical.not_not.1 c0, by omega⟩
theorem planV_small {n : Int} {E : List Ed} {I : List Int} {T R S K : Int} (hw : ∀ y ∈ E, y.Wf) (he : E.length ≤ 1000) (hi : I.length ≤ 1000) (hT : InR T) (hR : InR R) (hS : InR S) (hK : InR K) : SmallV (planV n E I T R S K) := by
  unfold planV
  split
  · exact chkV_small hw he hi
  split
  · exact SmallV.one (by decide) hT.1 hT.2 (by decide) (by decide)
  split
  · exact SmallV.one (by decide) hR.1 hR.2 (by decide) (by decide)
  split
  · exact SmallV.one (by decide) hS.1 hS.2 (by decide) (by decide)
  split
  · exact SmallV.one (by decide) hK.1 hK.2 (by decide) (by decide)
  exact SmallV.nil 0 (by decide) (by decide)
theorem gok_inp {m : Nat} {E : List Ed} {I : List Int} (h : GOk m E I) : 0 < I.length ∧ I.length ≤ 8 := by
  have h' := h.chk
  unfold chkV at h'
  split at h'
  · simp at h'
  split at h'
  · simp at h'
  split at h'
  · rename_i h3; rw [h'] at h3; exact absurd rfl h3
  split at h'
  · simp at h'
  · omega
theorem mdNew_pv {w : World} {ve vi : Value} {E : List Ed} {I : List Int} (n T R S K : Int) (hg : GMemP w ve vi E I) :
    Calls Tryz.prog 8 #[.agg #[.int .i64 n, ve, vi, .int .i64 T, .int .i64 R, .int .i64 S, .int .i64 K]] w fun e w' => ∃ (q : Option Addr) (v : Value), e = .returned (.tuple #[.pointer q, v]) ∧ ErrIs w' v (planV n E I T R S K) ∧ (((planV n E I T R S K).2 = 0 ∧ ∃ b, q = some ⟨b, 0, none⟩) ∨ ((planV n E I T R S K).2 ≠ 0 ∧ q = none)) ∧ Below w.heap.size w w' := by
  by_cases h : (planV n E I T R S K).2 = 0
  · obtain ⟨h1, h2, h3⟩ := planV_zero h hg.ed.wf
    obtain ⟨m, rfl, hok⟩ := gok_of hg.ed.wf h2
    obtain ⟨t, rfl⟩ : ∃ t : Nat, T = (t : Int) := ⟨T.toNat, by omega⟩
    refine (mdNew_ok R S K hg.ed hg.inp h hok hok.n1 (by omega) (gok_inp hok)).mono ?_
    rintro e w' ⟨b, τ, M, rfl, _, _, _, hb⟩
    exact ⟨_, _, rfl, by rw [h1]; exact ErrIs.none _, .inl ⟨h, b, rfl⟩, hb⟩
  · refine (mdNew_bad n T R S K hg.ed hg.inp h).mono ?_
    rintro e w' ⟨v, rfl, hE, hb⟩
    exact ⟨none, v, rfl, hE, .inr ⟨h, rfl⟩, hb⟩
set_option maxRecDepth 1000000 in
set_option maxHeartbeats 16000000 in
theorem mdChecks_any {w : World} {ve vi : Value} {E : List Ed} {I : List Int} (n T R S K : Int) (hL : LV w) (hg : GMemP w ve vi E I) (hT : InR T) (hR : InR R) (hS : InR S) (hK : InR K) :
    Calls Tryz.prog 3 #[.agg #[.int .i64 n, ve, vi, .int .i64 T, .int .i64 R, .int .i64 S, .int .i64 K]] w fun e w' => e = .returned (.bool true) ∧ Below w.heap.size w w' := by
  have HL := Lib.hid hL
  have HIR := Lib.hid (And.intro hT (And.intro hR (And.intro hS hK)))
  have HG0 := hg
  obtain ⟨⟨ao, cap, rfl, hc1, hc2, _⟩, ⟨aoi, capi, rfl, hc3, hc4, _⟩⟩ := HG0
  obtain ⟨w0, hw0⟩ : ∃ w0, w0 = w.alloc (.cells #[.int .i64 n, .slice ao E.length cap, .slice aoi I.length capi, .int .i64 T, .int .i64 R, .int .i64 S, .int .i64 K] 27) := ⟨_, rfl⟩
  have HB0 := Lib.hid (show Below w.heap.size w w0 by rw [hw0]; exact (Below.refl _ _).alloc (Nat.le_refl _) _)
  have HX0 := Lib.hid (show w0.heap[w.heap.size]? = some (.cells #[.int .i64 n, .slice ao E.length cap, .slice aoi I.length capi, .int .i64 T, .int .i64 R, .int .i64 S, .int .i64 K] 27 (0, 0)) by rw [hw0]; exact heap_alloc_new w _)
  obtain ⟨m1, hmin1, hsl1⟩ := few_facts (T := 22) (s := 3) (by kernel_rfl) sizeEs ao E.length cap 60 60 rfl hc1
  obtain ⟨m2, hmin2, hsl2⟩ := few_facts (T := 23) (s := 1) (by kernel_rfl) sizeIs aoi I.length capi 12 12 rfl hc3
  have hg1 := hg.take 60 12
  have hl1 : (E.take 60).length = min E.length 60 := by rw [List.length_take]; omega
  have hl2 : (I.take 12).length = min I.length 12 := by rw [List.length_take]; omega
  rw [← hl1, ← hl2] at hg1
  rw [← hl1] at hsl1
  rw [← hl2] at hsl2
  have HLE := Lib.hid (show (E.take 60).length ≤ 60 ∧ (I.take 12).length ≤ 12 by omega)
  have HG := Lib.hid hg1
  generalize E.take 60 = E1 at HG hsl1 HLE
  generalize I.take 12 = I1 at HG hsl2 HLE
  clear hg hg1 hL hl1 hl2 hc1 hc2 hc3 hc4 hT hR hS hK
  go_enter Tryz.func3, Tryz.ntmps3
  go_upto_region 1 with fail
  rw [← hw0]
  clear hw0
  obtain ⟨y0, y1, y2, y3, y4, y5, y6⟩ := cells7 HX0.out
  have yf := free7 HX0.out
  have yf1 := yf 1
  have yf2 := yf 2
  go_region
  obtain ⟨w2, hw2⟩ : ∃ w2, w2 = ((w0.setCell ⟨w.heap.size, 1, none⟩ (.slice ao E1.length cap)).setCell ⟨w.heap.size, 2, none⟩ (.slice aoi I1.length capi)).drew := ⟨_, rfl⟩
  have hr1 := heap_setCell_same w0 w.heap.size 1 _ _ (.slice ao E1.length cap) HX0.out
  have hr2 := heap_setCell_same _ w.heap.size 2 _ _ (.slice aoi I1.length capi) hr1
  have HB := Lib.hid (show Below w.heap.size w w2 by rw [hw2]; exact (((HB0.out).setCell (Nat.le_refl _) _).setCell (Nat.le_refl _) _).drew)
  have HX := Lib.hid (show w2.heap[w.heap.size]? = some (.cells #[.int .i64 n, .slice ao E1.length cap, .slice aoi I1.length capi, .int .i64 T, .int .i64 R, .int .i64 S, .int .i64 K] 27 (0, 0)) by rw [hw2]; have h := hr2; simp at h; exact h)
  go_upto_region 2 with fail
  rw [← hw2]
  clear hw2 hr1 hr2 y0 y1 y2 y3 y4 y5 y6 yf yf1 yf2 hmin1 hmin2 hsl1 hsl2 HX0 HB0
  have HSM := Lib.hid (planV_small (n := n) (I := I1) (T := T) (R := R) (S := S) (K := K) HG.out.ed.wf (by have := HLE.out; omega) (by have := HLE.out; omega) HIR.out.1 HIR.out.2.1 HIR.out.2.2.1 HIR.out.2.2.2)
  obtain ⟨y0, y1, y2, y3, y4, y5, y6⟩ := cells7 HX.out
  go_wp2_with fail
  go_at_call 6
  refine (mdPlan_any n T R S K (HG.out.below HB.out) (by have := HLE.out; omega) (by have := HLE.out; omega)).mono ?_
  rintro e w3 ⟨ve3, vi3, rfl, hg3, hb⟩
  have HG3 := Lib.hid hg3
  replace HX := Lib.hid ((hb.block _ (Array.getElem?_eq_some_iff.1 HX.out).1).trans HX.out)
  replace HB := Lib.hid (HB.out.trans (hb.mono HB.out.size))
  clear hg3 hb
  clear y0 y1 y2 y3 y4 y5 y6
  go_wp2_with fail
  go_at_call 5
  refine (mdCheck_any n T R S K HG3.out.ed HG3.out.inp).mono ?_
  rintro e w4 ⟨v4, rfl, her, hb⟩
  have HER := Lib.hid her
  replace HX := Lib.hid ((hb.block _ (Array.getElem?_eq_some_iff.1 HX.out).1).trans HX.out)
  replace HB := Lib.hid (HB.out.trans (hb.mono HB.out.size))
  clear her hb HG3
  obtain ⟨y0, y1, y2, y3, y4, y5, y6⟩ := cells7 HX.out
  go_wp2_with fail
  go_at_call 7
  refine (mdRef_any n T R S K (HG.out.below HB.out).ed (HG.out.below HB.out).inp).mono ?_
  rintro e w5 ⟨v5, rfl, hrp, hb⟩
  have HRP := Lib.hid hrp
  replace HER := Lib.hid (HER.out.below hb)
  replace HX := Lib.hid ((hb.block _ (Array.getElem?_eq_some_iff.1 HX.out).1).trans HX.out)
  replace HB := Lib.hid (HB.out.trans (hb.mono HB.out.size))
  clear hrp hb
  clear y0 y1 y2 y3 y4 y5 y6
  obtain ⟨y0, y1, y2, y3, y4, y5, y6⟩ := cells7 HX.out
  go_wp2_with fail
  go_at_call 6
  refine (mdPlan_any n T R S K (HG.out.below HB.out) (by have := HLE.out; omega) (by have := HLE.out; omega)).mono ?_
  rintro e w6 ⟨ve3, vi3, rfl, hg3, hb⟩
  have HG3 := Lib.hid hg3
  replace HER := Lib.hid (HER.out.below hb)
  replace HRP := Lib.hid (HRP.out.below hb)
  replace HX := Lib.hid ((hb.block _ (Array.getElem?_eq_some_iff.1 HX.out).1).trans HX.out)
  replace HB := Lib.hid (HB.out.trans (hb.mono HB.out.size))
  clear hg3 hb
  clear y0 y1 y2 y3 y4 y5 y6
  go_wp2_with fail
  go_at_call 8
  refine (mdNew_pv n T R S K HG3.out).mono ?_
  rintro e w7 ⟨q, v7, rfl, he7, hq, hb⟩
  have HE7 := Lib.hid he7
  have HQ := Lib.hid hq
  replace HER := Lib.hid (HER.out.below hb)
  replace HRP := Lib.hid (HRP.out.below hb)
  replace HB := Lib.hid (HB.out.trans (hb.mono HB.out.size))
  clear he7 hq hb HG3 HX
  go_wp2_with fail
  go_at_call 9
  refine (mdTold_any (HL.out.below HB.out).typ).mono ?_
  rintro e w8 ⟨rfl, hb⟩
  replace HE7 := Lib.hid (HE7.out.below hb)
  replace HER := Lib.hid (HER.out.below hb)
  replace HRP := Lib.hid (HRP.out.below hb)
  replace HB := Lib.hid (HB.out.trans (hb.mono HB.out.size))
  clear hb
  go_wp2_with fail
  go_at_call 10
  refine (kind_pv (HL.out.below HB.out) HER.out).mono ?_
  rintro e w9 ⟨rfl, hb⟩
  replace HE7 := Lib.hid (HE7.out.below hb)
  replace HER := Lib.hid (HER.out.below hb)
  replace HRP := Lib.hid (HRP.out.below hb)
  replace HB := Lib.hid (HB.out.trans (hb.mono HB.out.size))
  clear hb
  have hfo : ∀ (W : World), (Instr.field 60 (.agg #[.slice none 0 0, .slice none 0 0]) 0).run Tryz.prog W = .ok (.slice none 0 0) W := by
    intro W
    first | kernel_rfl | simp [Instr.field, part, asAgg, go_sem]
  rcases HQ.out with ⟨hz, b, rfl⟩ | ⟨hz, rfl⟩
  · rw [hz]
    obtain rfl : v4 = .nilIface := by
      rcases HER.out with ⟨_, _, h⟩ | ⟨h, _⟩
      · exact h
      · exact absurd hz h
    obtain rfl : v7 = .nilIface := by
      rcases HE7.out with ⟨_, _, h⟩ | ⟨h, _⟩
      · exact h
      · exact absurd hz h
    clear hz HQ
    go_wp2_with fail
    go_at_call 11
    refine (mdNilDo 0 0 0 0 0 none 0 0 0 _).mono ?_
    rintro e v1 ⟨rfl, hb⟩
    replace HE7 := Lib.hid (HE7.out.below hb)
    replace HER := Lib.hid (HER.out.below hb)
    replace HRP := Lib.hid (HRP.out.below hb)
    replace HB := Lib.hid (HB.out.trans (hb.mono HB.out.size))
    clear hb
    obtain ⟨v2, hv2⟩ : ∃ v2, v2 = (v1.alloc (.cells #[.int .i64 (-1), .int .i64 1, .slice none 0 0] 48)) := ⟨_, rfl⟩
    have hb : Below v1.heap.size v1 v2 := by rw [hv2]; exact (Below.refl _ _).alloc (Nat.le_refl _) _
    obtain ⟨x0, x1, x2, _⟩ := three_cells (show v2.heap[v1.heap.size]? = some (.cells #[.int .i64 (-1), .int .i64 1, .slice none 0 0] 48 (0, 0)) by rw [hv2]; exact heap_alloc_new v1 _)
    replace HE7 := Lib.hid (HE7.out.below hb)
    replace HER := Lib.hid (HER.out.below hb)
    replace HRP := Lib.hid (HRP.out.below hb)
    replace HB := Lib.hid (HB.out.trans (hb.mono HB.out.size))
    clear hb
    go_upto_region 9 with fail
    rw [← hv2]
    clear hv2
    go_wp2_with fail
    go_at_call 12
    refine (mdNilAll _).mono ?_
    rintro e wk ⟨rfl, rfl⟩
    go_wp2_with fail
    go_at_call 13
    refine (mdNilFolded _).mono ?_
    rintro e wk ⟨rfl, rfl⟩
    go_wp2_with fail
    go_at_call 14
    refine (mdNilShown _).mono ?_
    rintro e wk ⟨rfl, rfl⟩
    go_wp2_with fail
    go_at_call 15
    refine (mdNilWaiting 0 _).mono ?_
    rintro e wk ⟨rfl, rfl⟩
    go_wp2_with fail
    go_at_call 16
    refine (mdNilClosed _).mono ?_
    rintro e wk ⟨rfl, rfl⟩
    go_wp2_with fail
    go_at_call 17
    refine (mdNilOwn 0 _).mono ?_
    rintro e v3 ⟨rfl, hb⟩
    replace HE7 := Lib.hid (HE7.out.below hb)
    replace HER := Lib.hid (HER.out.below hb)
    replace HRP := Lib.hid (HRP.out.below hb)
    replace HB := Lib.hid (HB.out.trans (hb.mono HB.out.size))
    clear hb x0 x1 x2
    go_wp2_with fail
    go_ret
    exact ⟨rfl, HB.out⟩
  · obtain ⟨u4, z4, rfl⟩ : ∃ u x, v4 = .iface u x := by
      rcases HER.out with ⟨h, _⟩ | ⟨_, _, h⟩
      · exact absurd h hz
      · exact h
    obtain ⟨u7, z7, rfl⟩ : ∃ u x, v7 = .iface u x := by
      rcases HE7.out with ⟨h, _⟩ | ⟨_, _, h⟩
      · exact absurd h hz
      · exact h
    have HZ := Lib.hid hz
    have hch : ∀ (W : World) (v : Value), ErrIs W v (planV n E1 I1 T R S K) → Chain W v (planV n E1 I1 T R S K).1 (errnoV (planV n E1 I1 T R S K).2) := fun W v h => by
      rcases h with ⟨h, _⟩ | ⟨_, h, _⟩
      · exact absurd h HZ.out
      · exact h
    have HCH := Lib.hid hch
    obtain ⟨kk, hkk⟩ : ∃ kk, kk = (planV n E1 I1 T R S K).2 := ⟨_, rfl⟩
    have HKK := Lib.hid hkk
    rw [← hkk] at hz
    rw [← hkk]
    have hzb : (kk == 0) = false := by simpa using hz
    clear hch hkk HQ
    go_wp2_with fail
    go_at_call 11
    refine (mdNilDo 0 0 0 0 0 none 0 0 0 _).mono ?_
    rintro e v1 ⟨rfl, hb⟩
    replace HE7 := Lib.hid (HE7.out.below hb)
    replace HER := Lib.hid (HER.out.below hb)
    replace HRP := Lib.hid (HRP.out.below hb)
    replace HB := Lib.hid (HB.out.trans (hb.mono HB.out.size))
    clear hb
    obtain ⟨v2, hv2⟩ : ∃ v2, v2 = (v1.alloc (.cells #[.int .i64 (-1), .int .i64 1, .slice none 0 0] 48)) := ⟨_, rfl⟩
    have hb : Below v1.heap.size v1 v2 := by rw [hv2]; exact (Below.refl _ _).alloc (Nat.le_refl _) _
    obtain ⟨x0, x1, x2, _⟩ := three_cells (show v2.heap[v1.heap.size]? = some (.cells #[.int .i64 (-1), .int .i64 1, .slice none 0 0] 48 (0, 0)) by rw [hv2]; exact heap_alloc_new v1 _)
    replace HE7 := Lib.hid (HE7.out.below hb)
    replace HER := Lib.hid (HER.out.below hb)
    replace HRP := Lib.hid (HRP.out.below hb)
    replace HB := Lib.hid (HB.out.trans (hb.mono HB.out.size))
    clear hb
    go_upto_region 9 with fail
    rw [← hv2]
    clear hv2
    go_wp2_with fail
    go_at_call 12
    refine (mdNilAll _).mono ?_
    rintro e wk ⟨rfl, rfl⟩
    go_wp2_with fail
    go_at_call 13
    refine (mdNilFolded _).mono ?_
    rintro e wk ⟨rfl, rfl⟩
    go_wp2_with fail
    go_at_call 14
    refine (mdNilShown _).mono ?_
    rintro e wk ⟨rfl, rfl⟩
    go_wp2_with fail
    go_at_call 15
    refine (mdNilWaiting 0 _).mono ?_
    rintro e wk ⟨rfl, rfl⟩
    go_wp2_with fail
    go_at_call 16
    refine (mdNilClosed _).mono ?_
    rintro e wk ⟨rfl, rfl⟩
    go_wp2_with fail
    go_at_call 17
    refine (mdNilOwn 0 _).mono ?_
    rintro e v3 ⟨rfl, hb⟩
    replace HE7 := Lib.hid (HE7.out.below hb)
    replace HER := Lib.hid (HER.out.below hb)
    replace HRP := Lib.hid (HRP.out.below hb)
    replace HB := Lib.hid (HB.out.trans (hb.mono HB.out.size))
    clear hb x0 x1 x2
    go_wp2_with fail
    go_at_call 18
    refine (text_errno (planV n E1 I1 T R S K).2 (HL.out.below HB.out) (HCH.out _ _ HER.out) HSM.out.2.2.1 (by have := HSM.out.2.2.2; omega) (by have := HSM.out.2.1; omega) HSM.out.1).mono ?_
    rintro e wk ⟨rfl, hb⟩
    replace HE7 := Lib.hid (HE7.out.below hb)
    replace HER := Lib.hid (HER.out.below hb)
    replace HRP := Lib.hid (HRP.out.below hb)
    replace HB := Lib.hid (HB.out.trans (hb.mono HB.out.size))
    clear hb
    go_wp2_with fail
    go_at_call 19
    rw [HKK.out]
    refine (refTextF_any (planV n E1 I1 T R S K).2 (by have := HSM.out.2.2.1; have := HZ.out; omega) (by have := HSM.out.2.2.2; omega) (reads_rdp HRP.out HSM.out) (by have := HSM.out.2.1; omega) HSM.out.1).mono ?_
    rintro e wk ⟨rfl, hb⟩
    replace HE7 := Lib.hid (HE7.out.below hb)
    replace HER := Lib.hid (HER.out.below hb)
    replace HRP := Lib.hid (HRP.out.below hb)
    replace HB := Lib.hid (HB.out.trans (hb.mono HB.out.size))
    clear hb
    go_wp2_with fail
    go_at_call 18
    refine (text_errno (planV n E1 I1 T R S K).2 (HL.out.below HB.out) (HCH.out _ _ HE7.out) HSM.out.2.2.1 (by have := HSM.out.2.2.2; omega) (by have := HSM.out.2.1; omega) HSM.out.1).mono ?_
    rintro e wk ⟨rfl, hb⟩
    replace HE7 := Lib.hid (HE7.out.below hb)
    replace HER := Lib.hid (HER.out.below hb)
    replace HRP := Lib.hid (HRP.out.below hb)
    replace HB := Lib.hid (HB.out.trans (hb.mono HB.out.size))
    clear hb
    go_wp2_with fail
    go_at_call 18
    refine (text_errno (planV n E1 I1 T R S K).2 (HL.out.below HB.out) (HCH.out _ _ HER.out) HSM.out.2.2.1 (by have := HSM.out.2.2.2; omega) (by have := HSM.out.2.1; omega) HSM.out.1).mono ?_
    rintro e wk ⟨rfl, hb⟩
    replace HE7 := Lib.hid (HE7.out.below hb)
    replace HER := Lib.hid (HER.out.below hb)
    replace HRP := Lib.hid (HRP.out.below hb)
    replace HB := Lib.hid (HB.out.trans (hb.mono HB.out.size))
    clear hb
    go_wp2_with fail
    go_ret
    exact ⟨by simp; try exact HZ.out, HB.out⟩
end Go.Proofs.YtdllgeanmlmmfaaGreatDoor.Md
