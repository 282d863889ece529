
/-
  THE LAW BagBack, walked.
-/
import Derived.Test.YtkcmeklgnbejiaaBagTold
import Derived.Test.YtkcmeklgnbejiaaBagFix
import Derived.Test.YtkcmeklgnbejiaaBagRef2
namespace Go.Proofs.Ytkcmeklgnbejiaa.Batch
open Go.RowKit
set_option linter.unusedVariables false

/-- The sums of two, named. -/
structure Sum2 (E : Int) (R L : List Ch) (n : Nat) (e : Int) (r : List Ch) : Prop where
  zero : E = e
  is : R = r
  right : RightP r
  wf : ∀ x ∈ r, x.Wf
  len : r.length ≤ n
structure Ap2 (A B : List Ch) (e : Int) (r : List Ch) : Prop where
  he : e = applyE A B
  hr : r = applyR A B
  wf : ∀ x ∈ r, x.Wf
theorem ap2 {A B : List Ch} (ha : ∀ x ∈ A, x.Wf) (hb : ∀ x ∈ B, x.Wf) : ∃ e r, Ap2 A B e r := ⟨_, _, rfl, rfl, applyR_wf ha hb⟩
theorem Nice.ap {A B : List Ch} (ha : Nice A) (hb : Nice B) (hn : anyNeg A B = false) : applyE A B = 0 ∧ applyR A B = sumL (A ++ B) ∧ ∀ p t, tot (sumL (A ++ B)) p t = tot A p t + tot B p t := by
  have h := ha.two hb
  have h2 := apply_not hn
  exact ⟨h2.1.trans h.1, h2.2.trans h.2.1, h.2.2⟩
theorem right_ext {A B : List Ch} (ha : RightP A) (hb : RightP B) (h : ∀ p t, tot A p t = tot B p t) : A = B :=
  (once ha hb).2 ⟨fun x hx => by rw [← h]; exact tot_one ha.2 hx, fun x hx => by rw [h]; exact tot_one hb.2 hx⟩
theorem minus_right {A : List Ch} (h : RightP A) (hs : ∀ x ∈ A, -12000 ≤ x.d ∧ x.d ≤ 12000) : RightP (minusL A) := by
  refine ⟨fun x hx => ?_, ?_⟩
  · unfold minusL at hx
    obtain ⟨y, hy, rfl⟩ := List.mem_map.1 hx
    have h1 := hs y hy
    have h2 := h.1 y hy
    have e : (negC y).d = -y.d := wr_id (by omega) (by omega)
    refine ⟨wrong_of_fit (show Fit (negC y) from (fit_of_wrong h2.1 : Fit y)) ?_, by rw [e]; have := h2.2; omega⟩
    rw [e]
    exact decide_eq_false (by omega)
  · unfold minusL
    rw [List.pairwise_map]
    exact h.2
/-- What the law speaks of, of three. -/
structure Back (A B C P : List Ch) : Prop where
  e1 : applyE A B = 0
  r1 : applyR A B = P
  right : RightP P
  wf : ∀ x ∈ P, x.Wf
  len : P.length ≤ 24
  mright : RightP (minusL B)
  e2 : applyE P (minusL B) = 0
  r2 : applyR P (minusL B) = A
  again : applyE P C = 0 → applyE A (sumsR (B ++ C)) = 0 ∧ applyR P C = applyR A (sumsR (B ++ C))
theorem ap_zero {A B : List Ch} (ha : ∀ x ∈ A, x.Wf) (hb : ∀ x ∈ B, x.Wf) (hr : RightP A) (hs : RightP B) (hn : anyNeg A B = false) (hd : ∀ p t, -100000 ≤ tot A p t + tot B p t ∧ tot A p t + tot B p t ≤ 100000) : applyE A B = 0 := by
  have h2 := apply_not hn
  rw [h2.1]
  exact (sum_tot (both_wf ha hb) fun p t => by rw [tot_append]; exact hd p t).1
theorem back_of {A B C : List Ch} (ha : Nice A) (hp : BagP A) (hb : Nice B) (hc : Nice C) (hn : anyNeg A B = false) : Back A B C (applyR A B) := by
  have h1 := ha.ap hb hn
  have hr := applyR_right ha.right hb.right ha.wf hb.wf
  have hw := applyR_wf ha.wf hb.wf (B := A) (C := B)
  have ht := applyR_tot ha.right hb.right ha.wf hb.wf h1.1
  have hm := minus_right hb.right hb.d
  have hmw := minusL_wf hb.wf
  have htm := tot_minus hb.d
  have hbag := applyR_bag hp hb.right ha.wf hb.wf h1.1
  have hlen : (applyR A B).length ≤ 24 := by have := applyR_length A B; have := ha.len; have := hb.len; omega
  generalize applyR A B = P at hr hw ht hbag hlen
  have hn2 : anyNeg P (minusL B) = false := anyNeg_no fun x hx => by
    have e := tot_one hm.2 hx
    rw [htm] at e
    rw [ht, ← e]
    have := hp.tot0 x.p x.t
    omega
  have he2 : applyE P (minusL B) = 0 := ap_zero hw hmw hr hm hn2 fun p t => by
    have h1 := ha.lo p t; have h2 := ha.hi p t
    rw [ht, htm]
    omega
  have ht2 := applyR_tot hr hm hw hmw he2
  have hbc := hb.two hc
  have hwbc := both_wf hb.wf hc.wf
  refine ⟨h1.1, ?_, hr, hw, hlen, hm, he2, right_ext (applyR_right hr hm hw hmw) ha.right fun p t => ?_, fun he => ?_⟩
  · exact right_ext (applyR_right ha.right hb.right ha.wf hb.wf) hr fun p t => by rw [ht, applyR_tot ha.right hb.right ha.wf hb.wf h1.1]
  · rw [ht2, ht, htm]; omega
  · have hsr := hb.right2 hc
    have hsw := sumsR_wf hwbc
    have hst : ∀ p t, tot (sumsR (B ++ C)) p t = tot B p t + tot C p t := fun p t => by rw [hbc.2.1, hbc.2.2]
    have hnp : anyNeg P C = false := by
      cases e : anyNeg P C
      · rfl
      · rw [(apply_neg e).1] at he; exact absurd he (by decide)
    have hna : anyNeg A (sumsR (B ++ C)) = false := anyNeg_no fun x hx => by
      have e := tot_one hsr.2 hx
      rw [← e, hst]
      by_cases hk : ∃ y ∈ C, y.p = x.p ∧ y.t = x.t
      · obtain ⟨y, hy, hyp, hyt⟩ := hk
        have h3 := anyNeg_of hnp y hy
        rw [ht, hyp, hyt] at h3
        rw [tot_key hc.right.2 hy hyp hyt]
        omega
      · rw [tot_none (fun y hy hky => hk ⟨y, hy, hky⟩)]
        have := hbag.tot0 x.p x.t
        rw [ht] at this
        omega
    have he4 : applyE A (sumsR (B ++ C)) = 0 := ap_zero ha.wf hsw ha.right hsr hna fun p t => by
      have h1 := ha.lo p t; have h2 := ha.hi p t; have h3 := hb.lo p t; have h4 := hb.hi p t; have h5 := hc.lo p t; have h6 := hc.hi p t
      rw [hst]
      omega
    refine ⟨he4, right_ext (applyR_right hr hc.right hw hc.wf) (applyR_right ha.right hsr ha.wf hsw) fun p t => ?_⟩
    rw [applyR_tot hr hc.right hw hc.wf he, applyR_tot ha.right hsr ha.wf hsw he4, ht, hst]
    omega

set_option maxRecDepth 1000000 in
set_option maxHeartbeats 16000000 in
theorem back_any {w : World} {v1 v2 v3 : Value} {l1 l2 l3 : List Ch} (h1 : Rd w v1 l1) (h2 : Rd w v2 l2) (h3 : Rd w v3 l3) :
    Calls Try.prog 4 #[v1, v2, v3] w fun e w' => e = .returned (.bool true) ∧ Below w.heap.size w w' := by
  have HFA := Lib.hid (fun W (h : Rd W v1 l1) => bagfix_any h)
  have HFB := Lib.hid (fun W (h : Rd W v2 l2) => fix_any h)
  have HFC := Lib.hid (fun W (h : Rd W v3 l3) => fix_any h)
  have HNA := Lib.hid (bagFix_nice h1.wf)
  have HP := Lib.hid (bagFix_bag h1.wf)
  have HNB := Lib.hid (fix_nice h2.wf)
  have HNC := Lib.hid (fix_nice h3.wf)
  have HA0 := Lib.hid h1
  have HB0 := Lib.hid h2
  have HC0 := Lib.hid h3
  obtain ⟨ao1, cap1, rfl, _⟩ := h1
  obtain ⟨ao2, cap2, rfl, _⟩ := h2
  obtain ⟨ao3, cap3, rfl, _⟩ := h3
  generalize bagFixL l1 = A at HFA HNA HP
  generalize fixL l2 = B at HFB HNB
  generalize fixL l3 = C at HFC HNC
  have hlA : A.length ≤ 12 := HNA.out.len
  have hlB : B.length ≤ 12 := HNB.out.len
  have hlC : C.length ≤ 12 := HNC.out.len
  have HB := Lib.hid (Below.refl w.heap.size w)
  cases hn : anyNeg A B
  · have HBKA := Lib.hid (back_of HNA.out HP.out HNB.out HNC.out hn)
    obtain ⟨P, hP⟩ : ∃ P, P = applyR A B := ⟨_, rfl⟩
    rw [← hP] at HBKA
    clear hP
    have HR1 := Lib.hid (show Sum2 (applyE A B) (applyR A B) [] 24 0 P from ⟨HBKA.out.e1, HBKA.out.r1, HBKA.out.right, HBKA.out.wf, HBKA.out.len⟩)
    have HMR := Lib.hid HBKA.out.mright
    have HBK := Lib.hid (show applyE P (minusL B) = 0 ∧ applyR P (minusL B) = A from ⟨HBKA.out.e2, HBKA.out.r2⟩)
    obtain ⟨e2, r2, HR2⟩ : ∃ (e2 : Int) (r2 : List Ch), Hid (Ap2 P C e2 r2) := by obtain ⟨e, r, h⟩ := ap2 HBKA.out.wf HNC.out.wf; exact ⟨e, r, Lib.hid h⟩
    obtain ⟨M, HR3⟩ : ∃ M : List Ch, Hid (Sum2 (sumsE (B ++ C)) (sumsR (B ++ C)) [] 24 0 M) := ⟨_, Lib.hid ⟨(HNB.out.two HNC.out).1, rfl, HNB.out.right2 HNC.out, sumsR_wf (both_wf HNB.out.wf HNC.out.wf), by have := sumsR_length (B ++ C); rw [List.length_append] at this; omega⟩⟩
    obtain ⟨e4, r4, HR4⟩ : ∃ (e4 : Int) (r4 : List Ch), Hid (Ap2 A M e4 r4) := by obtain ⟨e, r, h⟩ := ap2 HNA.out.wf HR3.out.wf; exact ⟨e, r, Lib.hid h⟩
    have HK := Lib.hid (show e2 = 0 → e4 = 0 ∧ r2 = r4 by rw [HR2.out.he, HR2.out.hr, HR4.out.he, HR4.out.hr, ← HR3.out.is]; exact HBKA.out.again)
    clear HBKA
    go_enter Try.func4, Try.ntmps4
    go_wp2_with fail
    go_at_call 10
    refine (HFA.out _ HA0.out).mono ?_
    rintro e w1 ⟨v, rfl, hown, hb⟩
    replace HA0 := Lib.hid (HA0.out.below hb)
    replace HB0 := Lib.hid (HB0.out.below hb)
    replace HC0 := Lib.hid (HC0.out.below hb)
    replace HB := Lib.hid (HB.out.trans (hb.mono HB.out.size))
    have HA := Lib.hid (hown.sl HNA.out.wf)
    obtain ⟨ao1, cap1, rfl, _⟩ := hown.form'
    clear hown hb
    clear HA0
    go_wp2_with fail
    go_at_call 12
    refine (to_any HA.out.rd (by omega)).mono ?_
    rintro e w2 ⟨v, rfl, hown, hb⟩
    replace HB0 := Lib.hid (HB0.out.below hb)
    replace HC0 := Lib.hid (HC0.out.below hb)
    replace HA := Lib.hid (HA.out.below hb)
    replace HB := Lib.hid (HB.out.trans (hb.mono HB.out.size))
    have HX := Lib.hid (hown.sl HNA.out.wf)
    obtain ⟨ao2, cap2, rfl, _⟩ := hown.form'
    clear hown hb
    clear HA
    go_wp2_with fail
    go_at_call 11
    refine (HFB.out _ HB0.out).mono ?_
    rintro e w3 ⟨v, rfl, hown, hb⟩
    replace HB0 := Lib.hid (HB0.out.below hb)
    replace HC0 := Lib.hid (HC0.out.below hb)
    replace HX := Lib.hid (HX.out.below hb)
    replace HB := Lib.hid (HB.out.trans (hb.mono HB.out.size))
    have HBb := Lib.hid (hown.sl HNB.out.wf)
    obtain ⟨ao3, cap3, rfl, _⟩ := hown.form'
    clear hown hb
    clear HB0
    go_wp2_with fail
    go_at_call 12
    refine (to_any HBb.out.rd (by omega)).mono ?_
    rintro e w4 ⟨v, rfl, hown, hb⟩
    replace HC0 := Lib.hid (HC0.out.below hb)
    replace HX := Lib.hid (HX.out.below hb)
    replace HBb := Lib.hid (HBb.out.below hb)
    replace HB := Lib.hid (HB.out.trans (hb.mono HB.out.size))
    have HY := Lib.hid (hown.sl HNB.out.wf)
    obtain ⟨ao4, cap4, rfl, _⟩ := hown.form'
    clear hown hb
    clear HBb
    go_wp2_with fail
    go_at_call 11
    refine (HFC.out _ HC0.out).mono ?_
    rintro e w5 ⟨v, rfl, hown, hb⟩
    replace HC0 := Lib.hid (HC0.out.below hb)
    replace HX := Lib.hid (HX.out.below hb)
    replace HY := Lib.hid (HY.out.below hb)
    replace HB := Lib.hid (HB.out.trans (hb.mono HB.out.size))
    have HCc := Lib.hid (hown.sl HNC.out.wf)
    obtain ⟨ao5, cap5, rfl, _⟩ := hown.form'
    clear hown hb
    clear HC0
    go_wp2_with fail
    go_at_call 12
    refine (to_any HCc.out.rd (by omega)).mono ?_
    rintro e w6 ⟨v, rfl, hown, hb⟩
    replace HX := Lib.hid (HX.out.below hb)
    replace HY := Lib.hid (HY.out.below hb)
    replace HCc := Lib.hid (HCc.out.below hb)
    replace HB := Lib.hid (HB.out.trans (hb.mono HB.out.size))
    have HZ := Lib.hid (hown.sl HNC.out.wf)
    obtain ⟨ao6, cap6, rfl, _⟩ := hown.form'
    clear hown hb
    clear HCc
    go_wp2_with fail
    go_at_call 13
    refine (apply_any HX.out HY.out HNA.out.right HNB.out.right (by omega)).mono ?_
    rw [HR1.out.zero]
    rw [HR1.out.is]
    rintro e w7 ⟨v, rfl, hown, hb⟩
    replace HX := Lib.hid (HX.out.below hb)
    replace HY := Lib.hid (HY.out.below hb)
    replace HZ := Lib.hid (HZ.out.below hb)
    replace HB := Lib.hid (HB.out.trans (hb.mono HB.out.size))
    have HQ := Lib.hid (hown.sl HR1.out.wf)
    obtain ⟨ao7, cap7, rfl, _⟩ := hown.form'
    clear hown hb
    go_wp2_with fail
    go_at_call 15
    refine (bagtold_any _).mono ?_
    rintro e w8 ⟨rfl, hb⟩
    replace HX := Lib.hid (HX.out.below hb)
    replace HY := Lib.hid (HY.out.below hb)
    replace HZ := Lib.hid (HZ.out.below hb)
    replace HQ := Lib.hid (HQ.out.below hb)
    replace HB := Lib.hid (HB.out.trans (hb.mono HB.out.size))
    clear  hb
    go_wp2_with fail
    go_at_call 23
    refine (minus_any HY.out (by omega)).mono ?_
    rintro e w9 ⟨v, rfl, hown, hb⟩
    replace HX := Lib.hid (HX.out.below hb)
    replace HY := Lib.hid (HY.out.below hb)
    replace HZ := Lib.hid (HZ.out.below hb)
    replace HQ := Lib.hid (HQ.out.below hb)
    replace HB := Lib.hid (HB.out.trans (hb.mono HB.out.size))
    have HM := Lib.hid (hown.sl (minusL_wf HNB.out.wf))
    obtain ⟨ao9, cap9, rfl, _⟩ := hown.form'
    clear hown hb
    go_wp2_with fail
    go_at_call 13
    refine (apply_any HQ.out HM.out HR1.out.right HMR.out (by have := HR1.out.len; rw [minus_length]; omega)).mono ?_
    rw [HBK.out.1]
    rw [HBK.out.2]
    rintro e w10 ⟨v, rfl, hown, hb⟩
    replace HX := Lib.hid (HX.out.below hb)
    replace HY := Lib.hid (HY.out.below hb)
    replace HZ := Lib.hid (HZ.out.below hb)
    replace HQ := Lib.hid (HQ.out.below hb)
    replace HM := Lib.hid (HM.out.below hb)
    replace HB := Lib.hid (HB.out.trans (hb.mono HB.out.size))
    have HV := Lib.hid (hown.sl HNA.out.wf)
    obtain ⟨ao10, cap10, rfl, _⟩ := hown.form'
    clear hown hb
    clear HM
    go_wp2_with fail
    go_at_call 24
    refine (sameB_any HV.out HX.out).mono ?_
    rw [eqL_self]
    rintro e w11 ⟨rfl, hb⟩
    replace HX := Lib.hid (HX.out.below hb)
    replace HY := Lib.hid (HY.out.below hb)
    replace HZ := Lib.hid (HZ.out.below hb)
    replace HQ := Lib.hid (HQ.out.below hb)
    replace HV := Lib.hid (HV.out.below hb)
    replace HB := Lib.hid (HB.out.trans (hb.mono HB.out.size))
    clear  hb
    clear HV
    go_wp2_with fail
    go_at_call 13
    refine (apply_any HQ.out HZ.out HR1.out.right HNC.out.right (by have := HR1.out.len; omega)).mono ?_
    rw [← HR2.out.he]
    rw [← HR2.out.hr]
    rintro e w12 ⟨v, rfl, hown, hb⟩
    replace HX := Lib.hid (HX.out.below hb)
    replace HY := Lib.hid (HY.out.below hb)
    replace HZ := Lib.hid (HZ.out.below hb)
    replace HQ := Lib.hid (HQ.out.below hb)
    replace HB := Lib.hid (HB.out.trans (hb.mono HB.out.size))
    have HS := Lib.hid (hown.sl HR2.out.wf)
    obtain ⟨ao12, cap12, rfl, _⟩ := hown.form'
    clear hown hb
    go_wp2_with fail
    go_at_call 25
    refine (merge_any HY.out HZ.out HNB.out.right.sorted HNC.out.right.sorted (by omega)).mono ?_
    rw [HR3.out.zero]
    rw [HR3.out.is]
    rintro e w13 ⟨v, rfl, hown, hb⟩
    replace HX := Lib.hid (HX.out.below hb)
    replace HY := Lib.hid (HY.out.below hb)
    replace HZ := Lib.hid (HZ.out.below hb)
    replace HQ := Lib.hid (HQ.out.below hb)
    replace HS := Lib.hid (HS.out.below hb)
    replace HB := Lib.hid (HB.out.trans (hb.mono HB.out.size))
    have HM := Lib.hid (hown.sl HR3.out.wf)
    obtain ⟨ao13, cap13, rfl, _⟩ := hown.form'
    clear hown hb
    go_wp2_with fail
    go_at_call 13
    refine (apply_any HX.out HM.out HNA.out.right HR3.out.right (by have := HR3.out.len; omega)).mono ?_
    rw [← HR4.out.he]
    rw [← HR4.out.hr]
    rintro e w14 ⟨v, rfl, hown, hb⟩
    replace HX := Lib.hid (HX.out.below hb)
    replace HY := Lib.hid (HY.out.below hb)
    replace HZ := Lib.hid (HZ.out.below hb)
    replace HQ := Lib.hid (HQ.out.below hb)
    replace HS := Lib.hid (HS.out.below hb)
    replace HM := Lib.hid (HM.out.below hb)
    replace HB := Lib.hid (HB.out.trans (hb.mono HB.out.size))
    have HT := Lib.hid (hown.sl HR4.out.wf)
    obtain ⟨ao14, cap14, rfl, _⟩ := hown.form'
    clear hown hb
    clear HM
    by_cases hE : e2 = 0
    · have HST := Lib.hid (HK.out hE)
      have hne : (e2 != 0) = false := by rw [hE]; rfl
      have hk0 : e4 = 0 := HST.out.1
      have hr : r2 = r4 := HST.out.2
      subst hr hk0
      clear hE HST
      go_wp2_with fail
      go_at_call 24
      refine (sameB_any HS.out HT.out).mono ?_
      rw [eqL_self]
      rintro e wl ⟨rfl, hb⟩
      replace HB := Lib.hid (HB.out.trans (hb.mono HB.out.size))
      clear hb
      go_wp2_with fail
      go_ret
      exact ⟨rfl, HB.out⟩
    · have hne : (e2 != 0) = true := by rw [bne_iff_ne]; exact hE
      clear hE
      go_wp2_with fail
      go_ret
      exact ⟨rfl, HB.out⟩
  · have HR1 := Lib.hid (apply_neg hn)
    go_enter Try.func4, Try.ntmps4
    go_wp2_with fail
    go_at_call 10
    refine (HFA.out _ HA0.out).mono ?_
    rintro e w1 ⟨v, rfl, hown, hb⟩
    replace HA0 := Lib.hid (HA0.out.below hb)
    replace HB0 := Lib.hid (HB0.out.below hb)
    replace HC0 := Lib.hid (HC0.out.below hb)
    replace HB := Lib.hid (HB.out.trans (hb.mono HB.out.size))
    have HA := Lib.hid (hown.sl HNA.out.wf)
    obtain ⟨ao1, cap1, rfl, _⟩ := hown.form'
    clear hown hb
    clear HA0
    go_wp2_with fail
    go_at_call 12
    refine (to_any HA.out.rd (by omega)).mono ?_
    rintro e w2 ⟨v, rfl, hown, hb⟩
    replace HB0 := Lib.hid (HB0.out.below hb)
    replace HC0 := Lib.hid (HC0.out.below hb)
    replace HA := Lib.hid (HA.out.below hb)
    replace HB := Lib.hid (HB.out.trans (hb.mono HB.out.size))
    have HX := Lib.hid (hown.sl HNA.out.wf)
    obtain ⟨ao2, cap2, rfl, _⟩ := hown.form'
    clear hown hb
    clear HA
    go_wp2_with fail
    go_at_call 11
    refine (HFB.out _ HB0.out).mono ?_
    rintro e w3 ⟨v, rfl, hown, hb⟩
    replace HB0 := Lib.hid (HB0.out.below hb)
    replace HC0 := Lib.hid (HC0.out.below hb)
    replace HX := Lib.hid (HX.out.below hb)
    replace HB := Lib.hid (HB.out.trans (hb.mono HB.out.size))
    have HBb := Lib.hid (hown.sl HNB.out.wf)
    obtain ⟨ao3, cap3, rfl, _⟩ := hown.form'
    clear hown hb
    clear HB0
    go_wp2_with fail
    go_at_call 12
    refine (to_any HBb.out.rd (by omega)).mono ?_
    rintro e w4 ⟨v, rfl, hown, hb⟩
    replace HC0 := Lib.hid (HC0.out.below hb)
    replace HX := Lib.hid (HX.out.below hb)
    replace HBb := Lib.hid (HBb.out.below hb)
    replace HB := Lib.hid (HB.out.trans (hb.mono HB.out.size))
    have HY := Lib.hid (hown.sl HNB.out.wf)
    obtain ⟨ao4, cap4, rfl, _⟩ := hown.form'
    clear hown hb
    clear HBb
    go_wp2_with fail
    go_at_call 11
    refine (HFC.out _ HC0.out).mono ?_
    rintro e w5 ⟨v, rfl, hown, hb⟩
    replace HC0 := Lib.hid (HC0.out.below hb)
    replace HX := Lib.hid (HX.out.below hb)
    replace HY := Lib.hid (HY.out.below hb)
    replace HB := Lib.hid (HB.out.trans (hb.mono HB.out.size))
    have HCc := Lib.hid (hown.sl HNC.out.wf)
    obtain ⟨ao5, cap5, rfl, _⟩ := hown.form'
    clear hown hb
    clear HC0
    go_wp2_with fail
    go_at_call 12
    refine (to_any HCc.out.rd (by omega)).mono ?_
    rintro e w6 ⟨v, rfl, hown, hb⟩
    replace HX := Lib.hid (HX.out.below hb)
    replace HY := Lib.hid (HY.out.below hb)
    replace HCc := Lib.hid (HCc.out.below hb)
    replace HB := Lib.hid (HB.out.trans (hb.mono HB.out.size))
    have HZ := Lib.hid (hown.sl HNC.out.wf)
    obtain ⟨ao6, cap6, rfl, _⟩ := hown.form'
    clear hown hb
    clear HCc
    go_wp2_with fail
    go_at_call 13
    refine (apply_any HX.out HY.out HNA.out.right HNB.out.right (by omega)).mono ?_
    rw [HR1.out.1]
    rw [HR1.out.2]
    rintro e w7 ⟨v, rfl, hown, hb⟩
    replace HX := Lib.hid (HX.out.below hb)
    replace HY := Lib.hid (HY.out.below hb)
    replace HZ := Lib.hid (HZ.out.below hb)
    replace HB := Lib.hid (HB.out.trans (hb.mono HB.out.size))
    obtain ⟨ao7, cap7, rfl, _⟩ := hown.form'
    clear hown hb
    go_wp2_with fail
    go_at_call 15
    refine (bagtold_any _).mono ?_
    rintro e w8 ⟨rfl, hb⟩
    replace HX := Lib.hid (HX.out.below hb)
    replace HY := Lib.hid (HY.out.below hb)
    replace HZ := Lib.hid (HZ.out.below hb)
    replace HB := Lib.hid (HB.out.trans (hb.mono HB.out.size))
    clear  hb
    go_wp2_with fail
    go_ret
    exact ⟨rfl, HB.out⟩
end Go.Proofs.Ytkcmeklgnbejiaa.Batch
