/-
  THE LAW BatchMerges, walked.
-/
import Derived.Test.YtcjbmeebenaonaaBatchLawMath
import Derived.Test.YtcjbmeebenaonaaBatchTold
namespace Go.Proofs.Ytcjbmeebenaonaa.Batch
open Go.RowKit
set_option linter.unusedVariables false

set_option maxRecDepth 1000000 in
set_option maxHeartbeats 16000000 in
theorem merges_any {w : World} {v1 v2 v3 : Value} {l1 l2 l3 : List Ch} (h1 : Rd w v1 l1) (h2 : Rd w v2 l2) (h3 : Rd w v3 l3) :
    Calls Try.prog 4 #[v1, v2, v3] w fun e w' => e = .returned (.bool true) ∧ Below w.heap.size w w' := by
  have HFA := Lib.hid (fun W (h : Rd W v1 l1) => fix_any h)
  have HFB := Lib.hid (fun W (h : Rd W v2 l2) => fix_any h)
  have HFC := Lib.hid (fun W (h : Rd W v3 l3) => fix_any h)
  have HNA := Lib.hid (fix_nice h1.wf)
  have HNB := Lib.hid (fix_nice h2.wf)
  have HNC := Lib.hid (fix_nice h3.wf)
  have HA0 := Lib.hid h1
  have HB0 := Lib.hid h2
  have HC0 := Lib.hid h3
  obtain ⟨ao1, cap1, rfl, _⟩ := h1
  obtain ⟨ao2, cap2, rfl, _⟩ := h2
  obtain ⟨ao3, cap3, rfl, _⟩ := h3
  generalize fixL l1 = A at HFA HNA
  generalize fixL l2 = B at HFB HNB
  generalize fixL l3 = C at HFC HNC
  have HAB := Lib.hid (HNA.out.two HNB.out)
  have HBA := Lib.hid (HNA.out.comm HNB.out)
  have HBK := Lib.hid HNA.out.back
  have HWX := Lib.hid (sumsR_wf (both_wf HNA.out.wf HNB.out.wf))
  have HWQ := Lib.hid (sumsR_wf (both_wf HNB.out.wf HNC.out.wf))
  have HRP := Lib.hid (HNA.out.right2 HNB.out)
  have HRX := Lib.hid (rightB_true HRP.out)
  have HRQ := Lib.hid (HNB.out.right2 HNC.out)
  have HAS := Lib.hid (HNA.out.assoc HNB.out HNC.out)
  have hlA : A.length ≤ 12 := HNA.out.len
  have hlB : B.length ≤ 12 := HNB.out.len
  have hlC : C.length ≤ 12 := HNC.out.len
  have HLX := Lib.hid (show (sumsR (A ++ B)).length ≤ 100000 by have := sumsR_length (A ++ B); rw [List.length_append] at this; omega)
  have HLX2 := Lib.hid (show (sumsR (A ++ B)).length ≤ 24 by have := sumsR_length (A ++ B); rw [List.length_append] at this; omega)
  have HLQ2 := Lib.hid (show (sumsR (B ++ C)).length ≤ 24 by have := sumsR_length (B ++ C); rw [List.length_append] at this; omega)
  have HB := Lib.hid (Below.refl w.heap.size w)
  go_enter Try.func4, Try.ntmps4
  go_wp2_with fail
  go_at_call 15
  refine (HFA.out _ HA0.out).mono ?_
  rintro e w1 ⟨v, rfl, hown, hb⟩
  replace HA0 := Lib.hid (HA0.out.below hb)
  replace HB0 := Lib.hid (HB0.out.below hb)
  replace HC0 := Lib.hid (HC0.out.below hb)
  replace HB := Lib.hid (HB.out.trans (hb.mono HB.out.size))
  have HA := Lib.hid (hown.sl HNA.out.wf)
  obtain ⟨ao1, cap1, rfl, _⟩ := hown.form'
  clear hown hb
  clear HA0
  go_wp2_with fail
  go_at_call 15
  refine (HFB.out _ HB0.out).mono ?_
  rintro e w2 ⟨v, rfl, hown, hb⟩
  replace HB0 := Lib.hid (HB0.out.below hb)
  replace HC0 := Lib.hid (HC0.out.below hb)
  replace HA := Lib.hid (HA.out.below hb)
  replace HB := Lib.hid (HB.out.trans (hb.mono HB.out.size))
  have HBb := Lib.hid (hown.sl HNB.out.wf)
  obtain ⟨ao2, cap2, rfl, _⟩ := hown.form'
  clear hown hb
  clear HB0
  go_wp2_with fail
  go_at_call 15
  refine (HFC.out _ HC0.out).mono ?_
  rintro e w3 ⟨v, rfl, hown, hb⟩
  replace HC0 := Lib.hid (HC0.out.below hb)
  replace HA := Lib.hid (HA.out.below hb)
  replace HBb := Lib.hid (HBb.out.below hb)
  replace HB := Lib.hid (HB.out.trans (hb.mono HB.out.size))
  have HCc := Lib.hid (hown.sl HNC.out.wf)
  obtain ⟨ao3, cap3, rfl, _⟩ := hown.form'
  clear hown hb
  clear HC0
  go_wp2_with fail
  go_at_call 7
  refine (to_any HA.out.rd (by omega)).mono ?_
  rintro e w4 ⟨v, rfl, hown, hb⟩
  replace HA := Lib.hid (HA.out.below hb)
  replace HBb := Lib.hid (HBb.out.below hb)
  replace HCc := Lib.hid (HCc.out.below hb)
  replace HB := Lib.hid (HB.out.trans (hb.mono HB.out.size))
  have HA1 := Lib.hid (hown.sl HNA.out.wf)
  obtain ⟨ao4, cap4, rfl, _⟩ := hown.form'
  clear hown hb
  go_wp2_with fail
  go_at_call 7
  refine (to_any HBb.out.rd (by omega)).mono ?_
  rintro e w5 ⟨v, rfl, hown, hb⟩
  replace HA := Lib.hid (HA.out.below hb)
  replace HBb := Lib.hid (HBb.out.below hb)
  replace HCc := Lib.hid (HCc.out.below hb)
  replace HA1 := Lib.hid (HA1.out.below hb)
  replace HB := Lib.hid (HB.out.trans (hb.mono HB.out.size))
  have HB1 := Lib.hid (hown.sl HNB.out.wf)
  obtain ⟨ao5, cap5, rfl, _⟩ := hown.form'
  clear hown hb
  go_wp2_with fail
  go_at_call 16
  refine (merge_any HA1.out HB1.out HNA.out.right.sorted HNB.out.right.sorted (by omega)).mono ?_
  rw [HAB.out.1]
  rintro e w6 ⟨v, rfl, hown, hb⟩
  replace HA := Lib.hid (HA.out.below hb)
  replace HBb := Lib.hid (HBb.out.below hb)
  replace HCc := Lib.hid (HCc.out.below hb)
  replace HA1 := Lib.hid (HA1.out.below hb)
  replace HB1 := Lib.hid (HB1.out.below hb)
  replace HB := Lib.hid (HB.out.trans (hb.mono HB.out.size))
  have HX := Lib.hid (hown.sl HWX.out)
  obtain ⟨ao6, cap6, rfl, _⟩ := hown.form'
  clear hown hb
  clear HA1
  clear HB1
  go_wp2_with fail
  go_at_call 17
  refine (refmerge_any HA.out HBb.out (by omega)).mono ?_
  rw [HAB.out.1]
  rintro e w7 ⟨v, rfl, hown, hb⟩
  replace HA := Lib.hid (HA.out.below hb)
  replace HBb := Lib.hid (HBb.out.below hb)
  replace HCc := Lib.hid (HCc.out.below hb)
  replace HX := Lib.hid (HX.out.below hb)
  replace HB := Lib.hid (HB.out.trans (hb.mono HB.out.size))
  have HW := Lib.hid (hown.sl HWX.out)
  obtain ⟨ao7, cap7, rfl, _⟩ := hown.form'
  clear hown hb
  go_wp2_with fail
  go_at_call 7
  refine (to_any HBb.out.rd (by omega)).mono ?_
  rintro e w8 ⟨v, rfl, hown, hb⟩
  replace HA := Lib.hid (HA.out.below hb)
  replace HBb := Lib.hid (HBb.out.below hb)
  replace HCc := Lib.hid (HCc.out.below hb)
  replace HX := Lib.hid (HX.out.below hb)
  replace HW := Lib.hid (HW.out.below hb)
  replace HB := Lib.hid (HB.out.trans (hb.mono HB.out.size))
  have HB1 := Lib.hid (hown.sl HNB.out.wf)
  obtain ⟨ao8, cap8, rfl, _⟩ := hown.form'
  clear hown hb
  go_wp2_with fail
  go_at_call 7
  refine (to_any HA.out.rd (by omega)).mono ?_
  rintro e w9 ⟨v, rfl, hown, hb⟩
  replace HA := Lib.hid (HA.out.below hb)
  replace HBb := Lib.hid (HBb.out.below hb)
  replace HCc := Lib.hid (HCc.out.below hb)
  replace HX := Lib.hid (HX.out.below hb)
  replace HW := Lib.hid (HW.out.below hb)
  replace HB1 := Lib.hid (HB1.out.below hb)
  replace HB := Lib.hid (HB.out.trans (hb.mono HB.out.size))
  have HA1 := Lib.hid (hown.sl HNA.out.wf)
  obtain ⟨ao9, cap9, rfl, _⟩ := hown.form'
  clear hown hb
  go_wp2_with fail
  go_at_call 16
  refine (merge_any HB1.out HA1.out HNB.out.right.sorted HNA.out.right.sorted (by omega)).mono ?_
  rw [HBA.out.1]
  rw [HBA.out.2]
  rw [HAB.out.1]
  rintro e w10 ⟨v, rfl, hown, hb⟩
  replace HA := Lib.hid (HA.out.below hb)
  replace HBb := Lib.hid (HBb.out.below hb)
  replace HCc := Lib.hid (HCc.out.below hb)
  replace HX := Lib.hid (HX.out.below hb)
  replace HW := Lib.hid (HW.out.below hb)
  replace HB1 := Lib.hid (HB1.out.below hb)
  replace HA1 := Lib.hid (HA1.out.below hb)
  replace HB := Lib.hid (HB.out.trans (hb.mono HB.out.size))
  have HY := Lib.hid (hown.sl HWX.out)
  obtain ⟨ao10, cap10, rfl, _⟩ := hown.form'
  clear hown hb
  clear HA1
  clear HB1
  go_wp2_with fail
  go_at_call 7
  refine (to_any HA.out.rd (by omega)).mono ?_
  rintro e w11 ⟨v, rfl, hown, hb⟩
  replace HA := Lib.hid (HA.out.below hb)
  replace HBb := Lib.hid (HBb.out.below hb)
  replace HCc := Lib.hid (HCc.out.below hb)
  replace HX := Lib.hid (HX.out.below hb)
  replace HW := Lib.hid (HW.out.below hb)
  replace HY := Lib.hid (HY.out.below hb)
  replace HB := Lib.hid (HB.out.trans (hb.mono HB.out.size))
  have HA1 := Lib.hid (hown.sl HNA.out.wf)
  obtain ⟨ao11, cap11, rfl, _⟩ := hown.form'
  clear hown hb
  go_wp2_with fail
  go_at_call 7
  refine (to_any HA.out.rd (by omega)).mono ?_
  rintro e w12 ⟨v, rfl, hown, hb⟩
  replace HA := Lib.hid (HA.out.below hb)
  replace HBb := Lib.hid (HBb.out.below hb)
  replace HCc := Lib.hid (HCc.out.below hb)
  replace HX := Lib.hid (HX.out.below hb)
  replace HW := Lib.hid (HW.out.below hb)
  replace HY := Lib.hid (HY.out.below hb)
  replace HA1 := Lib.hid (HA1.out.below hb)
  replace HB := Lib.hid (HB.out.trans (hb.mono HB.out.size))
  have HA2 := Lib.hid (hown.sl HNA.out.wf)
  obtain ⟨ao12, cap12, rfl, _⟩ := hown.form'
  clear hown hb
  go_wp2_with fail
  go_at_call 18
  refine (minus_any HA2.out (by omega)).mono ?_
  rintro e w13 ⟨v, rfl, hown, hb⟩
  replace HA := Lib.hid (HA.out.below hb)
  replace HBb := Lib.hid (HBb.out.below hb)
  replace HCc := Lib.hid (HCc.out.below hb)
  replace HX := Lib.hid (HX.out.below hb)
  replace HW := Lib.hid (HW.out.below hb)
  replace HY := Lib.hid (HY.out.below hb)
  replace HA1 := Lib.hid (HA1.out.below hb)
  replace HA2 := Lib.hid (HA2.out.below hb)
  replace HB := Lib.hid (HB.out.trans (hb.mono HB.out.size))
  have HM := Lib.hid (hown.sl (minusL_wf HNA.out.wf))
  obtain ⟨ao13, cap13, rfl, _⟩ := hown.form'
  clear hown hb
  clear HA2
  go_wp2_with fail
  go_at_call 16
  refine (merge_any HA1.out HM.out HNA.out.right.sorted (minus_sorted HNA.out.right) (by rw [minus_length]; omega)).mono ?_
  rw [HBK.out.1]
  rw [HBK.out.2]
  rintro e w14 ⟨v, rfl, hown, hb⟩
  replace HA := Lib.hid (HA.out.below hb)
  replace HBb := Lib.hid (HBb.out.below hb)
  replace HCc := Lib.hid (HCc.out.below hb)
  replace HX := Lib.hid (HX.out.below hb)
  replace HW := Lib.hid (HW.out.below hb)
  replace HY := Lib.hid (HY.out.below hb)
  replace HA1 := Lib.hid (HA1.out.below hb)
  replace HM := Lib.hid (HM.out.below hb)
  replace HB := Lib.hid (HB.out.trans (hb.mono HB.out.size))
  have HZ := Lib.hid (hown.sl (by simp))
  obtain ⟨ao14, cap14, rfl, _⟩ := hown.form'
  clear hown hb
  clear HA1
  clear HM
  go_wp2_with fail
  go_at_call 10
  refine (told_any _).mono ?_
  rintro e w15 ⟨rfl, hb⟩
  replace HA := Lib.hid (HA.out.below hb)
  replace HBb := Lib.hid (HBb.out.below hb)
  replace HCc := Lib.hid (HCc.out.below hb)
  replace HX := Lib.hid (HX.out.below hb)
  replace HW := Lib.hid (HW.out.below hb)
  replace HY := Lib.hid (HY.out.below hb)
  replace HZ := Lib.hid (HZ.out.below hb)
  replace HB := Lib.hid (HB.out.trans (hb.mono HB.out.size))
  clear  hb
  go_wp2_with fail
  go_at_call 12
  refine (from_any HX.out.rd HLX.out).mono ?_
  rintro e w16 ⟨v, rfl, hown, hb⟩
  replace HA := Lib.hid (HA.out.below hb)
  replace HBb := Lib.hid (HBb.out.below hb)
  replace HCc := Lib.hid (HCc.out.below hb)
  replace HX := Lib.hid (HX.out.below hb)
  replace HW := Lib.hid (HW.out.below hb)
  replace HY := Lib.hid (HY.out.below hb)
  replace HZ := Lib.hid (HZ.out.below hb)
  replace HB := Lib.hid (HB.out.trans (hb.mono HB.out.size))
  have HF := Lib.hid (hown.sl HWX.out)
  obtain ⟨ao16, cap16, rfl, _⟩ := hown.form'
  clear hown hb
  go_wp2_with fail
  go_at_call 11
  refine (refsame_any HF.out.rd HW.out.rd).mono ?_
  rw [eqL_self]
  rintro e w17 ⟨rfl, hb⟩
  replace HA := Lib.hid (HA.out.below hb)
  replace HBb := Lib.hid (HBb.out.below hb)
  replace HCc := Lib.hid (HCc.out.below hb)
  replace HX := Lib.hid (HX.out.below hb)
  replace HW := Lib.hid (HW.out.below hb)
  replace HY := Lib.hid (HY.out.below hb)
  replace HZ := Lib.hid (HZ.out.below hb)
  replace HF := Lib.hid (HF.out.below hb)
  replace HB := Lib.hid (HB.out.trans (hb.mono HB.out.size))
  clear  hb
  clear HF
  clear HW
  go_wp2_with fail
  go_at_call 19
  refine (sameB_any HX.out HY.out).mono ?_
  rw [eqL_self]
  rintro e w18 ⟨rfl, hb⟩
  replace HA := Lib.hid (HA.out.below hb)
  replace HBb := Lib.hid (HBb.out.below hb)
  replace HCc := Lib.hid (HCc.out.below hb)
  replace HX := Lib.hid (HX.out.below hb)
  replace HY := Lib.hid (HY.out.below hb)
  replace HZ := Lib.hid (HZ.out.below hb)
  replace HB := Lib.hid (HB.out.trans (hb.mono HB.out.size))
  clear  hb
  clear HY
  go_wp2_with fail
  go_at_call 13
  refine (right_any HX.out).mono ?_
  rw [HRX.out]
  rintro e w19 ⟨rfl, hb⟩
  replace HA := Lib.hid (HA.out.below hb)
  replace HBb := Lib.hid (HBb.out.below hb)
  replace HCc := Lib.hid (HCc.out.below hb)
  replace HX := Lib.hid (HX.out.below hb)
  replace HZ := Lib.hid (HZ.out.below hb)
  replace HB := Lib.hid (HB.out.trans (hb.mono HB.out.size))
  clear  hb
  clear HZ
  go_wp2_with fail
  go_at_call 7
  refine (to_any HCc.out.rd (by omega)).mono ?_
  rintro e w20 ⟨v, rfl, hown, hb⟩
  replace HA := Lib.hid (HA.out.below hb)
  replace HBb := Lib.hid (HBb.out.below hb)
  replace HCc := Lib.hid (HCc.out.below hb)
  replace HX := Lib.hid (HX.out.below hb)
  replace HB := Lib.hid (HB.out.trans (hb.mono HB.out.size))
  have HC1 := Lib.hid (hown.sl HNC.out.wf)
  obtain ⟨ao20, cap20, rfl, _⟩ := hown.form'
  clear hown hb
  go_wp2_with fail
  go_at_call 16
  refine (merge_any HX.out HC1.out HRP.out.sorted HNC.out.right.sorted (by have := HLX2.out; omega)).mono ?_
  rintro e w21 ⟨v, rfl, hown, hb⟩
  replace HA := Lib.hid (HA.out.below hb)
  replace HBb := Lib.hid (HBb.out.below hb)
  replace HCc := Lib.hid (HCc.out.below hb)
  replace HX := Lib.hid (HX.out.below hb)
  replace HC1 := Lib.hid (HC1.out.below hb)
  replace HB := Lib.hid (HB.out.trans (hb.mono HB.out.size))
  have HP := Lib.hid (hown.sl (sumsR_wf (both_wf HWX.out HNC.out.wf)))
  obtain ⟨ao21, cap21, rfl, _⟩ := hown.form'
  clear hown hb
  clear HX
  clear HC1
  go_wp2_with fail
  go_at_call 7
  refine (to_any HBb.out.rd (by omega)).mono ?_
  rintro e w22 ⟨v, rfl, hown, hb⟩
  replace HA := Lib.hid (HA.out.below hb)
  replace HBb := Lib.hid (HBb.out.below hb)
  replace HCc := Lib.hid (HCc.out.below hb)
  replace HP := Lib.hid (HP.out.below hb)
  replace HB := Lib.hid (HB.out.trans (hb.mono HB.out.size))
  have HB1 := Lib.hid (hown.sl HNB.out.wf)
  obtain ⟨ao22, cap22, rfl, _⟩ := hown.form'
  clear hown hb
  go_wp2_with fail
  go_at_call 7
  refine (to_any HCc.out.rd (by omega)).mono ?_
  rintro e w23 ⟨v, rfl, hown, hb⟩
  replace HA := Lib.hid (HA.out.below hb)
  replace HBb := Lib.hid (HBb.out.below hb)
  replace HCc := Lib.hid (HCc.out.below hb)
  replace HP := Lib.hid (HP.out.below hb)
  replace HB1 := Lib.hid (HB1.out.below hb)
  replace HB := Lib.hid (HB.out.trans (hb.mono HB.out.size))
  have HC1 := Lib.hid (hown.sl HNC.out.wf)
  obtain ⟨ao23, cap23, rfl, _⟩ := hown.form'
  clear hown hb
  go_wp2_with fail
  go_at_call 16
  refine (merge_any HB1.out HC1.out HNB.out.right.sorted HNC.out.right.sorted (by omega)).mono ?_
  rintro e w24 ⟨v, rfl, hown, hb⟩
  replace HA := Lib.hid (HA.out.below hb)
  replace HBb := Lib.hid (HBb.out.below hb)
  replace HCc := Lib.hid (HCc.out.below hb)
  replace HP := Lib.hid (HP.out.below hb)
  replace HB1 := Lib.hid (HB1.out.below hb)
  replace HC1 := Lib.hid (HC1.out.below hb)
  replace HB := Lib.hid (HB.out.trans (hb.mono HB.out.size))
  have HQ := Lib.hid (hown.sl HWQ.out)
  obtain ⟨ao24, cap24, rfl, _⟩ := hown.form'
  clear hown hb
  clear HB1
  clear HC1
  clear HCc
  go_wp2_with fail
  go_at_call 7
  refine (to_any HA.out.rd (by omega)).mono ?_
  rintro e w25 ⟨v, rfl, hown, hb⟩
  replace HA := Lib.hid (HA.out.below hb)
  replace HBb := Lib.hid (HBb.out.below hb)
  replace HP := Lib.hid (HP.out.below hb)
  replace HQ := Lib.hid (HQ.out.below hb)
  replace HB := Lib.hid (HB.out.trans (hb.mono HB.out.size))
  have HA1 := Lib.hid (hown.sl HNA.out.wf)
  obtain ⟨ao25, cap25, rfl, _⟩ := hown.form'
  clear hown hb
  go_wp2_with fail
  go_at_call 16
  refine (merge_any HA1.out HQ.out HNA.out.right.sorted HRQ.out.sorted (by have := HLQ2.out; omega)).mono ?_
  rintro e w26 ⟨v, rfl, hown, hb⟩
  replace HA := Lib.hid (HA.out.below hb)
  replace HBb := Lib.hid (HBb.out.below hb)
  replace HP := Lib.hid (HP.out.below hb)
  replace HQ := Lib.hid (HQ.out.below hb)
  replace HA1 := Lib.hid (HA1.out.below hb)
  replace HB := Lib.hid (HB.out.trans (hb.mono HB.out.size))
  have HR := Lib.hid (hown.sl (sumsR_wf (both_wf HNA.out.wf HWQ.out)))
  obtain ⟨ao26, cap26, rfl, _⟩ := hown.form'
  clear hown hb
  clear HA1
  clear HQ
  go_wp2_with fail
  go_at_call 19
  refine (sameB_any HP.out HR.out).mono ?_
  rw [HAS.out]
  rw [eqL_self]
  rintro e w27 ⟨rfl, hb⟩
  replace HA := Lib.hid (HA.out.below hb)
  replace HBb := Lib.hid (HBb.out.below hb)
  replace HP := Lib.hid (HP.out.below hb)
  replace HR := Lib.hid (HR.out.below hb)
  replace HB := Lib.hid (HB.out.trans (hb.mono HB.out.size))
  clear  hb
  clear HP
  clear HR
  go_wp2_with fail
  go_at_call 7
  refine (to_any HA.out.rd (by omega)).mono ?_
  rintro e w28 ⟨v, rfl, hown, hb⟩
  replace HA := Lib.hid (HA.out.below hb)
  replace HBb := Lib.hid (HBb.out.below hb)
  replace HB := Lib.hid (HB.out.trans (hb.mono HB.out.size))
  have HA1 := Lib.hid (hown.sl HNA.out.wf)
  obtain ⟨ao28, cap28, rfl, _⟩ := hown.form'
  clear hown hb
  go_wp2_with fail
  go_at_call 18
  refine (minus_any HA1.out (by omega)).mono ?_
  rintro e w29 ⟨v, rfl, hown, hb⟩
  replace HA := Lib.hid (HA.out.below hb)
  replace HBb := Lib.hid (HBb.out.below hb)
  replace HA1 := Lib.hid (HA1.out.below hb)
  replace HB := Lib.hid (HB.out.trans (hb.mono HB.out.size))
  have HM := Lib.hid (hown.sl (minusL_wf HNA.out.wf))
  obtain ⟨ao29, cap29, rfl, _⟩ := hown.form'
  clear hown hb
  clear HA1
  go_wp2_with fail
  go_at_call 12
  refine (from_any HM.out.rd (by rw [minus_length]; omega)).mono ?_
  rintro e w30 ⟨v, rfl, hown, hb⟩
  replace HA := Lib.hid (HA.out.below hb)
  replace HBb := Lib.hid (HBb.out.below hb)
  replace HM := Lib.hid (HM.out.below hb)
  replace HB := Lib.hid (HB.out.trans (hb.mono HB.out.size))
  have HF := Lib.hid (hown.sl (minusL_wf HNA.out.wf))
  obtain ⟨ao30, cap30, rfl, _⟩ := hown.form'
  clear hown hb
  clear HM
  go_wp2_with fail
  go_at_call 20
  refine (refminus_any HA.out.rd (by omega)).mono ?_
  rintro e w31 ⟨v, rfl, hown, hb⟩
  replace HA := Lib.hid (HA.out.below hb)
  replace HBb := Lib.hid (HBb.out.below hb)
  replace HF := Lib.hid (HF.out.below hb)
  replace HB := Lib.hid (HB.out.trans (hb.mono HB.out.size))
  have HM := Lib.hid (hown.sl (minusL_wf HNA.out.wf))
  obtain ⟨ao31, cap31, rfl, _⟩ := hown.form'
  clear hown hb
  go_wp2_with fail
  go_at_call 11
  refine (refsame_any HF.out.rd HM.out.rd).mono ?_
  rw [eqL_self]
  rintro e w32 ⟨rfl, hb⟩
  replace HA := Lib.hid (HA.out.below hb)
  replace HBb := Lib.hid (HBb.out.below hb)
  replace HF := Lib.hid (HF.out.below hb)
  replace HM := Lib.hid (HM.out.below hb)
  replace HB := Lib.hid (HB.out.trans (hb.mono HB.out.size))
  clear  hb
  clear HF
  clear HM
  go_wp2_with fail
  go_at_call 7
  refine (to_any HA.out.rd (by omega)).mono ?_
  rintro e w33 ⟨v, rfl, hown, hb⟩
  replace HA := Lib.hid (HA.out.below hb)
  replace HBb := Lib.hid (HBb.out.below hb)
  replace HB := Lib.hid (HB.out.trans (hb.mono HB.out.size))
  have HA1 := Lib.hid (hown.sl HNA.out.wf)
  obtain ⟨ao33, cap33, rfl, _⟩ := hown.form'
  clear hown hb
  go_wp2_with fail
  go_at_call 7
  refine (to_any HBb.out.rd (by omega)).mono ?_
  rintro e w34 ⟨v, rfl, hown, hb⟩
  replace HA := Lib.hid (HA.out.below hb)
  replace HBb := Lib.hid (HBb.out.below hb)
  replace HA1 := Lib.hid (HA1.out.below hb)
  replace HB := Lib.hid (HB.out.trans (hb.mono HB.out.size))
  have HB1 := Lib.hid (hown.sl HNB.out.wf)
  obtain ⟨ao34, cap34, rfl, _⟩ := hown.form'
  clear hown hb
  go_wp2_with fail
  go_at_call 19
  refine (sameB_any HA1.out HB1.out).mono ?_
  rintro e w35 ⟨rfl, hb⟩
  replace HA := Lib.hid (HA.out.below hb)
  replace HBb := Lib.hid (HBb.out.below hb)
  replace HA1 := Lib.hid (HA1.out.below hb)
  replace HB1 := Lib.hid (HB1.out.below hb)
  replace HB := Lib.hid (HB.out.trans (hb.mono HB.out.size))
  clear  hb
  clear HA1
  clear HB1
  go_wp2_with fail
  go_at_call 11
  refine (refsame_any HA.out.rd HBb.out.rd).mono ?_
  rintro e w36 ⟨rfl, hb⟩
  replace HA := Lib.hid (HA.out.below hb)
  replace HBb := Lib.hid (HBb.out.below hb)
  replace HB := Lib.hid (HB.out.trans (hb.mono HB.out.size))
  clear  hb
  clear HA
  clear HBb
  go_wp2_with fail
  go_ret
  exact ⟨rfl, HB.out⟩
end Go.Proofs.Ytcjbmeebenaonaa.Batch
