
/-
  THE LAW BagApplies, walked.
-/
import Derived.Test.YtkcmeklgnbejiaaBagTold
import Derived.Test.YtkcmeklgnbejiaaBagFix
import Derived.Test.YtkcmeklgnbejiaaBagRef2
namespace Go.Proofs.Ytkcmeklgnbejiaa.Batch
open Go.RowKit
set_option linter.unusedVariables false

set_option maxRecDepth 1000000 in
set_option maxHeartbeats 16000000 in
theorem applies_any {w : World} {v1 v2 : Value} {l1 l2 : List Ch} (port : Int) (h1 : Rd w v1 l1) (h2 : Rd w v2 l2) :
    Calls Try.prog 3 #[v1, v2, .int .i64 port] w fun e w' => e = .returned (.bool true) ∧ Below w.heap.size w w' := by
  have HFA := Lib.hid (fun W (h : Rd W v1 l1) => bagfix_any h)
  have HFB := Lib.hid (fun W (h : Rd W v2 l2) => fix_any h)
  have HNA := Lib.hid (bagFix_nice h1.wf)
  have HP := Lib.hid (bagFix_bag h1.wf)
  have HNB := Lib.hid (fix_nice h2.wf)
  have HA0 := Lib.hid h1
  have HB0 := Lib.hid h2
  obtain ⟨ao1, cap1, rfl, _⟩ := h1
  obtain ⟨ao2, cap2, rfl, _⟩ := h2
  generalize bagFixL l1 = A at HFA HNA HP
  generalize fixL l2 = B at HFB HNB
  have hlA : A.length ≤ 12 := HNA.out.len
  have hlB : B.length ≤ 12 := HNB.out.len
  obtain ⟨er, re, HER⟩ : ∃ (er : Int) (re : List Ch), Hid (er = applyE A B ∧ re = applyR A B) := ⟨_, _, Lib.hid ⟨rfl, rfl⟩⟩
  have HWR := Lib.hid (show ∀ x ∈ re, x.Wf by rw [HER.out.2]; exact applyR_wf HNA.out.wf HNB.out.wf)
  have HRB := Lib.hid (show er = 0 → BagP re by rw [HER.out.1, HER.out.2]; exact applyR_bag HP.out HNB.out.right HNA.out.wf HNB.out.wf)
  have HLR := Lib.hid (show re.length ≤ 100000 by rw [HER.out.2]; have := applyR_length A B; omega)
  obtain ⟨ll, HLL⟩ : ∃ ll : Int, Hid (ll = leastL A port) := ⟨_, Lib.hid rfl⟩
  have HPA := Lib.hid (posB_true HP.out.pos)
  obtain ⟨pb, HPB⟩ : ∃ pb : Bool, Hid (pb = posB B) := ⟨_, Lib.hid rfl⟩
  have HB := Lib.hid (Below.refl w.heap.size w)
  go_enter Try.func3, Try.ntmps3
  go_wp2_with fail
  go_at_call 10
  refine (HFA.out _ HA0.out).mono ?_
  rintro e w1 ⟨v, rfl, hown, hb⟩
  replace HA0 := Lib.hid (HA0.out.below hb)
  replace HB0 := Lib.hid (HB0.out.below hb)
  replace HB := Lib.hid (HB.out.trans (hb.mono HB.out.size))
  have HA := Lib.hid (hown.sl HNA.out.wf)
  obtain ⟨ao1, cap1, rfl, _⟩ := hown.form'
  clear hown hb
  clear HA0
  go_wp2_with fail
  go_at_call 11
  refine (HFB.out _ HB0.out).mono ?_
  rintro e w2 ⟨v, rfl, hown, hb⟩
  replace HB0 := Lib.hid (HB0.out.below hb)
  replace HA := Lib.hid (HA.out.below hb)
  replace HB := Lib.hid (HB.out.trans (hb.mono HB.out.size))
  have HBb := Lib.hid (hown.sl HNB.out.wf)
  obtain ⟨ao2, cap2, rfl, _⟩ := hown.form'
  clear hown hb
  clear HB0
  go_wp2_with fail
  go_at_call 12
  refine (to_any HA.out.rd (by omega)).mono ?_
  rintro e w3 ⟨v, rfl, hown, hb⟩
  replace HA := Lib.hid (HA.out.below hb)
  replace HBb := Lib.hid (HBb.out.below hb)
  replace HB := Lib.hid (HB.out.trans (hb.mono HB.out.size))
  have HX := Lib.hid (hown.sl HNA.out.wf)
  obtain ⟨ao3, cap3, rfl, _⟩ := hown.form'
  clear hown hb
  go_wp2_with fail
  go_at_call 12
  refine (to_any HBb.out.rd (by omega)).mono ?_
  rintro e w4 ⟨v, rfl, hown, hb⟩
  replace HA := Lib.hid (HA.out.below hb)
  replace HBb := Lib.hid (HBb.out.below hb)
  replace HX := Lib.hid (HX.out.below hb)
  replace HB := Lib.hid (HB.out.trans (hb.mono HB.out.size))
  have HY := Lib.hid (hown.sl HNB.out.wf)
  obtain ⟨ao4, cap4, rfl, _⟩ := hown.form'
  clear hown hb
  go_wp2_with fail
  go_at_call 13
  refine (apply_any HX.out HY.out HNA.out.right HNB.out.right (by omega)).mono ?_
  rw [← HER.out.1]
  rw [← HER.out.2]
  rintro e w5 ⟨v, rfl, hown, hb⟩
  replace HA := Lib.hid (HA.out.below hb)
  replace HBb := Lib.hid (HBb.out.below hb)
  replace HX := Lib.hid (HX.out.below hb)
  replace HY := Lib.hid (HY.out.below hb)
  replace HB := Lib.hid (HB.out.trans (hb.mono HB.out.size))
  have HZ := Lib.hid (hown.sl HWR.out)
  obtain ⟨ao5, cap5, rfl, _⟩ := hown.form'
  clear hown hb
  go_wp2_with fail
  go_at_call 14
  refine (refapply_any HA.out HBb.out HP.out HNB.out.right (by omega)).mono ?_
  rw [← HER.out.1]
  rw [← HER.out.2]
  rintro e w6 ⟨v, rfl, hown, hb⟩
  replace HA := Lib.hid (HA.out.below hb)
  replace HBb := Lib.hid (HBb.out.below hb)
  replace HX := Lib.hid (HX.out.below hb)
  replace HY := Lib.hid (HY.out.below hb)
  replace HZ := Lib.hid (HZ.out.below hb)
  replace HB := Lib.hid (HB.out.trans (hb.mono HB.out.size))
  have HW := Lib.hid (hown.sl HWR.out)
  obtain ⟨ao6, cap6, rfl, _⟩ := hown.form'
  clear hown hb
  go_wp2_with fail
  go_at_call 15
  refine (bagtold_any _).mono ?_
  rintro e w7 ⟨rfl, hb⟩
  replace HA := Lib.hid (HA.out.below hb)
  replace HBb := Lib.hid (HBb.out.below hb)
  replace HX := Lib.hid (HX.out.below hb)
  replace HY := Lib.hid (HY.out.below hb)
  replace HZ := Lib.hid (HZ.out.below hb)
  replace HW := Lib.hid (HW.out.below hb)
  replace HB := Lib.hid (HB.out.trans (hb.mono HB.out.size))
  clear  hb
  go_wp2_with fail
  go_at_call 17
  refine (from_any HZ.out.rd HLR.out).mono ?_
  rintro e w8 ⟨v, rfl, hown, hb⟩
  replace HA := Lib.hid (HA.out.below hb)
  replace HBb := Lib.hid (HBb.out.below hb)
  replace HX := Lib.hid (HX.out.below hb)
  replace HY := Lib.hid (HY.out.below hb)
  replace HZ := Lib.hid (HZ.out.below hb)
  replace HW := Lib.hid (HW.out.below hb)
  replace HB := Lib.hid (HB.out.trans (hb.mono HB.out.size))
  have HF := Lib.hid (hown.sl HWR.out)
  obtain ⟨ao8, cap8, rfl, _⟩ := hown.form'
  clear hown hb
  go_wp2_with fail
  go_at_call 16
  refine (refsame_any HF.out.rd HW.out.rd).mono ?_
  rw [eqL_self]
  rintro e w9 ⟨rfl, hb⟩
  replace HA := Lib.hid (HA.out.below hb)
  replace HBb := Lib.hid (HBb.out.below hb)
  replace HX := Lib.hid (HX.out.below hb)
  replace HY := Lib.hid (HY.out.below hb)
  replace HZ := Lib.hid (HZ.out.below hb)
  replace HW := Lib.hid (HW.out.below hb)
  replace HF := Lib.hid (HF.out.below hb)
  replace HB := Lib.hid (HB.out.trans (hb.mono HB.out.size))
  clear  hb
  clear HF
  clear HW
  go_wp2_with fail
  go_at_call 18
  refine (least_any port HX.out HNA.out.right.2 (by omega)).mono ?_
  rw [← HLL.out]
  rintro e w10 ⟨rfl, hb⟩
  replace HA := Lib.hid (HA.out.below hb)
  replace HBb := Lib.hid (HBb.out.below hb)
  replace HX := Lib.hid (HX.out.below hb)
  replace HY := Lib.hid (HY.out.below hb)
  replace HZ := Lib.hid (HZ.out.below hb)
  replace HB := Lib.hid (HB.out.trans (hb.mono HB.out.size))
  clear  hb
  go_wp2_with fail
  go_at_call 19
  refine (refleast_any port HA.out.rd).mono ?_
  rw [← HLL.out]
  rintro e w11 ⟨rfl, hb⟩
  replace HA := Lib.hid (HA.out.below hb)
  replace HBb := Lib.hid (HBb.out.below hb)
  replace HX := Lib.hid (HX.out.below hb)
  replace HY := Lib.hid (HY.out.below hb)
  replace HZ := Lib.hid (HZ.out.below hb)
  replace HB := Lib.hid (HB.out.trans (hb.mono HB.out.size))
  clear  hb
  go_wp2_with fail
  go_at_call 20
  refine (sum_any HX.out).mono ?_
  rintro e w12 ⟨rfl, rfl⟩
  go_wp2_with fail
  go_at_call 21
  refine (bagright_any HX.out HNA.out.right).mono ?_
  rw [HPA.out]
  rintro e w13 ⟨rfl, hb⟩
  replace HA := Lib.hid (HA.out.below hb)
  replace HBb := Lib.hid (HBb.out.below hb)
  replace HX := Lib.hid (HX.out.below hb)
  replace HY := Lib.hid (HY.out.below hb)
  replace HZ := Lib.hid (HZ.out.below hb)
  replace HB := Lib.hid (HB.out.trans (hb.mono HB.out.size))
  clear  hb
  go_wp2_with fail
  go_at_call 21
  refine (bagright_any HY.out HNB.out.right).mono ?_
  rw [← HPB.out]
  rintro e w14 ⟨rfl, hb⟩
  replace HA := Lib.hid (HA.out.below hb)
  replace HBb := Lib.hid (HBb.out.below hb)
  replace HX := Lib.hid (HX.out.below hb)
  replace HY := Lib.hid (HY.out.below hb)
  replace HZ := Lib.hid (HZ.out.below hb)
  replace HB := Lib.hid (HB.out.trans (hb.mono HB.out.size))
  clear  hb
  go_wp2_with fail
  go_at_call 22
  refine (refbagright_any HBb.out.rd HNB.out.right).mono ?_
  rw [← HPB.out]
  rintro e w15 ⟨rfl, hb⟩
  replace HA := Lib.hid (HA.out.below hb)
  replace HBb := Lib.hid (HBb.out.below hb)
  replace HX := Lib.hid (HX.out.below hb)
  replace HY := Lib.hid (HY.out.below hb)
  replace HZ := Lib.hid (HZ.out.below hb)
  replace HB := Lib.hid (HB.out.trans (hb.mono HB.out.size))
  clear  hb
  go_wp2_with fail
  go_at_call 17
  refine (from_any HX.out.rd (by omega)).mono ?_
  rintro e w16 ⟨v, rfl, hown, hb⟩
  replace HA := Lib.hid (HA.out.below hb)
  replace HBb := Lib.hid (HBb.out.below hb)
  replace HX := Lib.hid (HX.out.below hb)
  replace HY := Lib.hid (HY.out.below hb)
  replace HZ := Lib.hid (HZ.out.below hb)
  replace HB := Lib.hid (HB.out.trans (hb.mono HB.out.size))
  have HF := Lib.hid (hown.sl HNA.out.wf)
  obtain ⟨ao16, cap16, rfl, _⟩ := hown.form'
  clear hown hb
  go_wp2_with fail
  go_at_call 16
  refine (refsame_any HF.out.rd HA.out.rd).mono ?_
  rw [eqL_self]
  rintro e w17 ⟨rfl, hb⟩
  replace HA := Lib.hid (HA.out.below hb)
  replace HBb := Lib.hid (HBb.out.below hb)
  replace HX := Lib.hid (HX.out.below hb)
  replace HY := Lib.hid (HY.out.below hb)
  replace HZ := Lib.hid (HZ.out.below hb)
  replace HF := Lib.hid (HF.out.below hb)
  replace HB := Lib.hid (HB.out.trans (hb.mono HB.out.size))
  clear  hb
  clear HF
  clear HX
  clear HA
  go_wp2_with fail
  go_at_call 17
  refine (from_any HY.out.rd (by omega)).mono ?_
  rintro e w18 ⟨v, rfl, hown, hb⟩
  replace HBb := Lib.hid (HBb.out.below hb)
  replace HY := Lib.hid (HY.out.below hb)
  replace HZ := Lib.hid (HZ.out.below hb)
  replace HB := Lib.hid (HB.out.trans (hb.mono HB.out.size))
  have HF := Lib.hid (hown.sl HNB.out.wf)
  obtain ⟨ao18, cap18, rfl, _⟩ := hown.form'
  clear hown hb
  go_wp2_with fail
  go_at_call 16
  refine (refsame_any HF.out.rd HBb.out.rd).mono ?_
  rw [eqL_self]
  rintro e w19 ⟨rfl, hb⟩
  replace HBb := Lib.hid (HBb.out.below hb)
  replace HY := Lib.hid (HY.out.below hb)
  replace HZ := Lib.hid (HZ.out.below hb)
  replace HF := Lib.hid (HF.out.below hb)
  replace HB := Lib.hid (HB.out.trans (hb.mono HB.out.size))
  clear  hb
  clear HF
  clear HY
  clear HBb
  by_cases hE : er = 0
  · have hne : (er != 0) = false := by rw [hE]; rfl
    have HBR := Lib.hid (HRB.out hE)
    clear hE
    go_wp2_with fail
    go_at_call 21
    refine (bagright_any HZ.out HBR.out.right).mono ?_
    rw [posB_true HBR.out.pos]
    rintro e wl ⟨rfl, hb⟩
    replace HB := Lib.hid (HB.out.trans (hb.mono HB.out.size))
    clear hb
    go_wp2_with fail
    go_ret
    exact ⟨rfl, HB.out⟩
  · have hne : (er != 0) = true := by rw [bne_iff_ne]; exact hE
    clear hE
    go_wp2_with fail
    go_ret
    exact ⟨rfl, HB.out⟩
end Go.Proofs.Ytkcmeklgnbejiaa.Batch
