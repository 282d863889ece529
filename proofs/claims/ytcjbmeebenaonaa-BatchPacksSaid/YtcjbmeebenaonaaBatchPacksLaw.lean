/-
  THE LAW BatchPacks, walked.
-/
import Derived.Test.YtcjbmeebenaonaaBatchLawMath
import Derived.Test.YtcjbmeebenaonaaBatchTold
namespace Go.Proofs.Ytcjbmeebenaonaa.Batch
open Go.RowKit
set_option linter.unusedVariables false

theorem Rd.take {w : World} {ao : Option Addr} {cap : Nat} {l : List Ch} (h : Rd w (.slice ao l.length cap) l) (k : Nat) (hk : k ≤ l.length) : Rd w (.slice ao k cap) (l.take k) := by
  obtain ⟨ao', cap', hv, h1, h2, h3, h4⟩ := h
  simp only [Value.slice.injEq] at hv
  obtain ⟨rfl, _, rfl⟩ := hv
  have hl : (l.take k).length = k := by rw [List.length_take]; omega
  refine ⟨ao, cap, by rw [hl], by omega, h2, fun x hx => h3 x (List.mem_of_mem_take hx), ?_⟩
  rcases h4 with rfl | ⟨b, off, ha, h4⟩
  · exact .inl (by simp)
  · refine .inr ⟨b, off, ha, fun i x hx => h4 i x ?_⟩
    have hi := (List.getElem?_eq_some_iff.1 hx).1
    rw [List.getElem?_take_of_lt (by omega)] at hx
    exact hx

set_option maxRecDepth 1000000 in
set_option maxHeartbeats 8000000 in
theorem packs_any {w : World} {v : Value} {l : List Ch} (hv : Rd w v l) :
    Calls Try.prog 3 #[v] w fun e w' => e = .returned (.bool true) ∧ Below w.heap.size w w' := by
  have hv0 := hv
  obtain ⟨ao, cap, rfl, hlc, hcm, _⟩ := hv0
  have HT := Lib.hid (hv.take (min l.length 30) (Nat.min_le_left _ _))
  have hlen : l.length ≤ 9223372036854775807 := by omega
  have hlen2 : (l.take (min l.length 30)).length = min l.length 30 := by rw [List.length_take]; omega
  have hLl : (l.take (min l.length 30)).length ≤ 30 := by omega
  have hmin : min (l.length : Int) 30 = ((min l.length 30 : Nat) : Int) := by omega
  have hcn : min l.length 30 ≤ cap := by omega
  have HN := Lib.hid hlen2
  generalize l.take (min l.length 30) = L at HT hLl HN
  generalize min l.length 30 = n at HT hmin hcn HN
  have hn : n = L.length := HN.out.symm
  subst hn
  have hcc : (L.length : Int) ≤ (cap : Int) := by omega
  have h0 : (0 : Int) ≤ (L.length : Int) := by omega
  clear hv hlen2 hlc
  have HWF := Lib.hid HT.out.wf
  have HPR := Lib.hid (fun h : packE L = 0 => pack_right HT.out.wf h)
  cases ao
  all_goals
    go_enter Try.func3, Try.ntmps3
    go_wp2_with fail
    go_at_call 7
    refine (to_any HT.out (by omega)).mono ?_
    rintro e w1 ⟨v1, rfl, hown, hb⟩
    have HL1 := Lib.hid (HT.out.below hb)
    have HO1 := Lib.hid (hown.sl HWF.out)
    have HB1 := Lib.hid hb
    obtain ⟨ao1, cap1, rfl, _⟩ := hown.form'
    clear hown hb
    go_wp2_with fail
    go_at_call 8
    refine (pack_any HO1.out).mono ?_
    rintro e w2 ⟨v2, rfl, hown, hb⟩
    have HL2 := Lib.hid (HL1.out.below hb)
    have HO2 := Lib.hid (HO1.out.below hb)
    have HB2 := Lib.hid (HB1.out.trans (hb.mono HB1.out.size))
    have HRw := Lib.hid (show ∀ x ∈ packR L, x.Wf by
      unfold packR
      split
      · simp
      · exact sumsR_wf HWF.out)
    have HP2 := Lib.hid (hown.sl HRw.out)
    obtain ⟨ao2, cap2, rfl, _⟩ := hown.form'
    clear hown hb
    go_wp2_with fail
    go_at_call 9
    refine (refpack_any HL2.out).mono ?_
    rintro e w3 ⟨v3, rfl, hown, hb⟩
    have HL3 := Lib.hid (HL2.out.below hb)
    have HO3 := Lib.hid (HO2.out.below hb)
    have HP3 := Lib.hid (HP2.out.below hb)
    have HB3 := Lib.hid (HB2.out.trans (hb.mono HB2.out.size))
    have HQ3 := Lib.hid (hown.sl HRw.out)
    obtain ⟨ao3, cap3, rfl, _⟩ := hown.form'
    clear hown hb
    go_wp2_with fail
    go_at_call 10
    refine (told_any _).mono ?_
    rintro e w4 ⟨rfl, hb⟩
    have HL4 := Lib.hid (HL3.out.below hb)
    have HO4 := Lib.hid (HO3.out.below hb)
    have HP4 := Lib.hid (HP3.out.below hb)
    have HQ4 := Lib.hid (HQ3.out.below hb)
    have HB4 := Lib.hid (HB3.out.trans (hb.mono HB3.out.size))
    clear hb
    have HRl := Lib.hid (show (packR L).length ≤ 100000 by
      unfold packR
      split
      · simp
      · have := sumsR_length L; omega)
    go_wp2_with fail
    go_at_call 12
    refine (from_any HP4.out.rd HRl.out).mono ?_
    rintro e w5 ⟨v5, rfl, hown, hb⟩
    have HL5 := Lib.hid (HL4.out.below hb)
    have HO5 := Lib.hid (HO4.out.below hb)
    have HP5 := Lib.hid (HP4.out.below hb)
    have HQ5 := Lib.hid (HQ4.out.below hb)
    have HB5 := Lib.hid (HB4.out.trans (hb.mono HB4.out.size))
    have HF5 := Lib.hid (hown.rd HRw.out)
    obtain ⟨ao5, cap5, rfl, _⟩ := hown.form'
    clear hown hb
    go_wp2_with fail
    go_at_call 11
    refine (refsame_any HF5.out HQ5.out.rd).mono ?_
    rw [eqL_self]
    rintro e w6 ⟨rfl, hb⟩
    have HL6 := Lib.hid (HL5.out.below hb)
    have HO6 := Lib.hid (HO5.out.below hb)
    have HP6 := Lib.hid (HP5.out.below hb)
    have HB6 := Lib.hid (HB5.out.trans (hb.mono HB5.out.size))
    clear hb
    by_cases hE : packE L = 0
    · have HPR2 := Lib.hid (rightB_true (HPR.out hE))
      have hne : (packE L != 0) = false := by rw [hE]; rfl
      clear hE
      go_wp2_with fail
      go_at_call 13
      refine (right_any HP6.out).mono ?_
      rw [HPR2.out]
      rintro e w7 ⟨rfl, hb⟩
      have HL7 := Lib.hid (HL6.out.below hb)
      have HO7 := Lib.hid (HO6.out.below hb)
      have HB7 := Lib.hid (HB6.out.trans (hb.mono HB6.out.size))
      clear hb
      go_wp2_with fail
      go_at_call 13
      refine (right_any HO7.out).mono ?_
      rintro e w8 ⟨rfl, hb⟩
      have HL8 := Lib.hid (HL7.out.below hb)
      have HO8 := Lib.hid (HO7.out.below hb)
      have HB8 := Lib.hid (HB7.out.trans (hb.mono HB7.out.size))
      clear hb
      go_wp2_with fail
      go_at_call 14
      refine (refright_any HL8.out).mono ?_
      rintro e w9 ⟨rfl, hb⟩
      have HL9 := Lib.hid (HL8.out.below hb)
      have HO9 := Lib.hid (HO8.out.below hb)
      have HB9 := Lib.hid (HB8.out.trans (hb.mono HB8.out.size))
      clear hb
      go_wp2_with fail
      go_at_call 12
      refine (from_any HO9.out.rd (by omega)).mono ?_
      rintro e w10 ⟨v10, rfl, hown, hb⟩
      have HL10 := Lib.hid (HL9.out.below hb)
      have HB10 := Lib.hid (HB9.out.trans (hb.mono HB9.out.size))
      have HF10 := Lib.hid (hown.rd HWF.out)
      obtain ⟨ao10, cap10, rfl, _⟩ := hown.form'
      clear hown hb
      go_wp2_with fail
      go_at_call 11
      refine (refsame_any HF10.out HL10.out).mono ?_
      rw [eqL_self]
      rintro e w11 ⟨rfl, hb⟩
      have HB11 := Lib.hid (HB10.out.trans (hb.mono HB10.out.size))
      clear hb
      go_wp2_with fail
      go_ret
      exact ⟨rfl, HB11.out⟩
    · have hne : (packE L != 0) = true := by rw [bne_iff_ne]; exact hE
      clear hE
      go_wp2_with fail
      go_at_call 13
      refine (right_any HO6.out).mono ?_
      rintro e w8 ⟨rfl, hb⟩
      have HL8 := Lib.hid (HL6.out.below hb)
      have HO8 := Lib.hid (HO6.out.below hb)
      have HB8 := Lib.hid (HB6.out.trans (hb.mono HB6.out.size))
      clear hb
      go_wp2_with fail
      go_at_call 14
      refine (refright_any HL8.out).mono ?_
      rintro e w9 ⟨rfl, hb⟩
      have HL9 := Lib.hid (HL8.out.below hb)
      have HO9 := Lib.hid (HO8.out.below hb)
      have HB9 := Lib.hid (HB8.out.trans (hb.mono HB8.out.size))
      clear hb
      go_wp2_with fail
      go_at_call 12
      refine (from_any HO9.out.rd (by omega)).mono ?_
      rintro e w10 ⟨v10, rfl, hown, hb⟩
      have HL10 := Lib.hid (HL9.out.below hb)
      have HB10 := Lib.hid (HB9.out.trans (hb.mono HB9.out.size))
      have HF10 := Lib.hid (hown.rd HWF.out)
      obtain ⟨ao10, cap10, rfl, _⟩ := hown.form'
      clear hown hb
      go_wp2_with fail
      go_at_call 11
      refine (refsame_any HF10.out HL10.out).mono ?_
      rw [eqL_self]
      rintro e w11 ⟨rfl, hb⟩
      have HB11 := Lib.hid (HB10.out.trans (hb.mono HB10.out.size))
      clear hb
      go_wp2_with fail
      go_ret
      exact ⟨rfl, HB11.out⟩
end Go.Proofs.Ytcjbmeebenaonaa.Batch
