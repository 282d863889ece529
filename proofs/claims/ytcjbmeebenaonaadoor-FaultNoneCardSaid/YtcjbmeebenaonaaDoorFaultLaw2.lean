/-
  THE WALK OF THE LAW FaultNone: nothing is wrong with nil, at whatever places; a plain error is none of the kinds.
-/
import Derived.Test.YtcjbmeebenaonaaDoorFaultLaw
namespace Go.Proofs.YtcjbmeebenaonaaDoor.Fault
open Go.RowKit
set_option linter.unusedVariables false

theorem cut50_facts (s : ByteArray) (hs : s.size ≤ 9223372036854775807) : ∃ (m : Int) (s' : ByteArray), (∀ (ts : Array TypeId) (t : TypeId) (w : World), (Builtin.min_ ts t #[.int .i64 s.size, .int .i64 50]).run Tryd.prog w = .ok (.int .i64 m) w) ∧
    ∀ w, (Instr.slice 9 (.string s) none (some (.int .i64 m)) none).run Tryd.prog w = .ok (.string s') w := by
  refine ⟨if (50 : Int) < s.size then 50 else s.size, s.extract 0 (if (50 : Int) < s.size then (50 : Int) else s.size).toNat, fun ts t w => run_min_int2 w ts t .i64 .i64 _ _, fun w => ?_⟩
  exact run_slice_string_h (t := 9) (P := Tryd.prog) (s := s) (w := w) Tryd.underlying9 .i64 _ (by split <;> omega) (by split <;> omega)
theorem new_any (s : ByteArray) (w : World) : Calls Tryd.prog 28 #[.string s] w fun e w' => e = .returned (plainV ⟨w.heap.size, 0, none⟩) ∧ w' = w.alloc (.cells #[.string s] 87) := by
  go_enter Tryd.func28, Tryd.ntmps28
  go_wp2
  go_ret
  exact ⟨rfl, rfl⟩
theorem noneText : ((⟨(textL [({ data := #[120] }, 1)] 14).toArray⟩ : ByteArray).toList == [120, 32, 49, 58, 32, 110, 111, 110, 101]) = true := by
  rw [Lib.toList_data]
  simp [textL, placesL, placeL, Lib.itoa, Lib.decDigits, wordS, wordL]
theorem none_text : ∃ S : ByteArray, (S.toList == [120, 32, 49, 58, 32, 110, 111, 110, 101]) = true ∧ ∀ (w : World) (E : Value) (a : Addr), LV w → Chain w E [({ data := #[120] }, 1)] (plainV a) →
    Calls Tryd.prog 22 #[E] w fun e w' => e = .returned (.string S) ∧ Below w.heap.size w w' :=
  ⟨_, noneText, fun w E a hL hch => text_plain a hL hch (by decide) (by
    intro x hx
    simp at hx
    subst hx
    exact ⟨by decide, by decide, by decide⟩)⟩

set_option maxRecDepth 1000000 in
set_option maxHeartbeats 8000000 in
theorem faultNone_any {w : World} {v : Value} {l : List Pl} (s : ByteArray) (hL : LV w) (hv : Reads w v l) (hs : s.size ≤ 9223372036854775807) :
    Calls Tryd.prog 7 #[v, .string s] w fun e w' => e = .returned (.bool true) ∧ Below w.heap.size w w' := by
  obtain ⟨m, s', hmin, hsl⟩ := cut50_facts s hs
  obtain ⟨S, hS, hST⟩ := none_text
  have HST := Lib.hid hST
  have HFE := Lib.hid (few_any hv)
  have HSM := Lib.hid (few_small l (by obtain ⟨_, _, _, _, h, _⟩ := hv; exact h))
  have HLE := Lib.hid (show (fewL l).length ≤ 12 by rw [fewL_length]; omega)
  have HL := Lib.hid hL
  clear hv hL hST
  go_enter Tryd.func7, Tryd.ntmps7
  go_wp2_with fail
  go_at_call 17
  refine HFE.out.mono ?_
  rintro e w1 ⟨v1, rfl, hown, hw1⟩
  obtain ⟨ao, cap, rfl⟩ : ∃ ao cap, v1 = .slice ao (fewL l).length cap := by
    rcases hown.2 with ⟨hv, h0⟩ | ⟨g, cap, cur, hv, _⟩
    · exact ⟨none, 0, by rw [hv, h0]⟩
    · exact ⟨_, _, hv⟩
  have HR1 := Lib.hid (reads_own hown (by have := HLE.out; omega) HSM.out)
  have HL1 := Lib.hid (HL.out.below hw1)
  have HW1 := Lib.hid hw1
  clear hown hw1 HFE
  have hlen' : (fewL l).length ≤ 9223372036854775807 := by have := HLE.out; omega
  go_wp2_with fail
  go_loopg [5, 6] (fewL l).length (fun j o t wr => j ≤ (fewL l).length ∧ t = .int .i64 ((j : Int) - 1) ∧ o = .nilIface ∧ Below w1.heap.size w1 wr)
  case atStart => exact ⟨Nat.le_refl _, rfl, rfl, Below.refl _ _⟩
  case round =>
    obtain ⟨hj, rfl, rfl, hbr⟩ := hrel
    have HBR := Lib.hid hbr
    by_cases h0 : gk = 0
    · subst h0
      clear hbr hj
      have HLr := Lib.hid (HL1.out.below HBR.out)
      have HWr := Lib.hid (HW1.out.trans (HBR.out.mono HW1.out.size))
      clear HL1 HR1 HBR
      go_wp2_with fail
      go_at_call 28
      refine (new_any _ _).mono ?_
      rintro e w2 ⟨rfl, hw2⟩
      have hb2 : Below wr.heap.size wr w2 := by rw [hw2]; exact (Below.refl _ _).alloc (Nat.le_refl _) _
      have HL2 := Lib.hid (HLr.out.below hb2)
      have HW2 := Lib.hid (HWr.out.trans (hb2.mono HWr.out.size))
      clear hw2 hb2
      go_wp2_with fail
      go_at_call 27
      refine (at_some _ _ _ _ _).mono ?_
      rintro e w3 ⟨rfl, hw3⟩
      have hb3 : Below w2.heap.size w2 w3 := by rw [hw3]; exact (Below.refl _ _).alloc (Nat.le_refl _) _
      have HC3 := Lib.hid (show Chain w3 (placedV w2.heap.size) [({ data := #[120] }, 1)] (plainV ⟨wr.heap.size, 0, none⟩) by rw [hw3]; exact chain_cons (l := []) { data := #[120] } 1 rfl)
      have HF3 := Lib.hid (show Chain w3 (plainV ⟨wr.heap.size, 0, none⟩) [] (plainV ⟨wr.heap.size, 0, none⟩) from rfl)
      have HL3 := Lib.hid (HL2.out.below hb3)
      have HW3 := Lib.hid (HW2.out.trans (hb3.mono HW2.out.size))
      clear hw3 hb3
      go_wp2_with fail
      go_at_call 19
      refine (told_true _ HL3.out).mono ?_
      rintro e w4 ⟨rfl, hb4⟩
      have HC4 := Lib.hid (HC3.out.below hb4)
      have HF4 := Lib.hid (HF3.out.below hb4)
      have HL4 := Lib.hid (HL3.out.below hb4)
      have HW4 := Lib.hid (HW3.out.trans (hb4.mono HW3.out.size))
      clear hb4
      go_wp2_with fail
      go_at_call 20
      refine (kind_nil _).mono ?_
      rintro e w5 ⟨rfl, hb5⟩
      have HC5 := Lib.hid (HC4.out.below hb5)
      have HF5 := Lib.hid (HF4.out.below hb5)
      have HL5 := Lib.hid (HL4.out.below hb5)
      have HW5 := Lib.hid (HW4.out.trans (hb5.mono HW4.out.size))
      clear hb5
      go_wp2_with fail
      go_at_call 21
      refine (is_ok_nil).mono ?_
      rintro e w6 ⟨rfl, hb6⟩
      have HC6 := Lib.hid (HC5.out.below hb6)
      have HF6 := Lib.hid (HF5.out.below hb6)
      have HL6 := Lib.hid (HL5.out.below hb6)
      have HW6 := Lib.hid (HW5.out.trans (hb6.mono HW5.out.size))
      clear hb6
      go_wp2_with fail
      go_at_call 21
      refine (is_nil 1 (by decide)).mono ?_
      rintro e w7 ⟨rfl, hb7⟩
      have HC7 := Lib.hid (HC6.out.below hb7)
      have HF7 := Lib.hid (HF6.out.below hb7)
      have HL7 := Lib.hid (HL6.out.below hb7)
      have HW7 := Lib.hid (HW6.out.trans (hb7.mono HW6.out.size))
      clear hb7
      go_wp2_with fail
      go_at_call 24
      refine (path_nil _).mono ?_
      rintro e w8 ⟨rfl, hw8⟩
      have HC8 := Lib.hid (show Chain w8 _ _ _ from hw8 ▸ HC7.out)
      have HF8 := Lib.hid (show Chain w8 _ _ _ from hw8 ▸ HF7.out)
      have HL8 := Lib.hid (show LV w8 from hw8 ▸ HL7.out)
      have HW8 := Lib.hid (show Below w.heap.size w w8 from hw8 ▸ HW7.out)
      clear hw8
      go_wp2_with fail
      go_at_call 20
      refine (kind_plain ⟨wr.heap.size, 0, none⟩ HL8.out.typ HF8.out).mono ?_
      rintro e w9 ⟨rfl, hb9⟩
      have HC9 := Lib.hid (HC8.out.below hb9)
      have HF9 := Lib.hid (HF8.out.below hb9)
      have HL9 := Lib.hid (HL8.out.below hb9)
      have HW9 := Lib.hid (HW8.out.trans (hb9.mono HW8.out.size))
      clear hb9
      go_wp2_with fail
      go_at_call 21
      refine (is_ok_chain (.inr ⟨⟨wr.heap.size, 0, none⟩, rfl⟩) HF9.out).mono ?_
      rintro e w10 ⟨rfl, hb10⟩
      have HC10 := Lib.hid (HC9.out.below hb10)
      have HF10 := Lib.hid (HF9.out.below hb10)
      have HL10 := Lib.hid (HL9.out.below hb10)
      have HW10 := Lib.hid (HW9.out.trans (hb10.mono HW9.out.size))
      clear hb10
      go_wp2_with fail
      go_at_call 24
      refine (path_any (.inr ⟨⟨wr.heap.size, 0, none⟩, rfl⟩) HF10.out (by decide)).mono ?_
      rintro e w11 ⟨v11, rfl, hown11, hb11⟩
      have HC11 := Lib.hid (HC10.out.below hb11)
      have HF11 := Lib.hid (HF10.out.below hb11)
      have HL11 := Lib.hid (HL10.out.below hb11)
      have HW11 := Lib.hid (HW10.out.trans (hb11.mono HW10.out.size))
      obtain ⟨ao11, cap11, rfl⟩ : ∃ ao cap, v11 = .slice ao 0 cap := by
        rcases hown11.2 with ⟨hv, h0⟩ | ⟨g, cap, cur, hv, _⟩
        · first | (cases h0; done) | exact ⟨none, 0, hv⟩
        · exact ⟨_, _, hv⟩
      clear hown11
      clear hb11
      go_wp2_with fail
      go_at_call 20
      refine (kind_plain ⟨wr.heap.size, 0, none⟩ HL11.out.typ HC11.out).mono ?_
      rintro e w12 ⟨rfl, hb12⟩
      have HC12 := Lib.hid (HC11.out.below hb12)
      have HF12 := Lib.hid (HF11.out.below hb12)
      have HL12 := Lib.hid (HL11.out.below hb12)
      have HW12 := Lib.hid (HW11.out.trans (hb12.mono HW11.out.size))
      clear hb12
      go_wp2_with fail
      go_at_call 25
      refine (Is_self ⟨wr.heap.size, 0, none⟩ HC12.out).mono ?_
      rintro e w13 ⟨rfl, hw13⟩
      have HC13 := Lib.hid (show Chain w13 _ _ _ from hw13 ▸ HC12.out)
      have HF13 := Lib.hid (show Chain w13 _ _ _ from hw13 ▸ HF12.out)
      have HL13 := Lib.hid (show LV w13 from hw13 ▸ HL12.out)
      have HW13 := Lib.hid (show Below w.heap.size w w13 from hw13 ▸ HW12.out)
      clear hw13
      go_wp2_with fail
      go_at_call 24
      refine (path_any (.inr ⟨⟨wr.heap.size, 0, none⟩, rfl⟩) HC13.out (by decide)).mono ?_
      rintro e w14 ⟨v14, rfl, hown14, hb14⟩
      have HC14 := Lib.hid (HC13.out.below hb14)
      have HF14 := Lib.hid (HF13.out.below hb14)
      have HL14 := Lib.hid (HL13.out.below hb14)
      have HW14 := Lib.hid (HW13.out.trans (hb14.mono HW13.out.size))
      obtain ⟨ao14, cap14, rfl⟩ : ∃ ao cap, v14 = .slice ao 1 cap := by
        rcases hown14.2 with ⟨hv, h0⟩ | ⟨g, cap, cur, hv, _⟩
        · first | (cases h0; done) | exact ⟨none, 0, hv⟩
        · exact ⟨_, _, hv⟩
      clear hown14
      clear hb14
      go_wp2_with fail
      go_at_call 22
      refine (HST.out _ _ ⟨wr.heap.size, 0, none⟩ HL14.out HC14.out).mono ?_
      rintro e w15 ⟨rfl, hb15⟩
      have HC15 := Lib.hid (HC14.out.below hb15)
      have HF15 := Lib.hid (HF14.out.below hb15)
      have HL15 := Lib.hid (HL14.out.below hb15)
      have HW15 := Lib.hid (HW14.out.trans (hb15.mono HW14.out.size))
      clear hb15
      go_wp2_with fail
      go_ret
      exact ⟨rfl, HW15.out⟩
    · obtain ⟨i, rfl⟩ : ∃ i, gk = i + 1 := ⟨gk - 1, by omega⟩
      have hlt1 : i < (fewL l).length := by omega
      obtain ⟨s2, n, hx⟩ : ∃ s n, (fewL l)[i]? = some (s, n) := ⟨_, _, List.getElem?_eq_getElem hlt1⟩
      obtain ⟨b1, o1, e1, l1, p0, p1⟩ := reads_cells HR1.out hx
      have c0 := (hbr.cell (p := ⟨b1, o1 + i * 2, none⟩) l1).trans p0
      have c1 := (hbr.cell (p := ⟨b1, o1 + i * 2 + 1, none⟩) l1).trans p1
      have hcast : (((i + 1 : Nat) : Int) - 1) = (i : Int) := by omega
      rw [hcast]
      subst e1
      have hi0 : (0 : Int) ≤ (i : Int) := Int.natCast_nonneg _
      have hi1 : (i : Int) < ((fewL l).length : Int) := by omega
      clear hx l1 p0 p1 hbr hcast h0
      go_wp2_with fail
      go_quiet ((go_at_call 27; exact Calls.quiet_of_same (at_nil _ _ _)))
      go_wp2_with fail
      go_roundg i
      case measure => omega
      case rel => exact ⟨by omega, rfl, rfl, below_drewN HBR.out _⟩
end Go.Proofs.YtcjbmeebenaonaaDoor.Fault
