/-
  THE WALK OF THE LAW FaultTells: it answers true of all kinds, at all places.
-/
import Derived.Test.YtcjbmeebenaonaaDoorFaultRef
namespace Go.Proofs.YtcjbmeebenaonaaDoor.Fault
open Go.RowKit
set_option linter.unusedVariables false

theorem few_small (l : List Pl) (h : ∀ x ∈ l, x.1.size ≤ 9223372036854775807 ∧ -9223372036854775808 ≤ x.2 ∧ x.2 ≤ 9223372036854775807) : ∀ x ∈ fewL l, Small x := by
  intro x hx
  unfold fewL at hx
  obtain ⟨y, hy, rfl⟩ := List.mem_map.1 hx
  refine ⟨?_, (h y (List.mem_of_mem_take hy)).2⟩
  show (cutS y.1).size ≤ 20
  unfold cutS
  rw [ByteArray.size_extract]
  omega

theorem kind_in (a : Int) (h1 : -9223372036854775808 ≤ a) (h2 : a ≤ 9223372036854775807) : 1 ≤ wrap64 (1 + wrap64 ((IntKind.u64.wrap a).tmod 14)) ∧ wrap64 (1 + wrap64 ((IntKind.u64.wrap a).tmod 14)) ≤ 14 := by
  have h : 0 ≤ IntKind.u64.wrap a := by rw [IntKind.wrap_u64]; omega
  rw [Int.tmod_eq_emod_of_nonneg h]
  generalize IntKind.u64.wrap a = x at h
  rw [IntWalk.wrap64_in (x % 14) ⟨by omega, by omega⟩, IntWalk.wrap64_in (1 + x % 14) ⟨by omega, by omega⟩]
  omega

theorem reads_cells {w : World} {ao : Option Addr} {len cap : Nat} {l : List Pl} (h : Reads w (.slice ao len cap) l) {i : Nat} {s : ByteArray} {n : Int} (hx : l[i]? = some (s, n)) :
    ∃ b off, ao = some ⟨b, off, none⟩ ∧ b < w.heap.size ∧ w.cell? ⟨b, off + i * 2, none⟩ = some (.string s) ∧ w.cell? ⟨b, off + i * 2 + 1, none⟩ = some (.int .i64 n) := by
  obtain ⟨ao', cap', e, _, _, h4⟩ := h
  have hne : l ≠ [] := by intro e; rw [e] at hx; simp at hx
  obtain ⟨b, off, h5, h6⟩ := h4.resolve_left hne
  obtain ⟨q0, q1⟩ := h6 i s n hx
  injection e with e1 _ _
  exact ⟨b, off, e1.trans h5, Lib.lt_of_cell q0, q0, q1⟩

set_option maxRecDepth 1000000 in
set_option maxHeartbeats 8000000 in
theorem faultTells_any {w : World} {v : Value} {l : List Pl} (a b : Int) (hL : LV w) (hv : Reads w v l) (ha : -9223372036854775808 ≤ a ∧ a ≤ 9223372036854775807) (hb : -9223372036854775808 ≤ b ∧ b ≤ 9223372036854775807) :
    Calls Tryd.prog 6 #[v, .int .i64 a, .int .i64 b] w fun e w' => e = .returned (.bool true) ∧ Below w.heap.size w w' := by
  obtain ⟨ha1, ha2⟩ := ha
  obtain ⟨hb1, hb2⟩ := hb
  have HF := Lib.hid (few_any hv)
  have HSM := Lib.hid (few_small l (by obtain ⟨_, _, _, _, h, _⟩ := hv; exact h))
  have HLE := Lib.hid (show (fewL l).length ≤ 12 by rw [fewL_length]; omega)
  have HL := Lib.hid hL
  clear hv hL
  go_enter Tryd.func6, Tryd.ntmps6
  go_wp2_with fail
  go_at_call 17
  refine HF.out.mono ?_
  rintro e w1 ⟨v1, rfl, hown, hw1⟩
  obtain ⟨ao, cap, rfl⟩ : ∃ ao cap, v1 = .slice ao (fewL l).length cap := by
    rcases hown.2 with ⟨hv, h0⟩ | ⟨g, cap, cur, hv, _⟩
    · exact ⟨none, 0, by rw [hv, h0]⟩
    · exact ⟨_, _, hv⟩
  have HR1 := Lib.hid (reads_own hown (by have := HLE.out; omega) HSM.out)
  have HL1 := Lib.hid (HL.out.below hw1)
  have HW1 := Lib.hid hw1
  clear hown hw1 HF
  obtain ⟨hk1, hk2⟩ := kind_in a ha1 ha2
  obtain ⟨ho1, ho2⟩ := kind_in b hb1 hb2
  go_wp2_with fail
  generalize wrap64 (1 + wrap64 ((IntKind.u64.wrap a).tmod 14)) = k at hk1 hk2 ⊢
  generalize wrap64 (1 + wrap64 ((IntKind.u64.wrap b).tmod 14)) = o at ho1 ho2 ⊢
  have fk : (k == 0) = false := by rw [beq_eq_false_iff_ne]; omega
  have fo : (o == 0) = false := by rw [beq_eq_false_iff_ne]; omega
  have hcases : ((k == o) = true ∧ (o == k) = true) ∨ ((k == o) = false ∧ (o == k) = false) := by
    by_cases h : k = o
    · left; rw [h]; simp
    · right; exact ⟨by rw [beq_eq_false_iff_ne]; exact h, by rw [beq_eq_false_iff_ne]; exact fun e => h e.symm⟩
  go_at_call 18
  refine (wrap_any k HR1.out).mono ?_
  rintro e w2 ⟨E, rfl, hch, hb2⟩
  have HC2 := Lib.hid hch
  obtain ⟨u, x, hE⟩ := ne_nil (.inl ⟨k, rfl⟩) hch
  subst hE
  have HR2 := Lib.hid (HR1.out.below hb2)
  have HL2 := Lib.hid (HL1.out.below hb2)
  have HW2 := Lib.hid (HW1.out.trans (hb2.mono HW1.out.size))
  clear hch hb2
  rcases hcases with ⟨f1, f2⟩ | ⟨f1, f2⟩
  all_goals
    go_wp2_with fail
    go_at_call 19
    refine (told_true _ HL2.out).mono ?_
    rintro e w3 ⟨rfl, hb3⟩
    have HC3 := Lib.hid (HC2.out.below hb3)
    have HR3 := Lib.hid (HR2.out.below hb3)
    have HL3 := Lib.hid (HL2.out.below hb3)
    have HW3 := Lib.hid (HW2.out.trans (hb3.mono HW2.out.size))
    clear hb3
    go_wp2_with fail
    go_at_call 20
    refine (kind_errno k HL3.out.typ HC3.out).mono ?_
    rintro e w4 ⟨rfl, hb4⟩
    have HC4 := Lib.hid (HC3.out.below hb4)
    have HR4 := Lib.hid (HR3.out.below hb4)
    have HL4 := Lib.hid (HL3.out.below hb4)
    have HW4 := Lib.hid (HW3.out.trans (hb4.mono HW3.out.size))
    clear hb4
    go_wp2_with fail
    go_at_call 21
    refine (is_errno_k k k fk HC4.out).mono ?_
    rintro e w5 ⟨rfl, hb5⟩
    have HC5 := Lib.hid (HC4.out.below hb5)
    have HR5 := Lib.hid (HR4.out.below hb5)
    have HL5 := Lib.hid (HL4.out.below hb5)
    have HW5 := Lib.hid (HW4.out.trans (hb5.mono HW4.out.size))
    clear hb5
    go_wp2_with fail
    go_at_call 21
    refine (is_ok_chain (.inl ⟨k, rfl⟩) HC5.out).mono ?_
    rintro e w6 ⟨rfl, hb6⟩
    have HC6 := Lib.hid (HC5.out.below hb6)
    have HR6 := Lib.hid (HR5.out.below hb6)
    have HL6 := Lib.hid (HL5.out.below hb6)
    have HW6 := Lib.hid (HW5.out.trans (hb6.mono HW5.out.size))
    clear hb6
    go_wp2_with fail
    go_at_call 21
    refine (is_errno_k o k fo HC6.out).mono ?_
    rintro e w7 ⟨rfl, hb7⟩
    have HC7 := Lib.hid (HC6.out.below hb7)
    have HR7 := Lib.hid (HR6.out.below hb7)
    have HL7 := Lib.hid (HL6.out.below hb7)
    have HW7 := Lib.hid (HW6.out.trans (hb7.mono HW6.out.size))
    clear hb7
    go_wp2_with fail
    go_at_call 22
    refine (text_errno k HL7.out HC7.out (by omega) hk2 HLE.out HSM.out).mono ?_
    rintro e w8 ⟨rfl, hb8⟩
    have HC8 := Lib.hid (HC7.out.below hb8)
    have HR8 := Lib.hid (HR7.out.below hb8)
    have HL8 := Lib.hid (HL7.out.below hb8)
    have HW8 := Lib.hid (HW7.out.trans (hb8.mono HW7.out.size))
    clear hb8
    go_wp2_with fail
    go_at_call 23
    refine (refTextF_any k hk1 hk2 HR8.out HLE.out HSM.out).mono ?_
    rintro e w9 ⟨rfl, hb9⟩
    have HC9 := Lib.hid (HC8.out.below hb9)
    have HR9 := Lib.hid (HR8.out.below hb9)
    have HL9 := Lib.hid (HL8.out.below hb9)
    have HW9 := Lib.hid (HW8.out.trans (hb9.mono HW8.out.size))
    clear hb9
    go_wp2_with fail
    go_at_call 24
    refine (path_any (.inl ⟨k, rfl⟩) HC9.out (by have := HLE.out; omega)).mono ?_
    rintro e w10 ⟨v2, rfl, hown2, hb10⟩
    have HC10 := Lib.hid (HC9.out.below hb10)
    have HR10 := Lib.hid (HR9.out.below hb10)
    have HL10 := Lib.hid (HL9.out.below hb10)
    have HW10 := Lib.hid (HW9.out.trans (hb10.mono HW9.out.size))
    have HP10 := Lib.hid (reads_own hown2 (by have := HLE.out; omega) HSM.out)
    obtain ⟨ao2, cap2, rfl⟩ : ∃ ao2 cap2, v2 = .slice ao2 (fewL l).length cap2 := by
      rcases hown2.2 with ⟨hv, h0⟩ | ⟨g, cap, cur, hv, _⟩
      · exact ⟨none, 0, by rw [hv, h0]⟩
      · exact ⟨_, _, hv⟩
    clear hown2
    clear hb10
    go_wp2_with fail
    have HLEN := Lib.hid (show (fewL l).length ≤ 9223372036854775807 by have := HLE.out; omega)
    have hlen' := HLEN.out
    go_loopg [11] (fewL l).length (fun j t wr => ∃ i : Nat, i + j = (fewL l).length ∧ t = .int .i64 i ∧ Below w10.heap.size w10 wr)
    case atStart => exact ⟨0, by omega, rfl, Below.refl _ _⟩
    case round =>
      obtain ⟨i, hij, rfl, hbr⟩ := hrel
      have HIJ := Lib.hid hij
      have HBR := Lib.hid hbr
      clear hij
      by_cases hlt : i < (fewL l).length
      · obtain ⟨s, n, hx⟩ : ∃ s n, (fewL l)[i]? = some (s, n) := ⟨_, _, List.getElem?_eq_getElem hlt⟩
        obtain ⟨b1, o1, e1, l1, p0, p1⟩ := reads_cells HR10.out hx
        obtain ⟨b2, o2, e2, l2, q0, q1⟩ := reads_cells HP10.out hx
        have c0 := (hbr.cell (p := ⟨b1, o1 + i * 2, none⟩) l1).trans p0
        have c1 := (hbr.cell (p := ⟨b1, o1 + i * 2 + 1, none⟩) l1).trans p1
        have d0 := (hbr.cell (p := ⟨b2, o2 + i * 2, none⟩) l2).trans q0
        have d1 := (hbr.cell (p := ⟨b2, o2 + i * 2 + 1, none⟩) l2).trans q1
        have HLT := Lib.hid hlt
        have hi0 : (0 : Int) ≤ (i : Int) := Int.natCast_nonneg _
        have hi1 : (i : Int) < ((fewL l).length : Int) := by omega
        subst e1 e2
        clear hx l1 l2 p0 p1 q0 q1 hbr
        go_wp2_with fail
        go_quiet (fail)
        go_wp2_with fail
        go_roundg (gk - 1)
        case measure => have := HIJ.out; have := HLT.out; omega
        case rel => exact ⟨i + 1, by have := HIJ.out; have := HLT.out; omega, by go_num, below_drewN HBR.out _⟩
      · have hbx : Below wr.heap.size wr (wr.alloc (.cells #[.int .i64 0] 26)) := (Below.refl _ _).alloc (Nat.le_refl _) _
        have HC11 := Lib.hid ((HC10.out.below HBR.out).below hbx)
        have HL11 := Lib.hid ((HL10.out.below HBR.out).below hbx)
        have HW11 := Lib.hid ((HW10.out.trans (HBR.out.mono HW10.out.size)).trans (hbx.mono (HW10.out.trans (HBR.out.mono HW10.out.size)).size))
        have HI := Lib.hid (Is_errno k k HC11.out)
        have HA := Lib.hid (As_errno k ⟨wr.heap.size, 0, none⟩ (.int .i64 0) HL11.out.typ HC11.out (by simp) (by simp))
        clear hbr hbx
        go_wp2_with fail
        go_at_call 25
        refine HI.out.mono ?_
        rintro e w11 ⟨rfl, rfl⟩
        go_wp2_with fail
        go_at_call 26
        refine HA.out.mono ?_
        rintro e w12 ⟨rfl, rfl⟩
        unfold asW
        go_wp2_with fail
        go_ret
        refine ⟨rfl, ?_⟩
        have hwr : Below w.heap.size w wr := HW10.out.trans (HBR.out.mono HW10.out.size)
        have hsz := hwr.size
        repeat (first | exact hwr | refine Below.alloc ?_ (by first | exact hsz | (simp; omega)) _)
end Go.Proofs.YtcjbmeebenaonaaDoor.Fault
