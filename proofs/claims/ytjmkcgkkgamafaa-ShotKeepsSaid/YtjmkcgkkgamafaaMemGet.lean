/-
  PACKAGE mem: Get's answer lies in a block that isn't the Mem's.
-/
import Derived.Test.YtjmkcgkkgamafaaMemZ
namespace Go.Proofs.Ytjmkcgkkgamafaa.Mm
open Go.RowKit Rw Pk Go.Maps
set_option linter.unusedVariables false
set_option maxRecDepth 1000000 in
set_option maxHeartbeats 8000000 in
theorem getown_any {w : World} {τ : Nat → Nat} {b : Nat} {M : St} (hM : MemAt τ w b M) (hB : Bnd2 M) (who a : Int) (hw : I64 who) (ha : I64 a) :
    Calls Try.prog 111 #[.pointer (some ⟨b, 0, none⟩), .int .i64 who, .int .i64 a] w
      fun e w' => ∃ v, e = .returned v ∧ ∃ w1, Batch.Own w' w1.heap.size 85 v (getV M who a) ∧ MemP τ w b (lookS M who 2 a) w1 ∧ Below w1.heap.size w1 w' := by
  have HMAY := Lib.hid (may_any hM hB.1 who 2 a (by decide) ha hw)
  have HM := Lib.hid hM
  have HB := Lib.hid hB
  clear hM hB
  by_cases h : mayB M who 2 a = true
  · have HV : Hid (getV M who a = M.bs.getD a.toNat []) := Lib.hid (if_pos h)
    have HS : Hid (lookS M who 2 a = M.note ⟨who, 2, a, true⟩) := Lib.hid (if_pos h)
    obtain ⟨h0, h1, _, _⟩ := mayB_yes h
    obtain ⟨i, l, rfl, hi, hx⟩ := cnt_box 2 (.inl rfl) h0 h1
    have HX := Lib.hid hx
    have HL := Lib.hid (HB.out.2 l (List.mem_of_getElem? hx))
    have hl0 : (0 : Int) ≤ (i : Int) := Int.natCast_nonneg _
    have hl1 : (i : Int) < (M.bs.length : Int) := by omega
    rw [h] at HMAY
    clear h h0 h1 hx ha hw
    go_enter Try.func111, Try.ntmps111
    go_wp2_with fail
    go_at_call 82
    refine HMAY.out.mono ?_
    rintro e w1 ⟨rfl, rfl⟩
    go_wp2_with fail
    go_at_call 83
    refine (note_any HM.out HB.out.1 who 2 (i : Int) true).mono ?_
    rintro e w2 ⟨rfl, τ', hM', hS'⟩
    have HM2 := Lib.hid hM'
    have HS2 := Lib.hid hS'
    obtain ⟨V, hV⟩ := hM'
    obtain ⟨_, c1, _, _, _, _⟩ := five hV.st
    obtain ⟨g, cap, s, hv, _, _, _, d0, _, hrow⟩ := box_at hV (show (M.note ⟨who, 2, (i : Int), true⟩).bs[i]? = some l from HX.out)
    rw [hv] at c1
    have c1' : w2.cell? ⟨b, 1, none⟩ = some (.slice (some ⟨g, 0, none⟩) M.bs.length cap) := c1
    have HC := Lib.hid (Batch.cloneB_any (row_sl hrow HL.out.2) (by have := HL.out.1; omega))
    have d0' : w2.cell? ⟨g, i, none⟩ = some (.slice s.ao s.n s.c) := d0
    have HC' : Hid (Calls Try.prog 64 #[.slice s.ao s.n s.c] w2 fun e w' => ∃ v', e = .returned v' ∧ Batch.Own w' w2.heap.size 85 v' l ∧ Below w2.heap.size w2 w') := HC
    clear hV hv hS' c1 hrow d0 HC
    go_wp2_with fail
    go_at_call 64
    refine HC'.out.mono ?_
    rintro e w3 ⟨v', rfl, ho, hb⟩
    have HO := Lib.hid ho
    have HP := Lib.hid (show MemP τ w b (M.note ⟨who, 2, (i : Int), true⟩) w2 from ⟨τ', HM2.out, HS2.out⟩)
    have HB2 := Lib.hid hb
    clear ho hb
    go_wp2_with fail
    go_ret
    exact ⟨_, rfl, w2, by
      rw [HV.out, show ((i : Int)).toNat = i by omega, List.getD_eq_getElem?_getD, HX.out]
      exact HO.out, by rw [HS.out]; exact HP.out, HB2.out⟩
  · have HV : Hid (getV M who a = []) := Lib.hid (if_neg h)
    have HS : Hid (lookS M who 2 a = M) := Lib.hid (if_neg h)
    rw [show mayB M who 2 a = false by simpa using h] at HMAY
    clear h
    go_enter Try.func111, Try.ntmps111
    go_wp2_with fail
    go_at_call 82
    refine HMAY.out.mono ?_
    rintro e w1 ⟨rfl, rfl⟩
    go_wp2_with fail
    go_ret
    exact ⟨_, rfl, w, by rw [HV.out]; exact Batch.Own.nil _ _ _, by rw [HS.out]; exact ⟨τ, HM.out, Step.refl _ _⟩, Below.refl _ _⟩
section
variable {n p : Nat} {zs : List Nat} {w0 w w' w'' : World} {M M' : St} {A B C k : Nat}
theorem mzget_any (h : MemZ n w0 zs p M w) (hG : Good A B C k M) (ha : A ≤ 65536) (hb : B ≤ 65536) (hc : C ≤ 65536) (hk : k ≤ 100000) (who a : Int) (hw : I64 who) (ha' : I64 a) :
    Calls Try.prog 111 #[.pointer (some ⟨p, 0, none⟩), .int .i64 who, .int .i64 a] w fun e w' => ∃ v, e = .returned v ∧ Batch.Own w' w.heap.size 85 v (getV M who a) ∧ MemZ n w0 zs p (lookS M who 2 a) w' ∧ KeepB n zs w w' ∧ ∀ g, v.ownBlock = some g → w.heap.size ≤ g ∧ MemZ n w0 (g :: zs) p (lookS M who 2 a) w' := by
  obtain ⟨τ, h1, h2, h3, h4, h5⟩ := h
  refine (getown_any h1 (hG.bnd ha hb hc (by omega)).1 who a hw ha').mono fun e w' ⟨v, he, w1, ho, hp, hbw⟩ => ?_
  obtain ⟨hz, hk'⟩ := memz_of h2 h3 h4 h5 hp
  have hs : w.heap.size ≤ w1.heap.size := hk'.1
  refine ⟨v, he, ho.mono hs, hz.below hbw, hk'.trans (hz.keep hbw), fun g hg => ?_⟩
  rcases ho.form with ⟨_, hv⟩ | ⟨g', cap, hv, h6, h7, _⟩
  · rw [hv] at hg; simp [Value.ownBlock] at hg
  · have : g' = g := by rw [hv] at hg; simpa [Value.ownBlock] using hg
    subst this
    exact ⟨by omega, hz.add hbw h6 h7⟩
end
end Go.Proofs.Ytjmkcgkkgamafaa.Mm
