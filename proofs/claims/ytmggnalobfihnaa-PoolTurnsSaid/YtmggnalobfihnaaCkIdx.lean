/-
  PACKAGE clock: meet; which one meets first.
-/
import Derived.Test.YtmggnalobfihnaaCkNext
namespace Go.Proofs.Ytmggnalobfihnaa.Ck
open Go.RowKit Rw Mm Go.Maps Pk
set_option linter.unusedVariables false

theorem ret_b {a b : Bool} (h : a = b) : Ending.returned (.bool a) = .returned (.bool b) := by rw [h]
set_option maxRecDepth 1000000 in
theorem meet_any (a e : Ev) (w : World) : Calls Try.prog 62 #[.agg #[.int .i64 a.w, .int .i64 a.k, .int .i64 a.a, .bool a.ok], .agg #[.int .i64 e.w, .int .i64 e.k, .int .i64 e.a, .bool e.ok]] w fun r w' => r = .returned (.bool (meetB a e)) ∧ Below w.heap.size w w' := by
  obtain ⟨aw, ak, aa, ao⟩ := a
  obtain ⟨ew, ek, ea, eo⟩ := e
  have HB : Hid (∀ (w : World) (o1 o2 : Obj), Below w.heap.size w ((w.alloc o1).alloc o2)) := Lib.hid (fun w o1 o2 => ((Below.refl _ _).alloc (Nat.le_refl _) _).alloc (by simp) _)
  by_cases h1 : aa = ea
  · subst h1
    have h1' : (aa == aa) = true := by simp
    by_cases h2 : ak = 3
    · subst h2
      have HR : Hid (meetB ⟨aw, 3, aa, ao⟩ ⟨ew, ek, aa, eo⟩ = true) := Lib.hid (by unfold meetB; simp)
      go_enter Try.func62, Try.ntmps62
      go_wp2_with fail
      go_ret
      exact ⟨ret_b HR.out.symm, HB.out _ _ _⟩
    · have h2' : (ak == 3) = false := by simpa using h2
      by_cases h3 : ek = 3
      · subst h3
        have HR : Hid (meetB ⟨aw, ak, aa, ao⟩ ⟨ew, 3, aa, eo⟩ = true) := Lib.hid (by unfold meetB; simp)
        clear h2
        go_enter Try.func62, Try.ntmps62
        go_wp2_with fail
        go_ret
        exact ⟨ret_b HR.out.symm, HB.out _ _ _⟩
      · have h3' : (ek == 3) = false := by simpa using h3
        have HR : Hid (meetB ⟨aw, ak, aa, ao⟩ ⟨ew, ek, aa, eo⟩ = false) := Lib.hid (by unfold meetB; simp [h2, h3])
        clear h2 h3
        go_enter Try.func62, Try.ntmps62
        go_wp2_with fail
        go_ret
        exact ⟨ret_b HR.out.symm, HB.out _ _ _⟩
  · have h1' : (aa == ea) = false := by simpa using h1
    have HR : Hid (meetB ⟨aw, ak, aa, ao⟩ ⟨ew, ek, ea, eo⟩ = false) := Lib.hid (by unfold meetB; simp [h1])
    clear h1
    go_enter Try.func62, Try.ntmps62
    go_wp2_with fail
    go_ret
    exact ⟨ret_b HR.out.symm, HB.out _ _ _⟩
/-- Event e lies in block b. -/
def EvIn (w : World) (b : Nat) (e : Ev) : Prop := w.cell? ⟨b, 0, none⟩ = some (.int .i64 e.w) ∧ w.cell? ⟨b, 1, none⟩ = some (.int .i64 e.k) ∧ w.cell? ⟨b, 2, none⟩ = some (.int .i64 e.a) ∧ w.cell? ⟨b, 3, none⟩ = some (.bool e.ok)
theorem EvIn.below {w w' : World} {b : Nat} {e : Ev} (h : EvIn w b e) (hb : Below w.heap.size w w') : EvIn w' b e := by
  obtain ⟨h0, h1, h2, h3⟩ := h
  have hl := Lib.lt_of_cell h0
  exact ⟨(hb.cell (p := ⟨b, 0, none⟩) hl).trans h0, (hb.cell (p := ⟨b, 1, none⟩) hl).trans h1, (hb.cell (p := ⟨b, 2, none⟩) hl).trans h2, (hb.cell (p := ⟨b, 3, none⟩) hl).trans h3⟩
theorem evIn_new {w : World} {b : Nat} {e : Ev} {T : TypeId} (h : w.heap[b]? = some (.cells #[.int .i64 e.w, .int .i64 e.k, .int .i64 e.a, .bool e.ok] T (0, 0))) : EvIn w b e := by
  unfold EvIn; simp [World.cell?, h]
set_option maxRecDepth 1000000 in
set_option maxHeartbeats 4000000 in
theorem hit_any (a e : Ev) (who : Int) {w : World} {b5 b14 : Nat} (hw : w.cell? ⟨b5, 0, none⟩ = some (.int .i64 who)) (he : EvIn w b14 e) :
    Calls Try.prog 61 #[.agg #[.int .i64 a.w, .int .i64 a.k, .int .i64 a.a, .bool a.ok], .pointer (some ⟨b5, 0, none⟩), .pointer (some ⟨b14, 0, none⟩)] w fun r w' => r = .returned (.bool (hitB who e a)) ∧ Below w.heap.size w w' := by
  obtain ⟨aw, ak, aa, ao⟩ := a
  obtain ⟨W1, hW1⟩ : ∃ W1, W1 = w.alloc (.cells #[.int .i64 aw, .int .i64 ak, .int .i64 aa, .bool ao] 98) := ⟨_, rfl⟩
  have hb : Below w.heap.size w W1 := by rw [hW1]; exact (Below.refl _ _).alloc (Nat.le_refl _) _
  have hn : W1.heap[w.heap.size]? = some (.cells #[.int .i64 aw, .int .i64 ak, .int .i64 aa, .bool ao] 98 (0, 0)) := by rw [hW1]; exact heap_alloc_new w _
  obtain ⟨s0, s1, s2, s3⟩ := evIn_new (e := ⟨aw, ak, aa, ao⟩) hn
  simp only at s0 s1 s2 s3
  obtain ⟨t0, t1, t2, t3⟩ := he.below hb
  have u0 := (hb.cell (p := ⟨b5, 0, none⟩) (Lib.lt_of_cell hw)).trans hw
  have HB := Lib.hid hb
  have HW1 := Lib.hid hW1
  clear hw he hn hb hW1
  by_cases h1 : aw = who
  · subst h1
    have h1' : (aw == aw) = true := by simp
    have HR : Hid (meetB ⟨aw, ak, aa, ao⟩ e = hitB aw e ⟨aw, ak, aa, ao⟩) := Lib.hid (by unfold hitB; simp)
    go_enter Try.func61, Try.ntmps61
    go_upto_region 1 with fail
    rw [← HW1.out]
    go_wp2_with fail
    go_at_call 62
    refine (meet_any ⟨aw, ak, aa, ao⟩ e _).mono ?_
    rintro r w2 ⟨rfl, hb2⟩
    have HB2 := Lib.hid (HB.out.trans (hb2.mono HB.out.size))
    clear hb2
    go_wp2_with fail
    go_ret
    exact ⟨ret_b HR.out, HB2.out⟩
  · have h1' : (aw == who) = false := by simpa using h1
    have HR : Hid (hitB who e ⟨aw, ak, aa, ao⟩ = false) := Lib.hid (by unfold hitB; simp [h1])
    clear h1
    go_enter Try.func61, Try.ntmps61
    go_upto_region 1 with fail
    rw [← HW1.out]
    go_wp2_with fail
    go_ret
    exact ⟨ret_b HR.out.symm, HB.out⟩
set_option maxRecDepth 1000000 in
set_option maxHeartbeats 8000000 in
theorem idxf_any {w : World} {v : Value} {l : List Ev} (hv : Rr evK w v l) (who : Int) (e : Ev) {b5 b14 : Nat} (hw : w.cell? ⟨b5, 0, none⟩ = some (.int .i64 who)) (he : EvIn w b14 e) {i0 : Nat} {a0 : Ev} (h0 : l[i0]? = some a0) (hh : hitB who e a0 = true) (hn : ∀ (j : Nat) a, j < i0 → l[j]? = some a → hitB who e a = false) :
    Calls Try.prog 60 #[v, .func (.func 61) #[] #[.pointer (some ⟨b5, 0, none⟩), .pointer (some ⟨b14, 0, none⟩)]] w fun r w' => r = .returned (.int .i64 (i0 : Int)) ∧ Below w.heap.size w w' := by
  have HV := Lib.hid hv
  have HWH := Lib.hid hw
  have HE := Lib.hid he
  have H0 := Lib.hid h0
  have HH := Lib.hid hh
  have HN := Lib.hid hn
  obtain ⟨ao, cap, rfl, hv1, hv2⟩ := hv.form
  have hl0 : i0 < l.length := (List.getElem?_eq_some_iff.1 h0).1
  have HL0 := Lib.hid hl0
  have hlm : l.length ≤ 9223372036854775807 := by omega
  clear hv hw he h0 hh hn hv1 hl0
  go_enter Try.func60, Try.ntmps60
  go_wp2_with fail
  go_loopg [8] (i0 + 1) (fun k t wr => ∃ (i : Nat), i + k = i0 + 1 ∧ i ≤ i0 ∧ t = .int .i64 (i : Int) ∧ Hid (Below w.heap.size w wr))
  case atStart => exact ⟨0, by omega, by omega, rfl, Lib.hid (Below.refl _ _)⟩
  case round =>
    obtain ⟨i, hik, hil, rfl, HB⟩ := hrel
    have HIK := Lib.hid hik
    have HIL := Lib.hid hil
    have hlt : i < l.length := by have := HL0.out; omega
    obtain ⟨⟨aw, ak, aa, ax⟩, hx⟩ : ∃ x, l[i]? = some x := ⟨_, List.getElem?_eq_getElem hlt⟩
    obtain ⟨b, off, rfl, hbl, qx⟩ := HV.out.at hx
    have qy := qx.below HB.out hbl
    have c0 := qy 0 _ (by decide) rfl
    have c1 := qy 1 _ (by decide) rfl
    have c2 := qy 2 _ (by decide) rfl
    have c3 := qy 3 _ (by decide) rfl
    simp only [show evK.k = 4 from rfl, Nat.add_zero] at c0 c1 c2 c3
    have hi0 : (0 : Int) ≤ (i : Int) := Int.natCast_nonneg _
    have hi1 : (i : Int) < (l.length : Int) := by omega
    have HX := Lib.hid hx
    clear hik hil hlt hx qx qy
    go_wp2_with fail
    go_at_call 61
    refine (hit_any ⟨aw, ak, aa, ax⟩ e who ((HB.out.cell (p := ⟨b5, 0, none⟩) (Lib.lt_of_cell HWH.out)).trans HWH.out) (HE.out.below HB.out)).mono ?_
    rintro r w2 ⟨rfl, hb2⟩
    have HB2 := Lib.hid (HB.out.trans (hb2.mono HB.out.size))
    clear hb2
    by_cases hi : i = i0
    · subst hi
      have hz : hitB who e ⟨aw, ak, aa, ax⟩ = true := by
        have := H0.out; rw [HX.out] at this; cases this; exact HH.out
      rw [hz]
      clear hz
      go_wp2_with fail
      go_ret
      exact ⟨rfl, HB2.out⟩
    · have hz : hitB who e ⟨aw, ak, aa, ax⟩ = false := HN.out i _ (by have := HIL.out; omega) HX.out
      rw [hz]
      have HI := Lib.hid hi
      clear hz hi
      go_wp2_with fail
      go_roundg (gk - 1)
      case measure => have := HIK.out; have := HIL.out; have := HI.out; omega
      case rel => exact ⟨i + 1, by have := HIK.out; have := HIL.out; have := HI.out; omega, by have := HIL.out; have := HI.out; omega, by go_num, HB2⟩
end Go.Proofs.Ytmggnalobfihnaa.Ck
