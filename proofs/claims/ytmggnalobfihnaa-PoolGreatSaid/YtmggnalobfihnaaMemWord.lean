/-
  PACKAGE mem: Load, Store, Get, Set.
-/
import Derived.Test.YtmggnalobfihnaaJoined3
import Derived.Test.YtmggnalobfihnaaJoined5
import Derived.Deep.RegionHeld3
import Derived.Deep.RegionHeldLaw
namespace Go.Proofs.Ytmggnalobfihnaa.Mm
open Go.RowKit Rw Pk Go.Maps
set_option linter.unusedVariables false

def MemP (τ : Nat → Nat) (w : World) (b : Nat) (M' : St) (w' : World) : Prop := ∃ τ', MemAt τ' w' b M' ∧ Step τ τ' w w'
theorem bnd_note {M : St} {e : Ev} (h : Bnd2 M) : (M.note e).ws = M.ws ∧ (M.note e).bs = M.bs ∧ (M.note e).ls = M.ls ∧ (M.note e).sp = M.sp := ⟨rfl, rfl, rfl, rfl⟩
theorem cnt_word {M : St} {a : Int} (k : Int) (hk : k = 0 ∨ k = 1) (h0 : 0 ≤ a) (h1 : a < (cnt M k : Int)) : ∃ (i : Nat) (x : Int), a = (i : Int) ∧ i < M.ws.length ∧ M.ws[i]? = some x := by
  unfold cnt at h1
  rw [if_pos hk] at h1
  exact ⟨a.toNat, _, by omega, by omega, List.getElem?_eq_getElem (by omega)⟩
theorem cnt_box {M : St} {a : Int} (k : Int) (hk : k = 2 ∨ k = 3) (h0 : 0 ≤ a) (h1 : a < (cnt M k : Int)) : ∃ (i : Nat) (l : List Batch.Ch), a = (i : Int) ∧ i < M.bs.length ∧ M.bs[i]? = some l := by
  unfold cnt at h1
  rw [if_neg (by omega), if_pos hk] at h1
  exact ⟨a.toNat, _, by omega, by omega, List.getElem?_eq_getElem (by omega)⟩
theorem cnt_lat {M : St} {a : Int} (k : Int) (hk : 4 ≤ k) (h0 : 0 ≤ a) (h1 : a < (cnt M k : Int)) : ∃ (i : Nat) (L : La), a = (i : Int) ∧ i < M.ls.length ∧ M.ls[i]? = some L := by
  unfold cnt at h1
  rw [if_neg (by omega), if_neg (by omega)] at h1
  exact ⟨a.toNat, _, by omega, by omega, List.getElem?_eq_getElem (by omega)⟩
theorem word_at {τ : Nat → Nat} {w : World} {b : Nat} {M : St} {V : Vs} (hV : MemIs τ w b M V) {i : Nat} {x : Int} (hx : M.ws[i]? = some x) :
    ∃ g cap, V.vw = .slice (some ⟨g, 0, none⟩) M.ws.length cap ∧ g < w.heap.size ∧ τ g = 2 ∧ w.cell? ⟨g, i, none⟩ = some (.int .u64 x) ∧ (∀ o, w.frozen? ⟨g, o, none⟩ = false) := by
  obtain ⟨g, cap, h1, h2, h3, h4, h5⟩ := row_at hV.ws hx
  exact ⟨g, cap, h1, h2, h3, by have := h4 0 _ (by decide) rfl; rwa [show i * u64K.k + 0 = i from Nat.mul_one i] at this, h5⟩
theorem box_at {τ : Nat → Nat} {w : World} {b : Nat} {M : St} {V : Vs} (hV : MemIs τ w b M V) {i : Nat} {l : List Batch.Ch} (hx : M.bs[i]? = some l) :
    ∃ g cap s, V.vb = .slice (some ⟨g, 0, none⟩) M.bs.length cap ∧ V.bv[i]? = some s ∧ g < w.heap.size ∧ τ g = 3 ∧ w.cell? ⟨g, i, none⟩ = some s.val ∧ (∀ o, w.frozen? ⟨g, o, none⟩ = false) ∧ Row chK w τ 7 58 s.val l := by
  have hl := (List.getElem?_eq_some_iff.1 hx).1
  obtain ⟨s, hs⟩ : ∃ s, V.bv[i]? = some s := ⟨_, List.getElem?_eq_getElem (by rw [hV.bl]; exact hl)⟩
  obtain ⟨g, cap, h1, h2, h3, h4, h5⟩ := row_at hV.bs hs
  exact ⟨g, cap, s, by rw [h1, hV.bl], hs, h2, h3, by have := h4 0 _ (by decide) rfl; rwa [show i * svK.k + 0 = i from Nat.mul_one i] at this, h5, hV.be i s l hs hx⟩

/-! ### Load -/
def loadV (M : St) (who a : Int) : Int := if mayB M who 0 a = true then M.ws.getD a.toNat 0 else 0
def lookS (M : St) (who k a : Int) : St := if mayB M who k a = true then M.note ⟨who, k, a, true⟩ else M
set_option maxRecDepth 1000000 in
set_option maxHeartbeats 8000000 in
theorem load_any {w : World} {τ : Nat → Nat} {b : Nat} {M : St} (hM : MemAt τ w b M) (hB : Bnd2 M) (who a : Int) (hw : I64 who) (ha : I64 a) :
    Calls Try.prog 43 #[.pointer (some ⟨b, 0, none⟩), .int .i64 who, .int .i64 a] w
      fun e w' => e = .returned (.int .u64 (loadV M who a)) ∧ MemP τ w b (lookS M who 0 a) w' := by
  have HMAY := Lib.hid (may_any hM hB.1 who 0 a (by decide) ha hw)
  have HM := Lib.hid hM
  have HB := Lib.hid hB
  clear hM hB
  by_cases h : mayB M who 0 a = true
  · have HV : Hid (loadV M who a = M.ws.getD a.toNat 0) := Lib.hid (if_pos h)
    have HS : Hid (lookS M who 0 a = M.note ⟨who, 0, a, true⟩) := Lib.hid (if_pos h)
    obtain ⟨h0, h1, _, _⟩ := mayB_yes h
    obtain ⟨i, x, rfl, hi, hx⟩ := cnt_word 0 (.inl rfl) h0 h1
    have HX := Lib.hid hx
    have hl0 : (0 : Int) ≤ (i : Int) := Int.natCast_nonneg _
    have hl1 : (i : Int) < (M.ws.length : Int) := by omega
    rw [h] at HMAY
    clear h h0 h1 hx ha hw
    go_enter Try.func43, Try.ntmps43
    go_wp2_with fail
    go_at_call 63
    refine HMAY.out.mono ?_
    rintro e w1 ⟨rfl, rfl⟩
    go_wp2_with fail
    go_at_call 64
    refine (note_any HM.out HB.out.1 who 0 (i : Int) true).mono ?_
    rintro e w2 ⟨rfl, τ', hM', hS'⟩
    have HP := Lib.hid (show MemP τ w b (M.note ⟨who, 0, (i : Int), true⟩) w2 from ⟨τ', hM', hS'⟩)
    obtain ⟨V, hV⟩ := hM'
    obtain ⟨c0, _, _, _, _, _⟩ := five hV.st
    obtain ⟨g, cap, hv, _, _, d0, _⟩ := word_at hV (show (M.note ⟨who, 0, (i : Int), true⟩).ws[i]? = some x from HX.out)
    rw [hv] at c0
    have c0' : w2.cell? ⟨b, 0, none⟩ = some (.slice (some ⟨g, 0, none⟩) M.ws.length cap) := c0
    clear hV hv hS' c0
    go_wp2_with fail
    go_ret
    exact ⟨pint (by rw [HV.out, show ((i : Int)).toNat = i by omega, List.getD_eq_getElem?_getD, HX.out]; rfl), by rw [HS.out]; exact HP.out⟩
  · have HV : Hid (loadV M who a = 0) := Lib.hid (if_neg h)
    have HS : Hid (lookS M who 0 a = M) := Lib.hid (if_neg h)
    rw [show mayB M who 0 a = false by simpa using h] at HMAY
    clear h
    go_enter Try.func43, Try.ntmps43
    go_wp2_with fail
    go_at_call 63
    refine HMAY.out.mono ?_
    rintro e w1 ⟨rfl, rfl⟩
    go_wp2_with fail
    go_ret
    exact ⟨pint HV.out.symm, by rw [HS.out]; exact ⟨τ, HM.out, Step.refl _ _⟩⟩

/-! ### Store -/
def storeS (M : St) (who a v : Int) : St := if mayB M who 1 a = true then { M.note ⟨who, 1, a, true⟩ with ws := M.ws.set a.toNat v } else M
set_option maxRecDepth 1000000 in
set_option maxHeartbeats 8000000 in
theorem store_any {w : World} {τ : Nat → Nat} {b : Nat} {M : St} (hM : MemAt τ w b M) (hB : Bnd2 M) (who a v : Int) (hw : I64 who) (ha : I64 a) :
    Calls Try.prog 52 #[.pointer (some ⟨b, 0, none⟩), .int .i64 who, .int .i64 a, .int .u64 v] w
      fun e w' => e = .returned (.tuple #[]) ∧ MemP τ w b (storeS M who a v) w' := by
  have HMAY := Lib.hid (may_any hM hB.1 who 1 a (by decide) ha hw)
  have HM := Lib.hid hM
  have HB := Lib.hid hB
  clear hM hB
  by_cases h : mayB M who 1 a = true
  · have HS : Hid (storeS M who a v = { M.note ⟨who, 1, a, true⟩ with ws := M.ws.set a.toNat v }) := Lib.hid (if_pos h)
    obtain ⟨h0, h1, _, _⟩ := mayB_yes h
    obtain ⟨i, x, rfl, hi, hx⟩ := cnt_word 1 (.inr rfl) h0 h1
    rw [show ((i : Int)).toNat = i by omega] at HS
    have HX := Lib.hid hx
    have hl0 : (0 : Int) ≤ (i : Int) := Int.natCast_nonneg _
    have hl1 : (i : Int) < (M.ws.length : Int) := by omega
    rw [h] at HMAY
    clear h h0 h1 hx ha hw
    go_enter Try.func52, Try.ntmps52
    go_wp2_with fail
    go_at_call 63
    refine HMAY.out.mono ?_
    rintro e w1 ⟨rfl, rfl⟩
    go_wp2_with fail
    go_at_call 64
    refine (note_any HM.out HB.out.1 who 1 (i : Int) true).mono ?_
    rintro e w2 ⟨rfl, τ', hM', hS'⟩
    obtain ⟨V, hV⟩ := hM'
    obtain ⟨c0, _, _, _, _, _⟩ := five hV.st
    obtain ⟨g, cap, hv, _, hτ, d0, df⟩ := word_at hV (show (M.note ⟨who, 1, (i : Int), true⟩).ws[i]? = some x from HX.out)
    have df0 := df i
    rw [hv] at c0
    have c0' : w2.cell? ⟨b, 0, none⟩ = some (.slice (some ⟨g, 0, none⟩) M.ws.length cap) := c0
    have hr : Row u64K (w2.setCell ⟨g, i, none⟩ (.int .u64 v)) τ' 2 24 V.vw (M.ws.set i v) := by
      have := hV.ws
      rw [hv] at this ⊢
      exact row_set1 rfl this HX.out rfl
    have HP := Lib.hid (show MemP τ w b { M.note ⟨who, 1, (i : Int), true⟩ with ws := M.ws.set i v } (w2.setCell ⟨g, i, none⟩ (.int .u64 v)) from
      ⟨τ', ⟨V, hV.words (keep_set hτ i _) hr⟩, hS'.trans (step_set (by rw [hτ]; decide) i _)⟩)
    clear hV hv hS' c0 df hr hτ
    go_wp2_with fail
    go_end0
    exact ⟨rfl, by rw [HS.out]; exact HP.out⟩
  · have HS : Hid (storeS M who a v = M) := Lib.hid (if_neg h)
    rw [show mayB M who 1 a = false by simpa using h] at HMAY
    clear h
    go_enter Try.func52, Try.ntmps52
    go_wp2_with fail
    go_at_call 63
    refine HMAY.out.mono ?_
    rintro e w1 ⟨rfl, rfl⟩
    go_wp2_with fail
    go_end0
    exact ⟨rfl, by rw [HS.out]; exact ⟨τ, HM.out, Step.refl _ _⟩⟩

/-! ### Get -/
def getV (M : St) (who a : Int) : List Batch.Ch := if mayB M who 2 a = true then M.bs.getD a.toNat [] else []
theorem row_sl {w : World} {τ : Nat → Nat} {t : Nat} {T : TypeId} {v : Value} {l : List Batch.Ch} (h : Row chK w τ t T v l) (hw : ∀ x ∈ l, x.Wf) : Batch.Sl w v l := Batch.Own.sl (show Batch.Own w 0 T v l from h.1) hw
set_option maxRecDepth 1000000 in
set_option maxHeartbeats 8000000 in
theorem get_any {w : World} {τ : Nat → Nat} {b : Nat} {M : St} (hM : MemAt τ w b M) (hB : Bnd2 M) (who a : Int) (hw : I64 who) (ha : I64 a) :
    Calls Try.prog 50 #[.pointer (some ⟨b, 0, none⟩), .int .i64 who, .int .i64 a] w
      fun e w' => ∃ v, e = .returned v ∧ Batch.Own w' w.heap.size 58 v (getV M who a) ∧ MemP τ w b (lookS M who 2 a) w' := by
  have HMAY := Lib.hid (may_any hM hB.1 who 2 a (by decide) ha hw)
  have HM := Lib.hid hM
  have HB := Lib.hid hB
  clear hM hB
  by_cases h : mayB M who 2 a = true
  · have HV : Hid (getV M who a = M.bs.getD a.toNat []) := Lib.hid (if_pos h)
    have HS : Hid (lookS M who 2 a = M.note ⟨who, 2, a, true⟩) := Lib.hid (if_pos h)
    obtain ⟨h0, h1, _, _⟩ := mayB_yes h
    obtain ⟨i, l, rfl, hi, hx⟩ := cnt_box 2 (.inl rfl) h0 h1
    have HX := Lib.hid hx
    have HL := Lib.hid (HB.out.2 l (List.mem_of_getElem? hx))
    have hl0 : (0 : Int) ≤ (i : Int) := Int.natCast_nonneg _
    have hl1 : (i : Int) < (M.bs.length : Int) := by omega
    rw [h] at HMAY
    clear h h0 h1 hx ha hw
    go_enter Try.func50, Try.ntmps50
    go_wp2_with fail
    go_at_call 63
    refine HMAY.out.mono ?_
    rintro e w1 ⟨rfl, rfl⟩
    go_wp2_with fail
    go_at_call 64
    refine (note_any HM.out HB.out.1 who 2 (i : Int) true).mono ?_
    rintro e w2 ⟨rfl, τ', hM', hS'⟩
    have HM2 := Lib.hid hM'
    have HS2 := Lib.hid hS'
    obtain ⟨V, hV⟩ := hM'
    obtain ⟨_, c1, _, _, _, _⟩ := five hV.st
    obtain ⟨g, cap, s, hv, _, _, _, d0, _, hrow⟩ := box_at hV (show (M.note ⟨who, 2, (i : Int), true⟩).bs[i]? = some l from HX.out)
    rw [hv] at c1
    have c1' : w2.cell? ⟨b, 1, none⟩ = some (.slice (some ⟨g, 0, none⟩) M.bs.length cap) := c1
    have HC := Lib.hid (Batch.cloneB_any (row_sl hrow HL.out.2) (by have := HL.out.1; omega))
    have d0' : w2.cell? ⟨g, i, none⟩ = some (.slice s.ao s.n s.c) := d0
    have HC' : Hid (Calls Try.prog 38 #[.slice s.ao s.n s.c] w2 fun e w' => ∃ v', e = .returned v' ∧ Batch.Own w' w2.heap.size 58 v' l ∧ Below w2.heap.size w2 w') := HC
    clear hV hv hS' c1 hrow d0 HC
    go_wp2_with fail
    go_at_call 38
    refine HC'.out.mono ?_
    rintro e w3 ⟨v', rfl, ho, hb⟩
    have HO := Lib.hid ho
    have HP := Lib.hid (show MemP τ w b (M.note ⟨who, 2, (i : Int), true⟩) w3 from ⟨τ', HM2.out.below hb, HS2.out.trans (Step.of_below hb)⟩)
    clear ho hb
    go_wp2_with fail
    go_ret
    exact ⟨_, rfl, by
      rw [HV.out, show ((i : Int)).toNat = i by omega, List.getD_eq_getElem?_getD, HX.out]
      exact Batch.Own.mono HO.out HS2.out.bel.size, by rw [HS.out]; exact HP.out⟩
  · have HV : Hid (getV M who a = []) := Lib.hid (if_neg h)
    have HS : Hid (lookS M who 2 a = M) := Lib.hid (if_neg h)
    rw [show mayB M who 2 a = false by simpa using h] at HMAY
    clear h
    go_enter Try.func50, Try.ntmps50
    go_wp2_with fail
    go_at_call 63
    refine HMAY.out.mono ?_
    rintro e w1 ⟨rfl, rfl⟩
    go_wp2_with fail
    go_ret
    exact ⟨_, rfl, by rw [HV.out]; exact Batch.Own.nil _ _ _, by rw [HS.out]; exact ⟨τ, HM.out, Step.refl _ _⟩⟩
end Go.Proofs.Ytmggnalobfihnaa.Mm
