/-
  PACKAGE mem: Take, Free (release).
-/
import Derived.Test.YtmggnalobfihnaaMemWord
import Derived.BigRegion
import Derived.RegionTactic
import Derived.Deep.CutBlock
import Derived.Deep.CutRange
namespace Go.Proofs.Ytmggnalobfihnaa.Mm
open Go.RowKit Rw Pk Go.Maps
set_option linter.unusedVariables false

theorem flat_setc {α : Type} {S : Kd α} {l : List α} {i c : Nat} {x y : α} {u : Value} (h : l[i]? = some x) (hc : c < S.k) (hy : S.cells y = (S.cells x).set c u) : S.flat (l.set i y) = (S.flat l).set (i * S.k + c) u := by
  have e : ∀ (z : α) q, S.flat (z :: q) = S.cells z ++ S.flat q := fun _ _ => rfl
  induction l generalizing i with
  | nil => simp at h
  | cons z r ih =>
    cases i with
    | zero =>
      simp at h
      subst h
      rw [List.set_cons_zero, e, e, hy, List.set_append_left _ _ (by rw [S.len]; omega), Nat.zero_mul, Nat.zero_add]
    | succ j =>
      rw [List.set_cons_succ, e, e, ih (by simpa using h), List.set_append_right _ _ (by rw [S.len, Nat.succ_mul]; omega), S.len, show (j + 1) * S.k + c - S.k = j * S.k + c by rw [Nat.succ_mul]; omega]
theorem row_setc {α : Type} {S : Kd α} {w : World} {τ : Nat → Nat} {t g n cap : Nat} {T : TypeId} {l : List α} (h : Row S w τ t T (.slice (some ⟨g, 0, none⟩) n cap) l) {i c : Nat} {x y : α} {u : Value} (hx : l[i]? = some x) (hc : c < S.k) (hy : S.cells y = (S.cells x).set c u) :
    Row S (w.setCell ⟨g, i * S.k + c, none⟩ u) τ t T (.slice (some ⟨g, 0, none⟩) n cap) (l.set i y) := by
  refine ⟨?_, h.2⟩
  have hl := (List.getElem?_eq_some_iff.1 hx).1
  unfold Own
  rw [List.length_set, flat_setc hx hc hy]
  exact row_set h.1 (by have : (i + 1) * S.k ≤ l.length * S.k := Nat.mul_le_mul_right _ hl; rw [Nat.succ_mul] at this; omega) _
theorem Keep.mono {τ : Nat → Nat} {q q' : Nat → Prop} {w w' : World} (h : Keep τ q w w') (hq : ∀ t, q t → q' t) : Keep τ q' w w' := ⟨h.1, fun i hi h0 hn => h.2 i hi h0 (fun h => hn (hq _ h))⟩
theorem Keep.trans {τ : Nat → Nat} {q : Nat → Prop} {w w' w'' : World} (h : Keep τ q w w') (k : Keep τ q w' w'') : Keep τ q w w'' := ⟨Nat.le_trans h.1 k.1, fun i hi h0 hn => (k.2 i (Nat.lt_of_lt_of_le hi h.1) h0 hn).trans (h.2 i hi h0 hn)⟩
def latA (M : St) (a : Int) : La := M.ls.getD a.toNat ⟨false, 0, []⟩
theorem latA_of {M : St} {i : Nat} {L : La} (h : M.ls[i]? = some L) : latA M (i : Int) = L := by unfold latA; rw [show ((i : Int)).toNat = i by omega, List.getD_eq_getElem?_getD, h]; rfl
/-- A latch's first two cells are others. -/
theorem lat_step {τ : Nat → Nat} {w w' : World} {b : Nat} {M : St} {V : Vs} (hV : MemIs τ w b M V) {i g n cap : Nat} {L : La} {s : Sv} (hL : M.ls[i]? = some L) (hv : V.vl = .slice (some ⟨g, 0, none⟩) n cap) (hg : τ g = 4) (hx : V.lv[i]? = some ⟨L.tk, L.wh, s⟩) (tk : Bool) (wh : Int)
    (hw : w' = (w.setCell ⟨g, i * 3, none⟩ (.bool tk)).setCell ⟨g, i * 3 + 1, none⟩ (.int .i64 wh) ∨ w' = (w.setCell ⟨g, i * 3 + 1, none⟩ (.int .i64 wh)).setCell ⟨g, i * 3, none⟩ (.bool tk)) :
    MemP τ w b { M with ls := M.ls.set i ⟨tk, wh, L.sl⟩ } w' := by
  have hil := (List.getElem?_eq_some_iff.1 hL).1
  have hrow := hV.ls
  rw [hv] at hrow
  have hlv := (List.getElem?_eq_some_iff.1 hx).1
  have hrs := (hV.le i _ L hx hL).2.2
  have h4 : ∀ t, (fun q => q = 4) t → (fun q => q = 4 ∨ q = 8 + i) t := fun t h => .inl h
  rcases hw with rfl | rfl
  · have h1 := row_setc (c := 0) (u := .bool tk) (y := ⟨tk, L.wh, s⟩) hrow hx (by decide) rfl
    have h2 := row_setc (c := 1) (u := .int .i64 wh) (y := ⟨tk, wh, s⟩) h1 (List.getElem?_set_self hlv) (by decide) rfl
    rw [List.set_set] at h2
    have hk := ((keep_set hg (i * 3 + 0) (.bool tk) (w := w)).mono h4).trans ((keep_set hg (i * 3 + 1) (.int .i64 wh)).mono h4)
    refine ⟨τ, ⟨_, hV.lat (x := ⟨tk, wh, s⟩) hil hk (ext_refl _ _) (by rw [hv]; exact h2) ⟨rfl, rfl, hrs.keep (q := fun q => q = 4) ((keep_set hg (i * 3 + 0) (.bool tk) (w := w)).trans (keep_set hg (i * 3 + 1) (.int .i64 wh))) (ext_refl _ _) (by omega) (by omega)⟩ fun j hj => ?_⟩, (step_set (by rw [hg]; decide) (i * 3 + 0) (.bool tk)).trans (step_set (by rw [hg]; decide) (i * 3 + 1) (.int .i64 wh))⟩
    rw [size_setCell, size_setCell]
    exact hV.tz j hj
  · have h1 := row_setc (c := 1) (u := .int .i64 wh) (y := ⟨L.tk, wh, s⟩) hrow hx (by decide) rfl
    have h2 := row_setc (c := 0) (u := .bool tk) (y := ⟨tk, wh, s⟩) h1 (List.getElem?_set_self hlv) (by decide) rfl
    rw [List.set_set] at h2
    have hk := ((keep_set hg (i * 3 + 1) (.int .i64 wh) (w := w)).mono h4).trans ((keep_set hg (i * 3 + 0) (.bool tk)).mono h4)
    refine ⟨τ, ⟨_, hV.lat (x := ⟨tk, wh, s⟩) hil hk (ext_refl _ _) (by rw [hv]; exact h2) ⟨rfl, rfl, hrs.keep (q := fun q => q = 4) ((keep_set hg (i * 3 + 1) (.int .i64 wh) (w := w)).trans (keep_set hg (i * 3 + 0) (.bool tk))) (ext_refl _ _) (by omega) (by omega)⟩ fun j hj => ?_⟩, (step_set (by rw [hg]; decide) (i * 3 + 1) (.int .i64 wh)).trans (step_set (by rw [hg]; decide) (i * 3 + 0) (.bool tk))⟩
    rw [size_setCell, size_setCell]
    exact hV.tz j hj
theorem MemP.trans {τ τ' : Nat → Nat} {w w' w'' : World} {b : Nat} {M : St} (hs : Step τ τ' w w') (h : MemP τ' w' b M w'') : MemP τ w b M w'' := by obtain ⟨t, h1, h2⟩ := h; exact ⟨t, h1, hs.trans h2⟩
theorem MemP.drew {τ : Nat → Nat} {w w' : World} {b : Nat} {M : St} (h : MemP τ w b M w') : MemP τ w b M w'.drew := by
  obtain ⟨t, h1, h2⟩ := h
  exact ⟨t, h1.below (Below.refl _ _).drew, h2.trans (Step.of_below (Below.refl _ _).drew)⟩
theorem MemP.draws {τ : Nat → Nat} {w w' : World} {b : Nat} {M : St} (h : MemP τ w b M w') (n : Nat) : MemP τ w b M (w'.drewN n) := by
  obtain ⟨t, h1, h2⟩ := h
  exact ⟨t, h1.draw n, h2.trans (Step.of_below (below_drewN (Below.refl _ _) n))⟩
/-- One cell: is it taken? -/
theorem lat_step1 {τ : Nat → Nat} {w : World} {b : Nat} {M : St} {V : Vs} (hV : MemIs τ w b M V) {i g n cap : Nat} {L : La} {s : Sv} (hL : M.ls[i]? = some L) (hv : V.vl = .slice (some ⟨g, 0, none⟩) n cap) (hg : τ g = 4) (hx : V.lv[i]? = some ⟨L.tk, L.wh, s⟩) (tk : Bool) :
    MemP τ w b { M with ls := M.ls.set i ⟨tk, L.wh, L.sl⟩ } (w.setCell ⟨g, i * 3, none⟩ (.bool tk)) := by
  have hil := (List.getElem?_eq_some_iff.1 hL).1
  have hrow := hV.ls
  rw [hv] at hrow
  have hrs := (hV.le i _ L hx hL).2.2
  have h1 := row_setc (c := 0) (u := .bool tk) (y := ⟨tk, L.wh, s⟩) hrow hx (by decide) rfl
  refine ⟨τ, ⟨_, hV.lat (x := ⟨tk, L.wh, s⟩) hil ((keep_set hg (i * 3 + 0) (.bool tk) (w := w)).mono fun t h => .inl h) (ext_refl _ _) (by rw [hv]; exact h1) ⟨rfl, rfl, hrs.keep (keep_set hg (i * 3 + 0) (.bool tk) (w := w)) (ext_refl _ _) (by omega) (by omega)⟩ fun j hj => ?_⟩, step_set (by rw [hg]; decide) (i * 3 + 0) (.bool tk)⟩
  rw [size_setCell]
  exact hV.tz j hj

/-! ### Take -/
def takeV (M : St) (who a : Int) : Bool := mayB M who 4 a && !(latA M a).tk
def takeS (M : St) (who a : Int) : St := if mayB M who 4 a = true then (if (latA M a).tk = true then M.note ⟨who, 4, a, false⟩ else { M.note ⟨who, 4, a, true⟩ with ls := M.ls.set a.toNat ⟨true, who, (latA M a).sl⟩ }) else M
set_option maxRecDepth 1000000 in
set_option maxHeartbeats 8000000 in
theorem take_any {w : World} {τ : Nat → Nat} {b : Nat} {M : St} (hM : MemAt τ w b M) (hB : Bnd2 M) (who a : Int) (hw : I64 who) (ha : I64 a) :
    Calls Try.prog 48 #[.pointer (some ⟨b, 0, none⟩), .int .i64 who, .int .i64 a] w
      fun e w' => e = .returned (.bool (takeV M who a)) ∧ MemP τ w b (takeS M who a) w' := by
  have HMAY := Lib.hid (may_any hM hB.1 who 4 a (by decide) ha hw)
  have HM := Lib.hid hM
  have HB := Lib.hid hB
  clear hM hB
  by_cases h : mayB M who 4 a = true
  · obtain ⟨h0, h1, _, _⟩ := mayB_yes h
    obtain ⟨i, L, rfl, hi, hx⟩ := cnt_lat 4 (by decide) h0 h1
    have hla := latA_of hx
    have HV : Hid (takeV M who (i : Int) = !L.tk) := Lib.hid (by unfold takeV; rw [h, hla]; rfl)
    have HS : Hid (takeS M who (i : Int) = if L.tk = true then M.note ⟨who, 4, (i : Int), false⟩ else { M.note ⟨who, 4, (i : Int), true⟩ with ls := M.ls.set i ⟨true, who, L.sl⟩ }) := Lib.hid (by unfold takeS; rw [if_pos h, hla, show ((i : Int)).toNat = i by omega])
    have HX := Lib.hid hx
    have hl0 : (0 : Int) ≤ (i : Int) := Int.natCast_nonneg _
    have hl1 : (i : Int) < (M.ls.length : Int) := by omega
    obtain ⟨V0, hV0⟩ := HM.out
    obtain ⟨_, _, c2, _, _, _⟩ := five hV0.st
    obtain ⟨g0, cap0, s0, hv0, _, _, _, e0, _, _, _, _⟩ := la_at hV0 hx
    rw [hv0] at c2
    rw [h] at HMAY
    have hlen := HB.out.1.2.2.1
    obtain ⟨tk, wh, sl⟩ := L
    simp only at e0
    clear h h0 h1 hx ha hw hV0 hv0 hla
    cases tk
    · go_enter Try.func48, Try.ntmps48
      go_wp2_with fail
      go_at_call 63
      refine HMAY.out.mono ?_
      rintro e w1 ⟨rfl, rfl⟩
      go_wp2_with fail
      clear c2 e0
      go_at_call 64
      refine (note_any HM.out HB.out.1 who 4 (i : Int) true).mono ?_
      rintro e w2 ⟨rfl, τ', hM', hS'⟩
      obtain ⟨V, hV⟩ := hM'
      obtain ⟨_, _, c2, _, _, _⟩ := five hV.st
      obtain ⟨g, cap, s, hv, hlv, _, hτ, d0, d1, _, df, _⟩ := la_at hV (show (M.note ⟨who, 4, (i : Int), true⟩).ls[i]? = some ⟨false, wh, sl⟩ from HX.out)
      rw [hv] at c2
      have c2' : w2.cell? ⟨b, 2, none⟩ = some (.slice (some ⟨g, 0, none⟩) M.ls.length cap) := c2
      have df0 := df (i * 3)
      have df1 := df (i * 3 + 1)
      have hgb : g ≠ b := fun h => by rw [h, hV.tb] at hτ; cases hτ
      have hbg : b ≠ g := fun h => hgb h.symm
      have HP : ∀ w', (w' = (w2.setCell ⟨g, i * 3, none⟩ (.bool true)).setCell ⟨g, i * 3 + 1, none⟩ (.int .i64 who) ∨ w' = (w2.setCell ⟨g, i * 3 + 1, none⟩ (.int .i64 who)).setCell ⟨g, i * 3, none⟩ (.bool true)) → Hid (MemP τ w b { M.note ⟨who, 4, (i : Int), true⟩ with ls := M.ls.set i ⟨true, who, sl⟩ } w') :=
        fun w' h => Lib.hid ((lat_step hV HX.out hv hτ hlv true who h).trans hS')
      have HPP := Lib.hid HP
      clear hV hv hS' c2 df hτ hlv HP
      go_wp2_with fail
      go_region
      go_wp2_with fail
      go_ret
      exact ⟨pbool HV.out.symm, by rw [HS.out]; exact (HPP.out _ (.inl rfl)).out.drew⟩
    · go_enter Try.func48, Try.ntmps48
      go_wp2_with fail
      go_at_call 63
      refine HMAY.out.mono ?_
      rintro e w1 ⟨rfl, rfl⟩
      go_wp2_with fail
      clear c2 e0
      go_at_call 64
      refine (note_any HM.out HB.out.1 who 4 (i : Int) false).mono ?_
      rintro e w2 ⟨rfl, τ', hM', hS'⟩
      have HP := Lib.hid (show MemP τ w b (M.note ⟨who, 4, (i : Int), false⟩) w2 from ⟨τ', hM', hS'⟩)
      clear hM' hS'
      go_wp2_with fail
      go_ret
      exact ⟨pbool HV.out.symm, by rw [HS.out]; exact HP.out⟩
  · have HV : Hid (takeV M who a = false) := Lib.hid (by unfold takeV; rw [show mayB M who 4 a = false by simpa using h]; rfl)
    have HS : Hid (takeS M who a = M) := Lib.hid (if_neg h)
    rw [show mayB M who 4 a = false by simpa using h] at HMAY
    clear h
    go_enter Try.func48, Try.ntmps48
    go_wp2_with fail
    go_at_call 63
    refine HMAY.out.mono ?_
    rintro e w1 ⟨rfl, rfl⟩
    go_wp2_with fail
    go_ret
    exact ⟨pbool HV.out.symm, by rw [HS.out]; exact ⟨τ, HM.out, Step.refl _ _⟩⟩

/-! ### Free, and what Sleep does first -/
def relV (M : St) (who k a : Int) : Bool := mayB M who k a && hasB M who (latA M a)
def relS (M : St) (who k a : Int) : St := if mayB M who k a = true then (if hasB M who (latA M a) = true then { M.note ⟨who, k, a, true⟩ with ls := M.ls.set a.toNat ⟨false, (latA M a).wh, (latA M a).sl⟩ } else M.note ⟨who, k, a, false⟩) else M
set_option maxRecDepth 1000000 in
set_option maxHeartbeats 8000000 in
theorem release_any {w : World} {τ : Nat → Nat} {b : Nat} {M : St} (hM : MemAt τ w b M) (hB : Bnd2 M) (who k a : Int) (hk4 : 4 ≤ k) (hk7 : k ≤ 7) (hw : I64 who) (ha : I64 a) :
    Calls Try.prog 67 #[.pointer (some ⟨b, 0, none⟩), .int .i64 who, .int .i64 k, .int .i64 a] w
      fun e w' => e = .returned (.bool (relV M who k a)) ∧ MemP τ w b (relS M who k a) w' := by
  have HMAY := Lib.hid (may_any hM hB.1 who k a ⟨by omega, hk7⟩ ha hw)
  have HM := Lib.hid hM
  have HB := Lib.hid hB
  clear hM hB
  by_cases h : mayB M who k a = true
  · obtain ⟨h0, h1, _, _⟩ := mayB_yes h
    obtain ⟨i, L, rfl, hi, hx⟩ := cnt_lat k hk4 h0 h1
    have hla := latA_of hx
    have HV : Hid (relV M who k (i : Int) = hasB M who L) := Lib.hid (by unfold relV; rw [h, hla]; rfl)
    have HS : Hid (relS M who k (i : Int) = if hasB M who L = true then { M.note ⟨who, k, (i : Int), true⟩ with ls := M.ls.set i ⟨false, L.wh, L.sl⟩ } else M.note ⟨who, k, (i : Int), false⟩) := Lib.hid (by unfold relS; rw [if_pos h, hla, show ((i : Int)).toNat = i by omega])
    have HX := Lib.hid hx
    have hl0 : (0 : Int) ≤ (i : Int) := Int.natCast_nonneg _
    have hl1 : (i : Int) < (M.ls.length : Int) := by omega
    have hlen := HB.out.1.2.2.1
    have HHAS := Lib.hid (has_any HM.out HB.out.1 who hx)
    rw [h] at HMAY
    clear h h0 h1 hx ha hw hla
    by_cases hh : hasB M who L = true
    · rw [hh] at HHAS HV HS
      rw [if_pos rfl] at HS
      clear hh
      go_enter Try.func67, Try.ntmps67
      go_wp2_with fail
      go_at_call 63
      refine HMAY.out.mono ?_
      rintro e w1 ⟨rfl, rfl⟩
      go_wp2_with fail
      go_at_call 72
      refine HHAS.out.mono ?_
      rintro e w1 ⟨rfl, rfl⟩
      go_wp2_with fail
      go_at_call 64
      refine (note_any HM.out HB.out.1 who k (i : Int) true).mono ?_
      rintro e w2 ⟨rfl, τ', hM', hS'⟩
      obtain ⟨V, hV⟩ := hM'
      obtain ⟨_, _, c2, _, _, _⟩ := five hV.st
      obtain ⟨g, cap, s, hv, hlv, _, hτ, d0, _, _, df, _⟩ := la_at hV (show (M.note ⟨who, k, (i : Int), true⟩).ls[i]? = some L from HX.out)
      rw [hv] at c2
      have c2' : w2.cell? ⟨b, 2, none⟩ = some (.slice (some ⟨g, 0, none⟩) M.ls.length cap) := c2
      have df0 := df (i * 3)
      have HP := Lib.hid ((lat_step1 hV HX.out hv hτ hlv false).trans hS')
      clear hV hv hS' c2 df hτ hlv
      go_wp2_with fail
      go_ret
      exact ⟨pbool HV.out.symm, by rw [HS.out]; exact HP.out⟩
    · rw [show hasB M who L = false by simpa using hh] at HHAS HV HS
      rw [if_neg (by decide)] at HS
      clear hh
      go_enter Try.func67, Try.ntmps67
      go_wp2_with fail
      go_at_call 63
      refine HMAY.out.mono ?_
      rintro e w1 ⟨rfl, rfl⟩
      go_wp2_with fail
      go_at_call 72
      refine HHAS.out.mono ?_
      rintro e w1 ⟨rfl, rfl⟩
      go_wp2_with fail
      go_at_call 64
      refine (note_any HM.out HB.out.1 who k (i : Int) false).mono ?_
      rintro e w2 ⟨rfl, τ', hM', hS'⟩
      have HP := Lib.hid (show MemP τ w b (M.note ⟨who, k, (i : Int), false⟩) w2 from ⟨τ', hM', hS'⟩)
      clear hM' hS'
      go_wp2_with fail
      go_ret
      exact ⟨pbool HV.out.symm, by rw [HS.out]; exact HP.out⟩
  · have HV : Hid (relV M who k a = false) := Lib.hid (by unfold relV; rw [show mayB M who k a = false by simpa using h]; rfl)
    have HS : Hid (relS M who k a = M) := Lib.hid (if_neg h)
    rw [show mayB M who k a = false by simpa using h] at HMAY
    clear h
    go_enter Try.func67, Try.ntmps67
    go_wp2_with fail
    go_at_call 63
    refine HMAY.out.mono ?_
    rintro e w1 ⟨rfl, rfl⟩
    go_wp2_with fail
    go_ret
    exact ⟨pbool HV.out.symm, by rw [HS.out]; exact ⟨τ, HM.out, Step.refl _ _⟩⟩
set_option maxRecDepth 1000000 in
theorem free_any {w : World} {τ : Nat → Nat} {b : Nat} {M : St} (hM : MemAt τ w b M) (hB : Bnd2 M) (who a : Int) (hw : I64 who) (ha : I64 a) :
    Calls Try.prog 53 #[.pointer (some ⟨b, 0, none⟩), .int .i64 who, .int .i64 a] w
      fun e w' => e = .returned (.bool (relV M who 5 a)) ∧ MemP τ w b (relS M who 5 a) w' := by
  have HR := Lib.hid (release_any hM hB who 5 a (by decide) (by decide) hw ha)
  clear hM hB
  go_enter Try.func53, Try.ntmps53
  go_wp2_with fail
  go_at_call 67
  refine HR.out.mono ?_
  rintro e w1 ⟨rfl, hp⟩
  have HP := Lib.hid hp
  clear hp
  go_wp2_with fail
  go_ret
  exact ⟨rfl, HP.out⟩
end Go.Proofs.Ytmggnalobfihnaa.Mm
