/-
  PACKAGE mem: one of a Mem's rows is changed in place.
-/
import Derived.Test.YtkeldggdllaheaaMemNote
namespace Go.Proofs.Ytkeldggdllaheaa.Mm
open Go.RowKit Rw Pk Go.Maps
set_option linter.unusedVariables false

theorem size_setCell (w : World) (a : Addr) (u : Value) : (w.setCell a u).heap.size = w.heap.size := by simp [World.setCell]
theorem keep_set {τ : Nat → Nat} {w : World} {g t : Nat} (hg : τ g = t) (o : Nat) (u : Value) : Keep τ (fun q => q = t) w (w.setCell ⟨g, o, none⟩ u) :=
  ⟨by rw [size_setCell]; exact Nat.le_refl _, fun i _ _ hq => Below.heap_setCell _ _ _ _ (fun h => hq (by rw [← hg]; exact congrArg τ h))⟩
theorem step_set {τ : Nat → Nat} {w : World} {g : Nat} (hg : τ g ≠ 0) (o : Nat) (u : Value) : Step τ τ w (w.setCell ⟨g, o, none⟩ u) :=
  ⟨fun _ _ => rfl, (Below.refl 0 w).setCell (Nat.zero_le _) _, fun i _ h0 => Below.heap_setCell _ _ _ _ (fun h => hg (by rw [← h0]; exact (congrArg τ h).symm))⟩
theorem ext_refl (n : Nat) (τ : Nat → Nat) : Ext n τ τ := fun _ _ => rfl
/-- The words. -/
theorem MemIs.words {τ : Nat → Nat} {w w' : World} {b : Nat} {M : St} {V : Vs} (h : MemIs τ w b M V) {ws : List Int} (hk : Keep τ (fun q => q = 2) w w') (hr : Row u64K w' τ 2 23 V.vw ws) : MemIs τ w' b { M with ws := ws } V := by
  have hb := (Array.getElem?_eq_some_iff.1 h.st).1
  have he := ext_refl w.heap.size τ
  refine ⟨(hk.2 b hb (by rw [h.tb]; decide) (by rw [h.tb]; decide)).trans h.st, h.tb, hr, h.bs.keep hk he (by decide) (by decide), h.ls.keep hk he (by decide) (by decide), h.mp.of_block (hk.2 _ h.mp.lt (by rw [h.tm]; decide) (by rw [h.tm]; decide)), h.tm, h.lg.keep hk he (by decide) (by decide), h.bl,
    fun i s l hs hl => (h.be i s l hs hl).keep hk he (by decide) (by decide), h.ll, fun i x L hx hL => ?_, fun i hi => Nat.lt_of_lt_of_le (h.tz i hi) hk.1⟩
  obtain ⟨h1, h2, h3⟩ := h.le i x L hx hL
  exact ⟨h1, h2, h3.keep hk he (by omega) (by omega)⟩
/-- A box; the new one's block is one of those of boxes. -/
theorem MemIs.box {τ τ' : Nat → Nat} {w w' : World} {b : Nat} {M : St} {V : Vs} (h : MemIs τ w b M V) {i : Nat} {s : Sv} {l : List Batch.Ch} (hi : i < M.bs.length) (hk : Keep τ (fun q => q = 3) w w') (he : Ext w.heap.size τ τ')
    (hr : Row svK w' τ' 3 42 V.vb (V.bv.set i s)) (hn : Row chK w' τ' 7 68 s.val l) (hz : ∀ i, τ' i ≠ 0 → i < w'.heap.size) : MemIs τ' w' b { M with bs := M.bs.set i l } { V with bv := V.bv.set i s } := by
  have hb := (Array.getElem?_eq_some_iff.1 h.st).1
  refine ⟨(hk.2 b hb (by rw [h.tb]; decide) (by rw [h.tb]; decide)).trans h.st, by rw [he b hb]; exact h.tb, h.ws.keep hk he (by decide) (by decide), hr, h.ls.keep hk he (by decide) (by decide), h.mp.of_block (hk.2 _ h.mp.lt (by rw [h.tm]; decide) (by rw [h.tm]; decide)), by rw [he _ h.mp.lt]; exact h.tm, h.lg.keep hk he (by decide) (by decide), by simp [h.bl],
    fun j s' l' hs hl => ?_, h.ll, fun i x L hx hL => ?_, hz⟩
  · by_cases e : i = j
    · subst e
      have hs' : some s = some s' := by rw [← hs]; exact (List.getElem?_set_self (by rw [h.bl]; exact hi)).symm
      have hl' : some l = some l' := by rw [← hl]; exact (List.getElem?_set_self hi).symm
      cases hs'
      cases hl'
      exact hn
    · have hs' : V.bv[j]? = some s' := by rw [← hs]; exact (List.getElem?_set_ne e).symm
      have hl' : M.bs[j]? = some l' := by rw [← hl]; exact (List.getElem?_set_ne e).symm
      exact (h.be j s' l' hs' hl').keep hk he (by decide) (by decide)
  · obtain ⟨h1, h2, h3⟩ := h.le i x L hx hL
    exact ⟨h1, h2, h3.keep hk he (by omega) (by omega)⟩
/-- A latch; the sleepers' list may be another one. -/
theorem MemIs.lat {τ τ' : Nat → Nat} {w w' : World} {b : Nat} {M : St} {V : Vs} (h : MemIs τ w b M V) {i : Nat} {x : Lv} {L : La} (hi : i < M.ls.length) (hk : Keep τ (fun q => q = 4 ∨ q = 8 + i) w w') (he : Ext w.heap.size τ τ')
    (hr : Row laK w' τ' 4 93 V.vl (V.lv.set i x)) (hn : x.tk = L.tk ∧ x.wh = L.wh ∧ Row intK w' τ' (8 + i) 3 x.s.val L.sl) (hz : ∀ i, τ' i ≠ 0 → i < w'.heap.size) : MemIs τ' w' b { M with ls := M.ls.set i L } { V with lv := V.lv.set i x } := by
  have hb := (Array.getElem?_eq_some_iff.1 h.st).1
  refine ⟨(hk.2 b hb (by rw [h.tb]; decide) (by rw [h.tb]; omega)).trans h.st, by rw [he b hb]; exact h.tb, h.ws.keep hk he (by decide) (by omega), h.bs.keep hk he (by decide) (by omega), hr, h.mp.of_block (hk.2 _ h.mp.lt (by rw [h.tm]; decide) (by rw [h.tm]; omega)), by rw [he _ h.mp.lt]; exact h.tm, h.lg.keep hk he (by decide) (by omega), h.bl,
    fun j s' l' hs hl => (h.be j s' l' hs hl).keep hk he (by decide) (by omega), by simp [h.ll], fun j y L' hy hL' => ?_, hz⟩
  by_cases e : i = j
  · subst e
    have hs' : some x = some y := by rw [← hy]; exact (List.getElem?_set_self (by rw [h.ll]; exact hi)).symm
    have hl' : some L = some L' := by rw [← hL']; exact (List.getElem?_set_self hi).symm
    cases hs'
    cases hl'
    exact hn
  · have hs' : V.lv[j]? = some y := by rw [← hy]; exact (List.getElem?_set_ne e).symm
    have hl' : M.ls[j]? = some L' := by rw [← hL']; exact (List.getElem?_set_ne e).symm
    obtain ⟨h1, h2, h3⟩ := h.le j y L' hs' hl'
    exact ⟨h1, h2, h3.keep hk he (by omega) (by omega)⟩
/-- Who sleeps. -/
theorem MemIs.sleep {τ : Nat → Nat} {w w' : World} {b : Nat} {M : St} {V : Vs} (h : MemIs τ w b M V) {sp : Int → Bool} {nb : Nat} (hk : Keep τ (fun q => q = 5) w w') (hm : MapAs w' V.mb nb sp) : MemIs τ w' b { M with sp := sp, nb := nb } V := by
  have hb := (Array.getElem?_eq_some_iff.1 h.st).1
  have he := ext_refl w.heap.size τ
  refine ⟨(hk.2 b hb (by rw [h.tb]; decide) (by rw [h.tb]; decide)).trans h.st, h.tb, h.ws.keep hk he (by decide) (by decide), h.bs.keep hk he (by decide) (by decide), h.ls.keep hk he (by decide) (by decide), hm, h.tm, h.lg.keep hk he (by decide) (by decide), h.bl,
    fun i s l hs hl => (h.be i s l hs hl).keep hk he (by decide) (by decide), h.ll, fun i x L hx hL => ?_, fun i hi => Nat.lt_of_lt_of_le (h.tz i hi) hk.1⟩
  obtain ⟨h1, h2, h3⟩ := h.le i x L hx hL
  exact ⟨h1, h2, h3.keep hk he (by omega) (by omega)⟩

/-! ### where things lie -/
theorem row_at {α : Type} {S : Kd α} {w : World} {τ : Nat → Nat} {t : Nat} {T : TypeId} {v : Value} {l : List α} (h : Row S w τ t T v l) {i : Nat} {x : α} (hx : l[i]? = some x) :
    ∃ g cap, v = .slice (some ⟨g, 0, none⟩) l.length cap ∧ g < w.heap.size ∧ τ g = t ∧ AtK S w g (i * S.k) x ∧ (∀ o, w.frozen? ⟨g, o, none⟩ = false) := by
  rcases h.1.form with ⟨h0, _⟩ | ⟨g, cap, hv, _, hg, _⟩
  · rw [h0] at hx; simp at hx
  have ho := h.1
  rw [hv] at ho
  exact ⟨g, cap, hv, hg, h.2 g (by rw [hv]; rfl), ho.at hx, fun o => ho.free o⟩
theorem flat_set1 {α : Type} {S : Kd α} (hk : S.k = 1) {l : List α} {i : Nat} {x y : α} (h : l[i]? = some x) {u : Value} (hu : S.cells y = [u]) : S.flat (l.set i y) = (S.flat l).set i u := by
  have hl := (List.getElem?_eq_some_iff.1 h).1
  have hfl : (S.flat l).length = l.length := by rw [flat_length, hk, Nat.mul_one]
  rw [flat_set h, hu, hk, Nat.mul_one, Nat.mul_one, List.set_eq_take_append_cons_drop, if_pos (by rw [hfl]; exact hl)]
  simp
theorem row_set1 {α : Type} {S : Kd α} (hk : S.k = 1) {w : World} {τ : Nat → Nat} {t g n cap : Nat} {T : TypeId} {l : List α} (h : Row S w τ t T (.slice (some ⟨g, 0, none⟩) n cap) l) {i : Nat} {x y : α} (hx : l[i]? = some x) {u : Value} (hu : S.cells y = [u]) :
    Row S (w.setCell ⟨g, i, none⟩ u) τ t T (.slice (some ⟨g, 0, none⟩) n cap) (l.set i y) := by
  refine ⟨?_, h.2⟩
  have hl := (List.getElem?_eq_some_iff.1 hx).1
  unfold Own
  rw [List.length_set, flat_set1 hk hx hu]
  exact row_set h.1 (by rw [hk]; omega) _
theorem mayB_yes {M : St} {who kind a : Int} (h : mayB M who kind a = true) : 0 ≤ a ∧ a < (cnt M kind : Int) ∧ 0 ≤ who ∧ M.sp who = false := by
  unfold mayB thB at h
  simp only [Bool.and_eq_true, decide_eq_true_eq, Bool.not_eq_true'] at h
  exact ⟨h.1.1, h.1.2, h.2.1, h.2.2⟩
def Bnd2 (M : St) : Prop := Bnd M ∧ ∀ l ∈ M.bs, l.length ≤ 20000 ∧ ∀ x ∈ l, x.Wf
end Go.Proofs.Ytkeldggdllaheaa.Mm
