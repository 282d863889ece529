/-
  PACKAGE ring: nobody meets at a box, whatever turns there are (plain mathematics).
-/
import Derived.Test.YtjmkcgkkgamafaaCkMeet
import Derived.Test.YtjmkcgkkgamafaaRgMath
namespace Go.Proofs.Ytjmkcgkkgamafaa.Rg
open Mm (Ev)
open Ck
set_option linter.unusedVariables false

/-- Whatever who does next comes behind i. -/
def Bef (l : List Ev) (i : Nat) (who : Int) : Prop := ∃ j e, l[j]? = some e ∧ Th e ∧ e.w = who ∧ (i = j ∨ HB l i j)
/-- Whoever loads the word a next comes behind i. -/
def Dn (l : List Ev) (i : Nat) (a : Int) : Prop := ∃ j e, l[j]? = some e ∧ e.k = 1 ∧ e.a = a ∧ (∀ m c, j < m → l[m]? = some c → ¬ (c.k = 1 ∧ c.a = a)) ∧ (i = j ∨ HB l i j)
section
variable {l : List Ev} {e f : Ev} {i j : Nat} {who a : Int}
theorem app_inv (h : (l ++ [e])[i]? = some f) : l[i]? = some f ∨ i = l.length ∧ f = e := by
  by_cases hi : i < l.length
  · rw [List.getElem?_append_left hi] at h; exact .inl h
  · have hlt := (List.getElem?_eq_some_iff.1 h).1
    simp at hlt
    have hi' : i = l.length := by omega
    subst hi'
    simp at h
    exact .inr ⟨rfl, h.symm⟩
theorem app_old (h : l[i]? = some f) : (l ++ [e])[i]? = some f := by
  rw [List.getElem?_append_left (List.getElem?_eq_some_iff.1 h).1]; exact h
theorem app_new : (l ++ [e])[l.length]? = some e := by simp
theorem HB.ltl (h : HB l i j) : j < l.length := by
  obtain ⟨a, b, _, hb, _⟩ := h.th
  exact (List.getElem?_eq_some_iff.1 hb).1
theorem hb_app (h : HB l i j) : HB (l ++ [e]) i j := by
  have := (hb_sub (l := l ++ [e]) (m := l) (s := 0) (fun i hi => by rw [Nat.zero_add, List.getElem?_append_left hi]) (HB.ltl h)).1 h
  simpa using this
theorem Bef.app (h : Bef l i who) : Bef (l ++ [e]) i who := by
  obtain ⟨j, f, h1, h2, h3, h4⟩ := h
  exact ⟨j, f, app_old h1, h2, h3, h4.imp id hb_app⟩
theorem Dn.app (h : Dn l i a) (hn : ¬ (e.k = 1 ∧ e.a = a)) : Dn (l ++ [e]) i a := by
  obtain ⟨j, f, h1, h2, h3, h4, h5⟩ := h
  refine ⟨j, f, app_old h1, h2, h3, fun m c hm hc => ?_, h5.imp id hb_app⟩
  rcases app_inv hc with hc | ⟨_, rfl⟩
  · exact h4 m c hm hc
  · exact hn
theorem Bef.hb (h : Bef l i who) (hw : e.w = who) (ht : Th e) : HB (l ++ [e]) i l.length := by
  obtain ⟨j, f, h1, h2, h3, h4⟩ := h
  have hj := (List.getElem?_eq_some_iff.1 h1).1
  have hs : StepP (l ++ [e]) j l.length := step_who hj (app_old h1) app_new h2 ht (h3.trans hw.symm)
  rcases h4 with rfl | h4
  · exact .one hs
  · exact .more (hb_app h4) hs
theorem bef_own (h : l[i]? = some f) (ht : Th f) : Bef l i f.w := ⟨i, f, h, ht, rfl, .inl rfl⟩
theorem bef_new (ht : Th e) : Bef (l ++ [e]) l.length e.w := bef_own app_new ht
theorem load_bef (h : Dn l i a) (hk : e.k = 0) (ha : e.a = a) : Bef (l ++ [e]) i e.w := by
  obtain ⟨j, f, h1, h2, h3, h4, h5⟩ := h
  have hj := (List.getElem?_eq_some_iff.1 h1).1
  have te : Th e := ⟨by omega, by omega⟩
  have hs : StepP (l ++ [e]) j l.length := ⟨hj, f, e, app_old h1, app_new, ⟨by omega, by omega⟩, te, .inr ⟨h3.trans ha.symm, .inl ⟨h2, hk, fun m c m1 m2 hc => by
    rw [List.getElem?_append_left m2] at hc
    rw [h3]
    exact h4 m c m1 hc⟩⟩⟩
  refine ⟨l.length, e, app_new, te, rfl, .inr ?_⟩
  rcases h5 with rfl | h5
  · exact .one hs
  · exact .more (hb_app h5) hs
theorem store_dn (h : Bef l i e.w) (hk : e.k = 1) (ha : e.a = a) : Dn (l ++ [e]) i a := by
  refine ⟨l.length, e, app_new, hk, ha, fun m c hm hc => ?_, .inr (h.hb rfl ⟨by omega, by omega⟩)⟩
  have := (List.getElem?_eq_some_iff.1 hc).1
  simp at this
  omega
theorem meets_app (h : ∀ i k, ¬ Meets l i k) (hb : (e.k = 2 ∨ e.k = 3) → ∀ i f, l[i]? = some f → (f.k = 2 ∨ f.k = 3) → f.a = e.a → f.w ≠ e.w → HB (l ++ [e]) i l.length) : ∀ i k, ¬ Meets (l ++ [e]) i k := by
  rintro i k ⟨hik, a, f, ha, hf, q1, q2, q3, q4, q5, q6⟩
  rcases app_inv hf with hf | ⟨rfl, rfl⟩
  · have hk := (List.getElem?_eq_some_iff.1 hf).1
    rcases app_inv ha with ha | ⟨rfl, _⟩
    · exact h i k ⟨hik, a, f, ha, hf, q1, q2, q3, q4, q5, fun hh => q6 (hb_app hh)⟩
    · omega
  · rcases app_inv ha with ha | ⟨rfl, _⟩
    · exact q6 (hb q2 i a ha q1 q3 q4)
    · omega
end
/-- pu, po: how many were pushed, popped; s, t: how many accesses the act of either end has made; x: what the pusher saw of the second word. -/
structure Rc (N pu po s t x : Nat) (l : List Ev) : Prop where
  th : ∀ (i : Nat) (e : Ev), l[i]? = some e → Th e ∧ (e.w = 0 ∨ e.w = 1)
  no : ∀ i k : Nat, ¬ Meets l i k
  pb : ∀ (i : Nat) (e : Ev), l[i]? = some e → (e.k = 2 ∨ e.k = 3) → e.w = 0 → ∃ m : Nat, e.a = 1 + (m : Int) % (N : Int) ∧ (m < pu ∧ Dn l i 1 ∨ m = pu ∧ s = 3) ∧ (m < po ∨ m ≤ po ∧ 2 ≤ t → Bef l i 1)
  qb : ∀ (i : Nat) (e : Ev), l[i]? = some e → (e.k = 2 ∨ e.k = 3) → e.w = 1 → ∃ n : Nat, e.a = 1 + (n : Int) % (N : Int) ∧ (n < po ∧ Dn l i 2 ∨ n = po ∧ 3 ≤ t) ∧ (2 ≤ s → n < x → Bef l i 0)
section
variable {N pu po s t x : Nat} {l : List Ev}
theorem rc_nil (N : Nat) : Rc N 0 0 0 0 0 [] := ⟨by simp, by rintro i k ⟨_, a, _, ha, _⟩; simp at ha, by simp, by simp⟩
theorem box_eq {m n : Nat} (h : 1 + (m : Int) % (N : Int) = 1 + (n : Int) % (N : Int)) : m % N = n % N := by
  rw [box_nat, box_nat] at h
  omega
theorem Rc.pushN (h : Rc N pu po s t x l) (hs : s ≠ 3) : Rc N pu po 0 t x l :=
  ⟨h.th, h.no, fun i e he hk hw => by
    obtain ⟨m, h1, h2, h3⟩ := h.pb i e he hk hw
    exact ⟨m, h1, .inl (h2.elim id (fun h2 => absurd h2.2 hs)), h3⟩, fun i e he hk hw => by
    obtain ⟨n, h1, h2, h3⟩ := h.qb i e he hk hw
    exact ⟨n, h1, h2, by omega⟩⟩
theorem Rc.popN (h : Rc N pu po s t x l) (ht : t < 3) : Rc N pu po s 0 x l :=
  ⟨h.th, h.no, fun i e he hk hw => by
    obtain ⟨m, h1, h2, h3⟩ := h.pb i e he hk hw
    exact ⟨m, h1, h2, fun h => h3 (by omega)⟩, fun i e he hk hw => by
    obtain ⟨n, h1, h2, h3⟩ := h.qb i e he hk hw
    exact ⟨n, h1, .inl (h2.elim id (fun h2 => absurd h2.2 (by omega))), h3⟩⟩
theorem Rc.load (h : Rc N pu po s t x l) {w a : Int} (hw : w = 0 ∨ w = 1) : Rc N pu po s t x (l ++ [⟨w, 0, a, true⟩]) := by
  refine ⟨fun i e he => ?_, meets_app h.no (fun hk => by simp at hk), fun i e he hk hw => ?_, fun i e he hk hw => ?_⟩
  · rcases app_inv he with he | ⟨_, rfl⟩
    · exact h.th i e he
    · exact ⟨⟨by simp, by simp⟩, hw⟩
  · rcases app_inv he with he | ⟨_, rfl⟩
    · obtain ⟨m, h1, h2, h3⟩ := h.pb i e he hk hw
      exact ⟨m, h1, h2.imp (fun h => ⟨h.1, h.2.app (by simp)⟩) id, fun h => (h3 h).app⟩
    · simp at hk
  · rcases app_inv he with he | ⟨_, rfl⟩
    · obtain ⟨n, h1, h2, h3⟩ := h.qb i e he hk hw
      exact ⟨n, h1, h2.imp (fun h => ⟨h.1, h.2.app (by simp)⟩) id, fun h h' => (h3 h h').app⟩
    · simp at hk
theorem Rc.push1 (h : Rc N pu po 0 t x l) : Rc N pu po 1 t x (l ++ [⟨0, 0, 1, true⟩]) := by
  have h' := h.load (w := 0) (a := 1) (.inl rfl)
  exact ⟨h'.th, h'.no, fun i e he hk hw => by
    obtain ⟨m, h1, h2, h3⟩ := h'.pb i e he hk hw
    exact ⟨m, h1, .inl (h2.elim id (fun h2 => absurd h2.2 (by decide))), h3⟩, fun i e he hk hw => by
    obtain ⟨n, h1, h2, h3⟩ := h'.qb i e he hk hw
    exact ⟨n, h1, h2, by omega⟩⟩
theorem Rc.push2 (h : Rc N pu po 1 t x l) : Rc N pu po 2 t po (l ++ [⟨0, 0, 2, true⟩]) := by
  have h' := h.load (w := 0) (a := 2) (.inl rfl)
  refine ⟨h'.th, h'.no, fun i e he hk hw => ?_, fun i e he hk hw => ?_⟩
  · obtain ⟨m, h1, h2, h3⟩ := h'.pb i e he hk hw
    exact ⟨m, h1, .inl (h2.elim id (fun h2 => absurd h2.2 (by decide))), h3⟩
  · rcases app_inv he with he | ⟨_, rfl⟩
    · obtain ⟨n, h1, h2, h3⟩ := h.qb i e he hk hw
      refine ⟨n, h1, h2.imp (fun h => ⟨h.1, h.2.app (by simp)⟩) id, fun _ hn => ?_⟩
      rcases h2 with h2 | h2
      · exact load_bef (e := ⟨0, 0, 2, true⟩) h2.2 rfl rfl
      · omega
    · simp at hk
theorem Rc.pop1 (h : Rc N pu po s 0 x l) : Rc N pu po s 1 x (l ++ [⟨1, 0, 2, true⟩]) := by
  have h' := h.load (w := 1) (a := 2) (.inr rfl)
  exact ⟨h'.th, h'.no, fun i e he hk hw => by
    obtain ⟨m, h1, h2, h3⟩ := h'.pb i e he hk hw
    exact ⟨m, h1, h2, fun h => h3 (by omega)⟩, fun i e he hk hw => by
    obtain ⟨n, h1, h2, h3⟩ := h'.qb i e he hk hw
    exact ⟨n, h1, .inl (h2.elim id (fun h2 => absurd h2.2 (by decide))), h3⟩⟩
theorem Rc.pop2 (h : Rc N pu po s 1 x l) (hn : po < pu) : Rc N pu po s 2 x (l ++ [⟨1, 0, 1, true⟩]) := by
  have h' := h.load (w := 1) (a := 1) (.inr rfl)
  refine ⟨h'.th, h'.no, fun i e he hk hw => ?_, fun i e he hk hw => ?_⟩
  · rcases app_inv he with he | ⟨_, rfl⟩
    · obtain ⟨m, h1, h2, h3⟩ := h.pb i e he hk hw
      refine ⟨m, h1, h2.imp (fun h => ⟨h.1, h.2.app (by simp)⟩) id, fun hm => ?_⟩
      rcases h2 with h2 | h2
      · exact load_bef (e := ⟨1, 0, 1, true⟩) h2.2 rfl rfl
      · omega
    · simp at hk
  · obtain ⟨n, h1, h2, h3⟩ := h'.qb i e he hk hw
    exact ⟨n, h1, .inl (h2.elim id (fun h2 => absurd h2.2 (by decide))), h3⟩
/-- The pusher sets its box. -/
theorem Rc.push3 (h : Rc N pu po 2 t x l) (hx : x ≤ po ∧ pu < x + N) (hl : po ≤ pu) (ht : 2 ≤ t → po < pu) : Rc N pu po 3 t x (l ++ [⟨0, 3, 1 + (pu : Int) % (N : Int), true⟩]) := by
  have te : Th (⟨0, 3, 1 + (pu : Int) % (N : Int), true⟩ : Ev) := ⟨by simp, by simp⟩
  refine ⟨fun i e he => ?_, meets_app h.no (fun hk i f hf hk' ha hw => ?_), fun i e he hk hw => ?_, fun i e he hk hw => ?_⟩
  · rcases app_inv he with he | ⟨_, rfl⟩
    · exact h.th i e he
    · exact ⟨te, .inl rfl⟩
  · have hw1 : f.w = 1 := (h.th i f hf).2.elim (fun h => absurd h hw) id
    obtain ⟨n, h1, h2, h3⟩ := h.qb i f hf hk' hw1
    have hm : n % N = pu % N := box_eq (h1.symm.trans ha)
    have hn : n < pu := by rcases h2 with h2 | h2 <;> omega
    refine (h3 (Nat.le_refl _) ?_).hb rfl te
    by_cases hc : n < x
    · exact hc
    · exact absurd hm (mod_ne hn (by omega))
  · rcases app_inv he with he | ⟨_, rfl⟩
    · obtain ⟨m, h1, h2, h3⟩ := h.pb i e he hk hw
      exact ⟨m, h1, h2.imp (fun h => ⟨h.1, h.2.app (by simp)⟩) (fun h => ⟨h.1, rfl⟩), fun h => (h3 h).app⟩
    · exact ⟨pu, rfl, .inr ⟨rfl, rfl⟩, fun h => by omega⟩
  · rcases app_inv he with he | ⟨_, rfl⟩
    · obtain ⟨n, h1, h2, h3⟩ := h.qb i e he hk hw
      exact ⟨n, h1, h2.imp (fun h => ⟨h.1, h.2.app (by simp)⟩) id, fun h h' => (h3 (by omega) h').app⟩
    · simp at hw
/-- The push takes effect. -/
theorem Rc.push4 (h : Rc N pu po 3 t x l) : Rc N (pu + 1) po 0 t x (l ++ [⟨0, 1, 1, true⟩]) := by
  refine ⟨fun i e he => ?_, meets_app h.no (fun hk => by simp at hk), fun i e he hk hw => ?_, fun i e he hk hw => ?_⟩
  · rcases app_inv he with he | ⟨_, rfl⟩
    · exact h.th i e he
    · exact ⟨⟨by simp, by simp⟩, .inl rfl⟩
  · rcases app_inv he with he | ⟨_, rfl⟩
    · obtain ⟨m, h1, h2, h3⟩ := h.pb i e he hk hw
      refine ⟨m, h1, .inl ⟨by omega, store_dn (e := ⟨0, 1, 1, true⟩) ?_ rfl rfl⟩, fun h => (h3 h).app⟩
      have := bef_own he (h.th i e he).1
      rw [hw] at this
      exact this
    · simp at hk
  · rcases app_inv he with he | ⟨_, rfl⟩
    · obtain ⟨n, h1, h2, h3⟩ := h.qb i e he hk hw
      exact ⟨n, h1, h2.imp (fun h => ⟨h.1, h.2.app (by simp)⟩) id, by omega⟩
    · simp at hk
/-- The popper goes to its box. -/
theorem Rc.box (h : Rc N pu po s t x l) (ht : 2 ≤ t) (hl : po < pu) (hN : pu ≤ po + N) (hs : 2 ≤ s → x ≤ po ∧ pu < x + N) {k : Int} (hk : k = 2 ∨ k = 3) (t' : Nat) (ht' : 3 ≤ t') : Rc N pu po s t' x (l ++ [⟨1, k, 1 + (po : Int) % (N : Int), true⟩]) := by
  have te : Th (⟨1, k, 1 + (po : Int) % (N : Int), true⟩ : Ev) := ⟨by show 0 ≤ k; omega, by show k ≤ 7; omega⟩
  have hk1 : ¬ k = 1 := by omega
  refine ⟨fun i e he => ?_, meets_app h.no (fun hk i f hf hk' ha hw => ?_), fun i e he hk hw => ?_, fun i e he hk hw => ?_⟩
  · rcases app_inv he with he | ⟨_, rfl⟩
    · exact h.th i e he
    · exact ⟨te, .inr rfl⟩
  · have hw1 : f.w = 0 := (h.th i f hf).2.elim id (fun h => absurd h hw)
    obtain ⟨m, h1, h2, h3⟩ := h.pb i f hf hk' hw1
    have hm : m % N = po % N := box_eq (h1.symm.trans ha)
    refine (h3 (.inr ⟨?_, ht⟩)).hb rfl te
    by_cases hc : m ≤ po
    · exact hc
    · refine absurd hm.symm (mod_ne (by omega) ?_)
      rcases h2 with h2 | ⟨h2, hs3⟩
      · omega
      · have := hs (by omega); omega
  · rcases app_inv he with he | ⟨_, rfl⟩
    · obtain ⟨m, h1, h2, h3⟩ := h.pb i e he hk hw
      exact ⟨m, h1, h2.imp (fun h => ⟨h.1, h.2.app (fun h => hk1 h.1)⟩) id, fun h => (h3 (by omega)).app⟩
    · simp at hw
  · rcases app_inv he with he | ⟨_, rfl⟩
    · obtain ⟨n, h1, h2, h3⟩ := h.qb i e he hk hw
      exact ⟨n, h1, h2.imp (fun h => ⟨h.1, h.2.app (fun h => hk1 h.1)⟩) (fun h => ⟨h.1, ht'⟩), fun h h' => (h3 h h').app⟩
    · exact ⟨po, rfl, .inr ⟨rfl, ht'⟩, fun h h' => by have := hs h; omega⟩
/-- The pop takes effect. -/
theorem Rc.pop5 (h : Rc N pu po s 4 x l) : Rc N pu (po + 1) s 0 x (l ++ [⟨1, 1, 2, true⟩]) := by
  refine ⟨fun i e he => ?_, meets_app h.no (fun hk => by simp at hk), fun i e he hk hw => ?_, fun i e he hk hw => ?_⟩
  · rcases app_inv he with he | ⟨_, rfl⟩
    · exact h.th i e he
    · exact ⟨⟨by simp, by simp⟩, .inr rfl⟩
  · rcases app_inv he with he | ⟨_, rfl⟩
    · obtain ⟨m, h1, h2, h3⟩ := h.pb i e he hk hw
      exact ⟨m, h1, h2.imp (fun h => ⟨h.1, h.2.app (by simp)⟩) id, fun h => (h3 (by omega)).app⟩
    · simp at hk
  · rcases app_inv he with he | ⟨_, rfl⟩
    · obtain ⟨n, h1, h2, h3⟩ := h.qb i e he hk hw
      refine ⟨n, h1, .inl ⟨by omega, store_dn (e := ⟨1, 1, 2, true⟩) ?_ rfl rfl⟩, fun h h' => (h3 h h').app⟩
      have := bef_own he (h.th i e he).1
      rw [hw] at this
      exact this
    · simp at hk
end
end Go.Proofs.Ytjmkcgkkgamafaa.Rg
