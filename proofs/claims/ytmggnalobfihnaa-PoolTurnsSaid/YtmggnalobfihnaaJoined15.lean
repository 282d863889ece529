/-
  PACKAGE pool: nobody meets at a box, whatever turns there are (plain mathematics).
  PACKAGE pool: acts of many can't all wait; how far they are (plain mathematics).
-/
import Derived.Test.YtmggnalobfihnaaCkMeet
import Derived.Test.YtmggnalobfihnaaPlPt
import Derived.Test.YtmggnalobfihnaaPlWt
namespace Go.Proofs.Ytmggnalobfihnaa.Pl
open Mm (Ev)
open Ck
set_option linter.unusedVariables false
/-- Whatever who does next comes behind i. -/
def BefP (l : List Ev) (i : Nat) (who : Int) : Prop := ∃ j e, l[j]? = some e ∧ Th e ∧ e.w = who ∧ (i = j ∨ HB l i j)
/-- Whoever takes the latch a next comes behind i. -/
def FdP (l : List Ev) (i : Nat) (a : Int) : Prop := ∃ j e, l[j]? = some e ∧ e.k = 5 ∧ e.a = a ∧ e.ok = true ∧ (i = j ∨ HB l i j)
section
variable {l : List Ev} {e f : Ev} {i j : Nat} {who a : Int}
theorem plapp_inv (h : (l ++ [e])[i]? = some f) : l[i]? = some f ∨ i = l.length ∧ f = e := by
  by_cases hi : i < l.length
  · rw [List.getElem?_append_left hi] at h; exact .inl h
  · have hlt := (List.getElem?_eq_some_iff.1 h).1
    simp at hlt
    have hi' : i = l.length := by omega
    subst hi'
    simp at h
    exact .inr ⟨rfl, h.symm⟩
theorem plapp_old (h : l[i]? = some f) : (l ++ [e])[i]? = some f := by
  rw [List.getElem?_append_left (List.getElem?_eq_some_iff.1 h).1]; exact h
theorem plapp_new : (l ++ [e])[l.length]? = some e := by simp
theorem plhb_app (h : HB l i j) : HB (l ++ [e]) i j := by
  have hj : j < l.length := by
    obtain ⟨a, b, _, hb, _⟩ := h.th
    exact (List.getElem?_eq_some_iff.1 hb).1
  have := (hb_sub (l := l ++ [e]) (m := l) (s := 0) (fun i hi => by rw [Nat.zero_add, List.getElem?_append_left hi]) hj).1 h
  simpa using this
theorem BefP.app (h : BefP l i who) : BefP (l ++ [e]) i who := by
  obtain ⟨j, f, h1, h2, h3, h4⟩ := h
  exact ⟨j, f, plapp_old h1, h2, h3, h4.imp id plhb_app⟩
theorem FdP.app (h : FdP l i a) : FdP (l ++ [e]) i a := by
  obtain ⟨j, f, h1, h2, h3, h4, h5⟩ := h
  exact ⟨j, f, plapp_old h1, h2, h3, h4, h5.imp id plhb_app⟩
theorem BefP.hb (h : BefP l i who) (hw : e.w = who) (ht : Th e) : HB (l ++ [e]) i l.length := by
  obtain ⟨j, f, h1, h2, h3, h4⟩ := h
  have hj := (List.getElem?_eq_some_iff.1 h1).1
  have hs : StepP (l ++ [e]) j l.length := step_who hj (plapp_old h1) plapp_new h2 ht (h3.trans hw.symm)
  rcases h4 with rfl | h4
  · exact .one hs
  · exact .more (plhb_app h4) hs
theorem FdP.take (h : FdP l i a) (hk : e.k = 4) (ha : e.a = a) (ho : e.ok = true) : BefP (l ++ [e]) i e.w := by
  obtain ⟨j, f, h1, h2, h3, h4, h5⟩ := h
  have hj := (List.getElem?_eq_some_iff.1 h1).1
  have te : Th e := ⟨by omega, by omega⟩
  have hs : StepP (l ++ [e]) j l.length := ⟨hj, f, e, plapp_old h1, plapp_new, ⟨by omega, by omega⟩, te, .inr ⟨h3.trans ha.symm, .inr ⟨.inl h2, h4, hk, ho⟩⟩⟩
  refine ⟨l.length, e, plapp_new, te, rfl, .inr ?_⟩
  rcases h5 with rfl | h5
  · exact .one hs
  · exact .more (plhb_app h5) hs
theorem BefP.free (h : BefP l i e.w) (hk : e.k = 5) (ha : e.a = a) (ho : e.ok = true) : FdP (l ++ [e]) i a :=
  ⟨l.length, e, plapp_new, hk, ha, ho, .inr (h.hb rfl ⟨by omega, by omega⟩)⟩
theorem plmeets_app (h : ∀ i k, ¬ Meets l i k) (hb : (e.k = 2 ∨ e.k = 3) → ∀ i f, l[i]? = some f → (f.k = 2 ∨ f.k = 3) → f.a = e.a → f.w ≠ e.w → HB (l ++ [e]) i l.length) : ∀ i k, ¬ Meets (l ++ [e]) i k := by
  rintro i k ⟨hik, a, f, ha, hf, q1, q2, q3, q4, q5, q6⟩
  rcases plapp_inv hf with hf | ⟨rfl, rfl⟩
  · have hk := (List.getElem?_eq_some_iff.1 hf).1
    rcases plapp_inv ha with ha | ⟨rfl, _⟩
    · exact h i k ⟨hik, a, f, ha, hf, q1, q2, q3, q4, q5, fun hh => q6 (plhb_app hh)⟩
    · omega
  · rcases plapp_inv ha with ha | ⟨rfl, _⟩
    · exact q6 (hb q2 i a ha q1 q3 q4)
    · omega
end
/-- Who has which latch, and what happened. -/
structure Rp (hl : Nat → Option Int) (l : List Ev) : Prop where
  no : ∀ i k : Nat, ¬ Meets l i k
  bx : ∀ (i : Nat) (e : Ev), l[i]? = some e → (e.k = 2 ∨ e.k = 3) → ∃ q : Nat, e.a = 1 + (q : Int) ∧ (hl q = none → FdP l i (1 + (q : Int))) ∧ ∀ z, hl q = some z → BefP l i z
section
variable {hl hl' : Nat → Option Int} {l : List Ev} {e : Ev} {k q : Nat}
theorem rp_nil (hl : Nat → Option Int) : Rp hl [] := ⟨by rintro i k ⟨_, a, _, ha, _⟩; simp at ha, by simp⟩
theorem Rp.other (h : Rp hl l) (hk : ¬ (e.k = 2 ∨ e.k = 3)) : Rp hl (l ++ [e]) :=
  ⟨plmeets_app h.no (fun hk' => absurd hk' hk), fun i f hf hfk => by
    rcases plapp_inv hf with hf | ⟨_, rfl⟩
    · obtain ⟨q, h1, h2, h3⟩ := h.bx i f hf hfk
      exact ⟨q, h1, fun hn => (h2 hn).app, fun z hz => (h3 z hz).app⟩
    · exact absurd hfk hk⟩
theorem Rp.step (h : Rp hl l) (he : EvF k hl hl' e) : Rp hl' (l ++ [e]) := by
  obtain ⟨hw, ho, hc⟩ := he
  rcases hc with ⟨h4, q, ha, hq, rfl⟩ | ⟨h5, q, ha, hq, rfl⟩ | ⟨h23, q, ha, hq, rfl⟩ | ⟨h01, rfl⟩
  · refine ⟨plmeets_app h.no (fun hk' => by omega), fun i f hf hfk => ?_⟩
    rcases plapp_inv hf with hf | ⟨_, rfl⟩
    · obtain ⟨r, h1, h2, h3⟩ := h.bx i f hf hfk
      refine ⟨r, h1, fun hn => ?_, fun z hz => ?_⟩
      · by_cases er : r = q
        · subst er; rw [updH_same] at hn; cases hn
        · rw [updH_other er] at hn; exact (h2 hn).app
      · by_cases er : r = q
        · subst er
          rw [updH_same] at hz
          obtain rfl : (k : Int) = z := by simpa using hz
          rw [← hw]
          exact (h2 hq).take h4 ha ho
        · rw [updH_other er] at hz; exact (h3 z hz).app
    · omega
  · refine ⟨plmeets_app h.no (fun hk' => by omega), fun i f hf hfk => ?_⟩
    rcases plapp_inv hf with hf | ⟨_, rfl⟩
    · obtain ⟨r, h1, h2, h3⟩ := h.bx i f hf hfk
      refine ⟨r, h1, fun hn => ?_, fun z hz => ?_⟩
      · by_cases er : r = q
        · subst er
          have := h3 k hq
          rw [← hw] at this
          exact this.free h5 ha ho
        · rw [updH_other er] at hn; exact (h2 hn).app
      · by_cases er : r = q
        · subst er; rw [updH_same] at hz; cases hz
        · rw [updH_other er] at hz; exact (h3 z hz).app
    · omega
  · have te : Th e := ⟨by omega, by omega⟩
    refine ⟨plmeets_app h.no (fun _ i f hf hfk hfa _ => ?_), fun i f hf hfk => ?_⟩
    · obtain ⟨r, h1, h2, h3⟩ := h.bx i f hf hfk
      obtain rfl : r = q := by omega
      exact (h3 k hq).hb hw te
    · rcases plapp_inv hf with hf | ⟨rfl, rfl⟩
      · obtain ⟨r, h1, h2, h3⟩ := h.bx i f hf hfk
        exact ⟨r, h1, fun hn => (h2 hn).app, fun z hz => (h3 z hz).app⟩
      · refine ⟨q, ha, (fun hn => by rw [hq] at hn; cases hn), fun z hz => ?_⟩
        rw [hq] at hz
        obtain rfl : (k : Int) = z := by simpa using hz
        exact ⟨l.length, f, plapp_new, te, hw, .inl rfl⟩
  · exact h.other (by omega)
end
end Go.Proofs.Ytmggnalobfihnaa.Pl
namespace Go.Proofs.Ytmggnalobfihnaa.Pl
open Go.RowKit Rw Pk Go.Maps Mm
open Batch (Ch tot sumsE sumsR)
set_option linter.unusedVariables false
section
variable {n kk k : Nat} {f : Nat → Option Ax} {C : List Ch} {rnd : Int} {Bx : Nat → List Ch} {hl : Nat → Option Int} {M : Mm.St} {X Y : Ax}
/-- An act waits for a latch that somebody has. -/
def Stuck (hl : Nat → Option Int) (X : Ax) : Prop := X.j < X.m ∧ ∃ (q : Nat) (z : Int), X.Q[X.j]? = some q ∧ hl q = some z
theorem stuck_next (h : Iv n kk f (fun _ => none) C rnd Bx hl M) (hso : ∀ k X, f k = some X → X.Q.Pairwise (· < ·)) (hf : f k = some X) {q : Nat} {z : Int} (hq : X.Q[X.j]? = some q) (hz : hl q = some z) (hall : ∀ k X, f k = some X → Stuck hl X) :
    ∃ k' Y q', f k' = some Y ∧ Y.Q[Y.j]? = some q' ∧ q < q' := by
  have o := h.ok k X hf
  rcases h.h1 q (o.qlt hq) z hz with ⟨_, _, e⟩ | ⟨k', Y, _, e1, x, e2, e3, _⟩
  · cases e
  · obtain ⟨_, q', _, e4, _⟩ := hall k' Y e1
    exact ⟨k', Y, q', e1, e4, sorted_at (hso k' Y e1) e3 e2 e4⟩
/-- They can't all wait. -/
theorem no_dead (h : Iv n kk f (fun _ => none) C rnd Bx hl M) (hso : ∀ k X, f k = some X → X.Q.Pairwise (· < ·)) (hall : ∀ k X, f k = some X → Stuck hl X) (hf : f k = some X) : False := by
  have key : ∀ m : Nat, ∀ (k : Nat) (X : Ax) (q : Nat), f k = some X → X.Q[X.j]? = some q → n ≤ q + m → False := by
    intro m
    induction m with
    | zero =>
      intro k X q hf hq hm
      have := (h.ok k X hf).qlt hq
      omega
    | succ m ih =>
      intro k X q hf hq hm
      obtain ⟨_, q0, z, e1, e2⟩ := hall k X hf
      rw [hq] at e1
      obtain rfl : q = q0 := by simpa using e1
      obtain ⟨k', Y, q', e3, e4, e5⟩ := stuck_next h hso hf hq e2 hall
      exact ih k' Y q' e3 e4 (by omega)
  obtain ⟨_, q, z, e1, _⟩ := hall k X hf
  exact key n k X q hf e1 (by omega)
/-- How many accesses are left. -/
def left (f : Nat → Option Ax) (k : Nat) : Nat := match f k with
  | none => 0
  | some X => 4 * X.m + X.e - X.j
def leftAll (f : Nat → Option Ax) : Nat := left f 0 + left f 1 + left f 2 + left f 3
theorem left_le (h : Iv n kk f (fun _ => none) C rnd Bx hl M) (hm : ∀ k X, f k = some X → X.m ≤ 8) (k : Nat) : left f k ≤ 34 := by
  unfold left
  cases e : f k with
  | none => simp
  | some X =>
    have := hm k X e
    have : X.e ≤ 2 := by unfold Ax.e eN; split <;> omega
    simp only
    omega
theorem left_upd {x : Option Ax} (hk : k < 4) : leftAll (updF f k x) + left f k = leftAll f + (match x with | none => 0 | some X => 4 * X.m + X.e - X.j) := by
  have e : ∀ i, left (updF f k x) i = if i = k then (match x with | none => 0 | some X => 4 * X.m + X.e - X.j) else left f i := fun i => by
    unfold left
    by_cases h : i = k
    · subst h; rw [updF_same, if_pos rfl]
    · rw [updF_other h, if_neg h]
  unfold leftAll
  rw [e, e, e, e]
  match k, hk with
  | 0, _ => simp; omega
  | 1, _ => simp; omega
  | 2, _ => simp; omega
  | 3, _ => simp; omega
end
end Go.Proofs.Ytmggnalobfihnaa.Pl
