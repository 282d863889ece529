/-
  PACKAGE clock, PLAIN MATHEMATICS: what happens before what; how far one Who's Events are known.
-/
import Derived.Test.YtmggnalobfihnaaJoined2
namespace Go.Proofs.Ytmggnalobfihnaa.Ck
open Mm (Ev)
set_option linter.unusedVariables false

def Th (e : Ev) : Prop := 0 ≤ e.k ∧ e.k ≤ 7
instance (e : Ev) : Decidable (Th e) := inferInstanceAs (Decidable (_ ∧ _))
def StepP (l : List Ev) (i j : Nat) : Prop := i < j ∧ ∃ a b, l[i]? = some a ∧ l[j]? = some b ∧ Th a ∧ Th b ∧
  (a.w = b.w ∨ a.a = b.a ∧ (a.k = 1 ∧ b.k = 0 ∧ (∀ m c, i < m → m < j → l[m]? = some c → ¬ (c.k = 1 ∧ c.a = a.a)) ∨ (a.k = 5 ∨ a.k = 6) ∧ a.ok = true ∧ b.k = 4 ∧ b.ok = true))
inductive HB (l : List Ev) : Nat → Nat → Prop
  | one {i j : Nat} : StepP l i j → HB l i j
  | more {i m j : Nat} : HB l i m → StepP l m j → HB l i j
theorem HB.lt {l : List Ev} {i j : Nat} (h : HB l i j) : i < j := by
  induction h with
  | one h => exact h.1
  | more _ h ih => have := h.1; omega
theorem HB.trans {l : List Ev} {i m j : Nat} (h : HB l i m) (k : HB l m j) : HB l i j := by
  induction k with
  | one k => exact .more h k
  | more _ k ih => exact .more ih k
theorem HB.last {l : List Ev} {i j : Nat} : HB l i j ↔ ∃ m, StepP l m j ∧ (i = m ∨ HB l i m) := by
  constructor
  · intro h
    cases h with
    | one h => exact ⟨i, h, .inl rfl⟩
    | more h k => exact ⟨_, k, .inr h⟩
  · rintro ⟨m, h, rfl | k⟩
    · exact .one h
    · exact .more k h
theorem HB.th {l : List Ev} {i j : Nat} (h : HB l i j) : ∃ a b, l[i]? = some a ∧ l[j]? = some b ∧ Th a ∧ Th b := by
  induction h with
  | one h => obtain ⟨_, a, b, h1, h2, h3, h4, _⟩ := h; exact ⟨a, b, h1, h2, h3, h4⟩
  | more _ h ih => obtain ⟨_, a, b, h1, h2, h3, h4, _⟩ := h; obtain ⟨a', _, h1', _, h3', _⟩ := ih; exact ⟨a', b, h1', h2, h3', h4⟩
theorem step_who {l : List Ev} {i j : Nat} {a b : Ev} (h : i < j) (ha : l[i]? = some a) (hb : l[j]? = some b) (ta : Th a) (tb : Th b) (hw : a.w = b.w) : StepP l i j := ⟨h, a, b, ha, hb, ta, tb, .inl hw⟩

/-! ### a list's part -/
theorem step_sub {l m : List Ev} {s : Nat} (h : ∀ i, i < m.length → m[i]? = l[s + i]?) {i j : Nat} (hj : j < m.length) : StepP m i j ↔ StepP l (s + i) (s + j) := by
  constructor
  · rintro ⟨h1, a, b, ha, hb, ta, tb, h2⟩
    refine ⟨by omega, a, b, by rw [← h i (by omega)]; exact ha, by rw [← h j hj]; exact hb, ta, tb, h2.imp id fun h3 => ⟨h3.1, h3.2.imp (fun h4 => ⟨h4.1, h4.2.1, fun p c p1 p2 hc => ?_⟩) id⟩⟩
    refine h4.2.2 (p - s) c (by omega) (by omega) ?_
    rw [h (p - s) (by omega), show s + (p - s) = p by omega]; exact hc
  · rintro ⟨h1, a, b, ha, hb, ta, tb, h2⟩
    refine ⟨by omega, a, b, by rw [h i (by omega)]; exact ha, by rw [h j hj]; exact hb, ta, tb, h2.imp id fun h3 => ⟨h3.1, h3.2.imp (fun h4 => ⟨h4.1, h4.2.1, fun p c p1 p2 hc => ?_⟩) id⟩⟩
    refine h4.2.2 (s + p) c (by omega) (by omega) ?_
    rw [← h p (by omega)]; exact hc
theorem hb_sub {l m : List Ev} {s : Nat} (h : ∀ i, i < m.length → m[i]? = l[s + i]?) {i j : Nat} (hj : j < m.length) : HB m i j ↔ HB l (s + i) (s + j) := by
  constructor
  · intro k
    induction k with
    | one k => exact .one ((step_sub h hj).1 k)
    | more _ k ih => exact .more (ih (by have := k.1; omega)) ((step_sub h hj).1 k)
  · intro k
    generalize hx : s + i = x at k
    generalize hy : s + j = y at k
    induction k generalizing j with
    | one k => subst hx hy; exact .one ((step_sub h hj).2 k)
    | @more p _ k1 k2 ih =>
      subst hx hy
      have := k1.lt
      have := k2.1
      have hp : s + (p - s) = p := by omega
      refine .more (ih (j := p - s) (by omega) hp) ?_
      rw [← hp] at k2
      exact (step_sub h hj).2 k2

/-! ### numbered anew -/
def srt (k : Int) : Int := min (k / 2) 2
structure Norm (l m : List Ev) (nw nt : Nat) : Prop where
  len : m.length = l.length
  yes : ∀ (i : Nat) a b, l[i]? = some a → m[i]? = some b → Th a → b.k = a.k ∧ b.ok = a.ok ∧ (0 ≤ b.w ∧ b.w < (nw : Int)) ∧ 0 ≤ b.a ∧ b.a < (nt : Int)
  no : ∀ (i : Nat) a b, l[i]? = some a → m[i]? = some b → ¬ Th a → b = ⟨-1, -1, -1, false⟩
  ww : ∀ (i j : Nat) a a' b b', l[i]? = some a → l[j]? = some a' → m[i]? = some b → m[j]? = some b' → Th a → Th a' → (b.w = b'.w ↔ a.w = a'.w)
  aa : ∀ (i j : Nat) a a' b b', l[i]? = some a → l[j]? = some a' → m[i]? = some b → m[j]? = some b' → Th a → Th a' → (b.a = b'.a ↔ srt a.k = srt a'.k ∧ a.a = a'.a)
variable {l m : List Ev} {nw nt : Nat}
theorem Norm.back (h : Norm l m nw nt) {i : Nat} {b : Ev} (hb : m[i]? = some b) : ∃ a, l[i]? = some a := ⟨_, List.getElem?_eq_getElem (by rw [← h.len]; exact (List.getElem?_eq_some_iff.1 hb).1)⟩
theorem Norm.fwd (h : Norm l m nw nt) {i : Nat} {a : Ev} (ha : l[i]? = some a) : ∃ b, m[i]? = some b := ⟨_, List.getElem?_eq_getElem (by rw [h.len]; exact (List.getElem?_eq_some_iff.1 ha).1)⟩
theorem Norm.th (h : Norm l m nw nt) {i : Nat} {a b : Ev} (ha : l[i]? = some a) (hb : m[i]? = some b) : Th b ↔ Th a := by
  by_cases ta : Th a
  · have := (h.yes i a b ha hb ta).1
    unfold Th at *; rw [this]
  · have := h.no i a b ha hb ta
    subst this
    exact ⟨fun q => absurd q.1 (by decide), fun q => absurd q ta⟩
theorem step_norm (h : Norm l m nw nt) {i j : Nat} : StepP m i j ↔ StepP l i j := by
  constructor
  · rintro ⟨h1, b, b', hb, hb', tb, tb', h2⟩
    obtain ⟨a, ha⟩ := h.back hb
    obtain ⟨a', ha'⟩ := h.back hb'
    have ta := (h.th ha hb).1 tb
    have ta' := (h.th ha' hb').1 tb'
    have y := h.yes i a b ha hb ta
    have y' := h.yes j a' b' ha' hb' ta'
    refine ⟨h1, a, a', ha, ha', ta, ta', ?_⟩
    rcases h2 with h2 | ⟨h2, h3⟩
    · exact .inl ((h.ww i j a a' b b' ha ha' hb hb' ta ta').1 h2)
    · have h4 := (h.aa i j a a' b b' ha ha' hb hb' ta ta').1 h2
      refine .inr ⟨h4.2, ?_⟩
      rcases h3 with ⟨q1, q2, q3⟩ | ⟨q1, q2, q3, q4⟩
      · rw [y.1] at q1
        rw [y'.1] at q2
        refine .inl ⟨q1, q2, fun p c p1 p2 hc ⟨c1, c2⟩ => ?_⟩
        obtain ⟨d, hd⟩ := h.fwd hc
        have tc : Th c := by unfold Th; omega
        have yc := h.yes p c d hc hd tc
        refine q3 p d p1 p2 hd ⟨by rw [yc.1]; exact c1, ?_⟩
        exact (h.aa p i c a d b hc ha hd hb tc ta).2 ⟨by rw [c1, q1], c2⟩
      · rw [y.1] at q1
        rw [y.2.1] at q2
        rw [y'.1] at q3
        rw [y'.2.1] at q4
        exact .inr ⟨q1, q2, q3, q4⟩
  · rintro ⟨h1, a, a', ha, ha', ta, ta', h2⟩
    obtain ⟨b, hb⟩ := h.fwd ha
    obtain ⟨b', hb'⟩ := h.fwd ha'
    have y := h.yes i a b ha hb ta
    have y' := h.yes j a' b' ha' hb' ta'
    refine ⟨h1, b, b', hb, hb', (h.th ha hb).2 ta, (h.th ha' hb').2 ta', ?_⟩
    rcases h2 with h2 | ⟨h2, h3⟩
    · exact .inl ((h.ww i j a a' b b' ha ha' hb hb' ta ta').2 h2)
    · have hs : srt a.k = srt a'.k := by
        rcases h3 with ⟨q1, q2, _⟩ | ⟨q1, _, q3, _⟩
        · rw [q1, q2]; rfl
        · rcases q1 with q1 | q1 <;> rw [q1, q3] <;> rfl
      refine .inr ⟨(h.aa i j a a' b b' ha ha' hb hb' ta ta').2 ⟨hs, h2⟩, ?_⟩
      rcases h3 with ⟨q1, q2, q3⟩ | ⟨q1, q2, q3, q4⟩
      · refine .inl ⟨by rw [y.1]; exact q1, by rw [y'.1]; exact q2, fun p d p1 p2 hd ⟨d1, d2⟩ => ?_⟩
        obtain ⟨c, hc⟩ := h.back hd
        have td : Th d := by unfold Th; omega
        have tc := (h.th hc hd).1 td
        have yc := h.yes p c d hc hd tc
        have := (h.aa p i c a d b hc ha hd hb tc ta).1 d2
        exact q3 p c p1 p2 hc ⟨by rw [← yc.1]; exact d1, this.2⟩
      · exact .inr ⟨by rw [y.1]; exact q1, by rw [y.2.1]; exact q2, by rw [y'.1]; exact q3, by rw [y'.2.1]; exact q4⟩
theorem hb_norm (h : Norm l m nw nt) {i j : Nat} : HB m i j ↔ HB l i j := by
  constructor
  · intro k
    induction k with
    | one k => exact .one ((step_norm h).1 k)
    | more _ k ih => exact .more ih ((step_norm h).1 k)
  · intro k
    induction k with
    | one k => exact .one ((step_norm h).2 k)
    | more _ k ih => exact .more ih ((step_norm h).2 k)

/-! ### how far one Who's Events are known -/
structure Gd (m : List Ev) (nw nt : Nat) : Prop where
  yes : ∀ (i : Nat) b, m[i]? = some b → Th b → (0 ≤ b.w ∧ b.w < (nw : Int)) ∧ 0 ≤ b.a ∧ b.a < (nt : Int)
  no : ∀ (i : Nat) b, m[i]? = some b → ¬ Th b → b = ⟨-1, -1, -1, false⟩
  so : ∀ (i j : Nat) b b', m[i]? = some b → m[j]? = some b' → Th b → Th b' → b.a = b'.a → srt b.k = srt b'.k
theorem Norm.gd (h : Norm l m nw nt) : Gd m nw nt := by
  refine ⟨fun i b hb tb => ?_, fun i b hb tb => ?_, fun i j b b' hb hb' tb tb' e => ?_⟩
  · obtain ⟨a, ha⟩ := h.back hb
    exact (h.yes i a b ha hb ((h.th ha hb).1 tb)).2.2
  · obtain ⟨a, ha⟩ := h.back hb
    exact h.no i a b ha hb (fun ta => tb ((h.th ha hb).2 ta))
  · obtain ⟨a, ha⟩ := h.back hb
    obtain ⟨a', ha'⟩ := h.back hb'
    have ta := (h.th ha hb).1 tb
    have ta' := (h.th ha' hb').1 tb'
    have := (h.aa i j a a' b b' ha ha' hb hb' ta ta').1 e
    rw [(h.yes i a b ha hb ta).1, (h.yes j a' b' ha' hb' ta').1]
    exact this.1
theorem Gd.take (h : Gd m nw nt) (n : Nat) : Gd (m.take n) nw nt := by
  have e : ∀ (i : Nat) b, (m.take n)[i]? = some b → m[i]? = some b := fun i b hb => by
    have hi : i < n := by have := (List.getElem?_eq_some_iff.1 hb).1; rw [List.length_take] at this; omega
    rw [List.getElem?_take_of_lt hi] at hb; exact hb
  exact ⟨fun i b hb => h.yes i b (e i b hb), fun i b hb => h.no i b (e i b hb), fun i j b b' hb hb' => h.so i j b b' (e i b hb) (e j b' hb')⟩
/-- N is just behind the last one of of's Events of which P holds. -/
def Top (m : List Ev) (of : Int) (P : Nat → Prop) (N : Int) : Prop := 0 ≤ N ∧ (∀ (i : Nat) e, m[i]? = some e → Th e → e.w = of → P i → (i : Int) < N) ∧ (0 < N → ∃ (i : Nat) (e : Ev), N = (i : Int) + 1 ∧ m[i]? = some e ∧ Th e ∧ e.w = of ∧ P i)
variable {of : Int} {P Q : Nat → Prop} {N M : Int}
theorem Top.or (h : Top m of P N) (k : Top m of Q M) : Top m of (fun i => P i ∨ Q i) (max N M) := by
  refine ⟨by have := h.1; omega, fun i e he te hw hp => ?_, fun hm => ?_⟩
  · rcases hp with hp | hp
    · have := h.2.1 i e he te hw hp; omega
    · have := k.2.1 i e he te hw hp; omega
  · by_cases hc : M ≤ N
    · obtain ⟨i, e, h1, h2⟩ := h.2.2 (by omega)
      exact ⟨i, e, by omega, h2.1, h2.2.1, h2.2.2.1, .inl h2.2.2.2⟩
    · obtain ⟨i, e, h1, h2⟩ := k.2.2 (by omega)
      exact ⟨i, e, by omega, h2.1, h2.2.1, h2.2.2.1, .inr h2.2.2.2⟩
theorem Top.congr (h : Top m of P N) (hpq : ∀ i, P i ↔ Q i) : Top m of Q N := by
  have : P = Q := funext fun i => propext (hpq i)
  rw [← this]; exact h
theorem Top.zero (h : ∀ i, ¬ P i) : Top m of P 0 := ⟨by decide, fun i _ _ _ _ hp => absurd hp (h i), fun h => absurd h (by decide)⟩
theorem Top.le {k : Nat} (h : Top m of P N) (hp : ∀ i, P i → i < k) : N ≤ (k : Int) := by
  by_cases h0 : 0 < N
  · obtain ⟨i, _, h1, _, _, _, h2⟩ := h.2.2 h0
    have := hp i h2
    omega
  · omega
/-- Of one who is known each one ahead is known. -/
theorem Top.iff {k : Nat} (h : Top m of (fun i => HB m i k) N) {i : Nat} {e : Ev} (he : m[i]? = some e) (te : Th e) (hw : e.w = of) : HB m i k ↔ (i : Int) < N := by
  refine ⟨h.2.1 i e he te hw, fun hi => ?_⟩
  obtain ⟨j, e', h1, h2, h3, h4, h5⟩ := h.2.2 (by omega)
  by_cases hij : i = j
  · subst hij; exact h5
  · exact HB.trans (.one (step_who (by omega) he h2 te h3 (by rw [hw, h4]))) h5
def Hands (m : List Ev) (j : Nat) (x : Int) (k : Nat) : Prop := j < k ∧ ∃ e, m[j]? = some e ∧ e.a = x ∧ (e.k = 1 ∧ (∀ p c, j < p → p < k → m[p]? = some c → ¬ (c.k = 1 ∧ c.a = x)) ∨ (e.k = 5 ∨ e.k = 6) ∧ e.ok = true)
def ByW (m : List Ev) (x : Int) (k i : Nat) : Prop := ∃ j e, j < k ∧ m[j]? = some e ∧ Th e ∧ e.w = x ∧ (i = j ∨ HB m i j)
def ByH (m : List Ev) (x : Int) (k i : Nat) : Prop := ∃ j, Hands m j x k ∧ (i = j ∨ HB m i j)
structure Inv (m : List Ev) (of : Int) (nw nt k : Nat) (W H : List Int) : Prop where
  lw : W.length = nw
  lh : H.length = nt
  w : ∀ x : Int, 0 ≤ x → x < (nw : Int) → Top m of (ByW m x k) (W.getD x.toNat 0)
  h : ∀ x : Int, 0 ≤ x → x < (nt : Int) → Top m of (ByH m x k) (H.getD x.toNat 0)
def looksB (e : Ev) : Bool := e.k == 0 || (e.k == 4 && e.ok)
def knownF (e : Ev) (W H : List Int) : Int := if looksB e = true then max (W.getD e.w.toNat 0) (H.getD e.a.toNat 0) else W.getD e.w.toNat 0
def thenF (of : Int) (k : Nat) (e : Ev) (known : Int) : Int := if e.w = of then (k : Int) + 1 else known
def freesB (e : Ev) : Bool := (e.k == 5 || e.k == 6) && e.ok
def nextW (of : Int) (k : Nat) (e : Ev) (W H : List Int) : List Int := W.set e.w.toNat (thenF of k e (knownF e W H))
def nextH (of : Int) (k : Nat) (e : Ev) (W H : List Int) : List Int := if e.k = 1 then H.set e.a.toNat (thenF of k e (knownF e W H)) else if freesB e = true then H.set e.a.toNat (max (H.getD e.a.toNat 0) (thenF of k e (knownF e W H))) else H
variable {k : Nat} {W H : List Int} {e : Ev}
theorem inv_start (m : List Ev) (of : Int) (nw nt : Nat) : Inv m of nw nt 0 (List.replicate nw 0) (List.replicate nt 0) := by
  have hz : ∀ n i : Nat, (List.replicate n (0 : Int)).getD i 0 = 0 := fun n i => by
    rw [List.getD_eq_getElem?_getD, List.getElem?_replicate]; split <;> rfl
  refine ⟨by simp, by simp, fun x _ _ => ?_, fun x _ _ => ?_⟩
  · rw [hz]; exact Top.zero fun i ⟨j, _, h, _⟩ => absurd h (by omega)
  · rw [hz]; exact Top.zero fun i ⟨j, h, _⟩ => absurd h.1 (by omega)
theorem known_top (hG : Gd m nw nt) (hI : Inv m of nw nt k W H) (he : m[k]? = some e) (te : Th e) : Top m of (fun i => HB m i k) (knownF e W H) := by
  obtain ⟨⟨w0, w1⟩, a0, a1⟩ := hG.yes k e he te
  have hw := hI.w e.w w0 w1
  have hh := hI.h e.a a0 a1
  have hstep : ∀ i, HB m i k ↔ ByW m e.w k i ∨ (looksB e = true ∧ ByH m e.a k i) := by
    intro i
    rw [HB.last]
    constructor
    · rintro ⟨p, ⟨h1, a, b, ha, hb, ta, tb, h2⟩, h3⟩
      obtain rfl : e = b := by rw [he] at hb; exact Option.some.inj hb
      rcases h2 with h2 | ⟨h2, h4⟩
      · exact .inl ⟨p, a, h1, ha, ta, h2, h3⟩
      · rcases h4 with ⟨q1, q2, q3⟩ | ⟨q1, q2, q3, q4⟩
        · exact .inr ⟨by unfold looksB; simp [q2], p, ⟨h1, a, ha, h2, .inl ⟨q1, fun x c x1 x2 hc => by rw [← h2]; exact q3 x c x1 x2 hc⟩⟩, h3⟩
        · exact .inr ⟨by unfold looksB; simp [q3, q4], p, ⟨h1, a, ha, h2, .inr ⟨q1, q2⟩⟩, h3⟩
    · rintro (⟨p, a, h1, ha, ta, h2, h3⟩ | ⟨hl, p, ⟨h1, a, ha, h2, h4⟩, h3⟩)
      · exact ⟨p, step_who h1 ha he ta te h2, h3⟩
      · have ta : Th a := by unfold Th; omega
        have hs := hG.so p k a e ha he ta te h2
        refine ⟨p, ⟨h1, a, e, ha, he, ta, te, .inr ⟨h2, ?_⟩⟩, h3⟩
        unfold looksB at hl
        simp only [Bool.or_eq_true, Bool.and_eq_true, beq_iff_eq] at hl
        unfold srt at hs
        rcases h4 with ⟨q1, q2⟩ | ⟨q1, q2⟩
        · rcases hl with hl | ⟨hl, _⟩
          · exact .inl ⟨q1, hl, fun x c x1 x2 hc => by rw [h2]; exact q2 x c x1 x2 hc⟩
          · omega
        · rcases hl with hl | ⟨hl, hok⟩
          · omega
          · exact .inr ⟨q1, q2, hl, hok⟩
  unfold knownF
  by_cases hl : looksB e = true
  · rw [if_pos hl]
    exact (hw.or hh).congr fun i => by rw [hstep i]; exact ⟨fun h => h.imp id fun h => ⟨hl, h⟩, fun h => h.imp id fun h => h.2⟩
  · rw [if_neg hl]
    exact hw.congr fun i => by rw [hstep i]; exact ⟨fun h => .inl h, fun h => h.resolve_right fun h => hl h.1⟩
theorem then_top (hG : Gd m nw nt) (hI : Inv m of nw nt k W H) (he : m[k]? = some e) (te : Th e) : Top m of (fun i => i = k ∨ HB m i k) (thenF of k e (knownF e W H)) := by
  have hk := known_top hG hI he te
  unfold thenF
  by_cases hw : e.w = of
  · rw [if_pos hw]
    refine ⟨by omega, fun i e' he' te' hw' hp => ?_, fun _ => ⟨k, e, rfl, he, te, hw, .inl rfl⟩⟩
    rcases hp with rfl | hp
    · omega
    · have := hp.lt; omega
  · rw [if_neg hw]
    refine ⟨hk.1, fun i e' he' te' hw' hp => ?_, fun h0 => ?_⟩
    · rcases hp with rfl | hp
      · rw [he] at he'; cases he'; exact absurd hw' hw
      · exact hk.2.1 i e' he' te' hw' hp
    · obtain ⟨i, e', h1, h2, h3, h4, h5⟩ := hk.2.2 h0
      exact ⟨i, e', h1, h2, h3, h4, .inr h5⟩
theorem getD_set_self {L : List Int} {n : Nat} (h : n < L.length) (x : Int) : (L.set n x).getD n 0 = x := by rw [List.getD_eq_getElem?_getD, List.getElem?_set_self h]; rfl
theorem getD_set_ne {L : List Int} {n n' : Nat} (h : n ≠ n') (x : Int) : (L.set n x).getD n' 0 = L.getD n' 0 := by rw [List.getD_eq_getElem?_getD, List.getD_eq_getElem?_getD, List.getElem?_set_ne h]
theorem hands_succ {j : Nat} {x : Int} (he : m[k]? = some e) (hj : j < k) : Hands m j x (k + 1) ↔ Hands m j x k ∧ ((∃ c, m[j]? = some c ∧ c.k = 1) → ¬ (e.k = 1 ∧ e.a = x)) := by
  constructor
  · rintro ⟨_, c, hc, ha, h2⟩
    refine ⟨⟨hj, c, hc, ha, h2.imp (fun h => ⟨h.1, fun p d p1 p2 hd => h.2 p d p1 (by omega) hd⟩) id⟩, fun ⟨c', hc', k1⟩ hx => ?_⟩
    rw [hc] at hc'
    cases hc'
    rcases h2 with h2 | h2
    · exact h2.2 k e hj (by omega) he hx
    · omega
  · rintro ⟨⟨_, c, hc, ha, h2⟩, h3⟩
    refine ⟨by omega, c, hc, ha, h2.imp (fun h => ⟨h.1, fun p d p1 p2 hd => ?_⟩) id⟩
    by_cases hp : p = k
    · subst hp
      rw [he] at hd; cases hd
      exact h3 ⟨c, hc, h.1⟩
    · exact h.2 p d p1 (by omega) hd
theorem hands_self {x : Int} (he : m[k]? = some e) : Hands m k x (k + 1) ↔ e.a = x ∧ (e.k = 1 ∨ freesB e = true) := by
  unfold freesB
  constructor
  · rintro ⟨_, c, hc, ha, h2⟩
    rw [he] at hc; cases hc
    exact ⟨ha, h2.imp (fun h => h.1) fun h => by simp only [Bool.and_eq_true, Bool.or_eq_true, beq_iff_eq]; exact h⟩
  · rintro ⟨ha, h2⟩
    exact ⟨by omega, e, he, ha, h2.imp (fun h => ⟨h, fun p c p1 p2 => by omega⟩) fun h => by simp only [Bool.and_eq_true, Bool.or_eq_true, beq_iff_eq] at h; exact h⟩
theorem byW_succ {x : Int} (he : m[k]? = some e) (te : Th e) (i : Nat) : ByW m x (k + 1) i ↔ ByW m x k i ∨ e.w = x ∧ (i = k ∨ HB m i k) := by
  constructor
  · rintro ⟨j, c, hj, hc, tc, hw, h⟩
    by_cases hjk : j = k
    · subst hjk
      rw [he] at hc; cases hc
      exact .inr ⟨hw, h⟩
    · exact .inl ⟨j, c, by omega, hc, tc, hw, h⟩
  · rintro (⟨j, c, hj, hc, tc, hw, h⟩ | ⟨hw, h⟩)
    · exact ⟨j, c, by omega, hc, tc, hw, h⟩
    · exact ⟨k, e, by omega, he, te, hw, h⟩
theorem byH_same {x : Int} (he : m[k]? = some e) (hn : ¬ (e.a = x ∧ (e.k = 1 ∨ freesB e = true))) (i : Nat) : ByH m x (k + 1) i ↔ ByH m x k i := by
  constructor
  · rintro ⟨j, hj, h⟩
    by_cases hjk : j = k
    · subst hjk; exact absurd ((hands_self he).1 hj) hn
    · have h1 : j < k := by have := hj.1; omega
      exact ⟨j, ((hands_succ he h1).1 hj).1, h⟩
  · rintro ⟨j, hj, h⟩
    exact ⟨j, (hands_succ he hj.1).2 ⟨hj, fun _ hx => hn ⟨hx.2, .inl hx.1⟩⟩, h⟩
theorem next_inv (hG : Gd m nw nt) (hI : Inv m of nw nt k W H) (he : m[k]? = some e) (te : Th e) : Inv m of nw nt (k + 1) (nextW of k e W H) (nextH of k e W H) := by
  obtain ⟨⟨w0, w1⟩, a0, a1⟩ := hG.yes k e he te
  have ht := then_top hG hI he te
  have hlw := hI.lw
  have hlh := hI.lh
  refine ⟨by unfold nextW; rw [List.length_set]; exact hI.lw, ?_, fun x x0 x1 => ?_, fun x x0 x1 => ?_⟩
  · unfold nextH; split
    · rw [List.length_set]; exact hI.lh
    · split
      · rw [List.length_set]; exact hI.lh
      · exact hI.lh
  · unfold nextW
    by_cases hx : x = e.w
    · subst hx
      rw [getD_set_self (by omega)]
      refine ht.congr fun i => ?_
      rw [byW_succ he te]
      refine ⟨fun h => .inr ⟨rfl, h⟩, fun h => ?_⟩
      rcases h with ⟨j, c, hj, hc, tc, hw, h⟩ | h
      · have hs : HB m j k := .one (step_who hj hc he tc te hw)
        rcases h with rfl | h
        · exact .inr hs
        · exact .inr (h.trans hs)
      · exact h.2
    · rw [getD_set_ne (by omega)]
      exact (hI.w x x0 x1).congr fun i => by rw [byW_succ he te]; exact ⟨.inl, fun h => h.resolve_right fun h => hx h.1.symm⟩
  · unfold nextH
    by_cases hst : e.k = 1
    · rw [if_pos hst]
      by_cases hx : x = e.a
      · subst hx
        rw [getD_set_self (by omega)]
        refine ht.congr fun i => ?_
        constructor
        · intro h
          exact ⟨k, (hands_self he).2 ⟨rfl, .inl hst⟩, h⟩
        · rintro ⟨j, hj, h⟩
          by_cases hjk : j = k
          · subst hjk; exact h
          · exfalso
            have h1 : j < k := by have := hj.1; omega
            obtain ⟨_, c, hc, ha, h2⟩ := hj
            have tc : Th c := by unfold Th; omega
            have hs := hG.so j k c e hc he tc te ha
            unfold srt at hs
            rcases h2 with h2 | h2
            · exact h2.2 k e h1 (by omega) he ⟨hst, rfl⟩
            · omega
      · rw [getD_set_ne (by omega)]
        exact (hI.h x x0 x1).congr fun i => (byH_same he (fun h => hx h.1.symm) i).symm
    · rw [if_neg hst]
      by_cases hf : freesB e = true
      · rw [if_pos hf]
        by_cases hx : x = e.a
        · subst hx
          rw [getD_set_self (by omega)]
          refine ((hI.h e.a x0 x1).or ht).congr fun i => ?_
          constructor
          · rintro (⟨j, hj, h⟩ | h)
            · exact ⟨j, (hands_succ he hj.1).2 ⟨hj, fun _ hx => hst hx.1⟩, h⟩
            · exact ⟨k, (hands_self he).2 ⟨rfl, .inr hf⟩, h⟩
          · rintro ⟨j, hj, h⟩
            by_cases hjk : j = k
            · subst hjk; exact .inr h
            · have h1 : j < k := by have := hj.1; omega
              exact .inl ⟨j, ((hands_succ he h1).1 hj).1, h⟩
        · rw [getD_set_ne (by omega)]
          exact (hI.h x x0 x1).congr fun i => (byH_same he (fun h => hx h.1.symm) i).symm
      · rw [if_neg hf]
        exact (hI.h x x0 x1).congr fun i => (byH_same he (fun h => h.2.elim hst hf) i).symm
theorem next_no (hG : Gd m nw nt) (hI : Inv m of nw nt k W H) (he : m[k]? = some e) (te : ¬ Th e) : Inv m of nw nt (k + 1) W H := by
  have hk : e = ⟨-1, -1, -1, false⟩ := hG.no k e he te
  refine ⟨hI.lw, hI.lh, fun x x0 x1 => (hI.w x x0 x1).congr fun i => ?_, fun x x0 x1 => (hI.h x x0 x1).congr fun i => (byH_same he (fun h => ?_) i).symm⟩
  · constructor
    · rintro ⟨j, c, hj, h⟩
      exact ⟨j, c, by omega, h⟩
    · rintro ⟨j, c, hj, hc, tc, h⟩
      by_cases hjk : j = k
      · subst hjk; rw [he] at hc; cases hc; exact absurd tc te
      · exact ⟨j, c, by omega, hc, tc, h⟩
  · subst hk
    have := h.1
    rcases h.2 with h | h <;> simp [freesB] at h
theorem inv_le (hI : Inv m of nw nt k W H) : (∀ x : Int, 0 ≤ x → x < (nw : Int) → 0 ≤ W.getD x.toNat 0 ∧ W.getD x.toNat 0 ≤ (k : Int)) ∧ ∀ x : Int, 0 ≤ x → x < (nt : Int) → 0 ≤ H.getD x.toNat 0 ∧ H.getD x.toNat 0 ≤ (k : Int) := by
  refine ⟨fun x h0 h1 => ⟨(hI.w x h0 h1).1, (hI.w x h0 h1).le fun i ⟨j, c, hj, _, _, _, h⟩ => ?_⟩, fun x h0 h1 => ⟨(hI.h x h0 h1).1, (hI.h x h0 h1).le fun i ⟨j, hj, h⟩ => ?_⟩⟩
  · rcases h with rfl | h
    · exact hj
    · have := h.lt; omega
  · have := hj.1
    rcases h with rfl | h
    · exact hj.1
    · have := h.lt; omega
end Go.Proofs.Ytmggnalobfihnaa.Ck
