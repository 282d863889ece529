/-
  PACKAGE graph, PLAIN MATHEMATICS: ways along edges, what they take, the least of it; by one more port between (the program); by one more edge (the document).
-/
import Derived.RowKit
namespace Go.Proofs.YtdbaacalfbbdiaaGreatDoor.Gr
set_option linter.unusedVariables false

structure Ed where
  f : Int
  t : Int
  a : Int
instance : Inhabited Ed := ⟨⟨0, 0, 0⟩⟩
/-- later by so much; not later than never. -/
def plusN (t s : Int) : Int := if 18446744073709551615 - t ≤ s then 18446744073709551615 else t + s
theorem plusN_le {t s : Int} (h : t ≤ 18446744073709551615) : plusN t s ≤ 18446744073709551615 ∧ plusN t s ≤ t + s := by unfold plusN; split <;> omega
theorem plusN_is {t s : Int} (h : t ≤ 18446744073709551615) : plusN t s = 18446744073709551615 ∨ plusN t s = t + s := by unfold plusN; split <;> omega
theorem plusN_lo {t s : Int} (ht : 0 ≤ t) (hs : 0 ≤ s) : 0 ≤ plusN t s := by unfold plusN; split <;> omega
theorem plusN_mono {t s t' s' : Int} (h1 : t ≤ t') (h2 : s ≤ s') (h : t' ≤ 18446744073709551615) : plusN t s ≤ plusN t' s' := by unfold plusN; split <;> split <;> omega

/-! ways -/
def Chn (E : List Ed) : Int → List Ed → Int → Prop
  | i, [], j => i = j
  | i, e :: es, j => e ∈ E ∧ e.f = i ∧ Chn E e.t es j
def cost : List Ed → Int
  | [] => 0
  | e :: es => e.a + cost es
theorem cost_append (a b : List Ed) : cost (a ++ b) = cost a + cost b := by
  induction a with
  | nil => simp [cost]
  | cons x r ih => simp only [List.cons_append, cost, ih]; omega
theorem chn_append {E : List Ed} {i k j : Int} {a b : List Ed} (h1 : Chn E i a k) (h2 : Chn E k b j) : Chn E i (a ++ b) j := by
  induction a generalizing i with
  | nil => obtain rfl : i = k := h1; exact h2
  | cons e r ih => exact ⟨h1.1, h1.2.1, ih h1.2.2⟩
theorem chn_split {E : List Ed} {i j : Int} {a b : List Ed} (h : Chn E i (a ++ b) j) : ∃ k, Chn E i a k ∧ Chn E k b j := by
  induction a generalizing i with
  | nil => exact ⟨i, rfl, h⟩
  | cons e r ih =>
    obtain ⟨k, h1, h2⟩ := ih h.2.2
    exact ⟨k, ⟨h.1, h.2.1, h1⟩, h2⟩
theorem chn_mem {E : List Ed} {i j : Int} {a : List Ed} (h : Chn E i a j) : ∀ e ∈ a, e ∈ E := by
  induction a generalizing i with
  | nil => simp
  | cons x r ih =>
    intro e he
    rcases List.mem_cons.1 he with rfl | he
    · exact h.1
    · exact ih h.2.2 e he
theorem chn_at {E : List Ed} {i j : Int} {a b : List Ed} {e : Ed} (h : Chn E i (a ++ e :: b) j) : Chn E i a e.f ∧ Chn E e.f (e :: b) j := by
  obtain ⟨k, h1, h2⟩ := chn_split h
  obtain rfl := h2.2.1
  exact ⟨h1, h2⟩
/-- Edges of a graph of so many ports. -/
def Fits (E : List Ed) (n : Nat) : Prop := ∀ e ∈ E, 0 ≤ e.f ∧ e.f < n ∧ 0 ≤ e.t ∧ e.t < n ∧ 0 ≤ e.a ∧ e.a ≤ 18446744073709551615
theorem cost_nonneg {E : List Ed} {n : Nat} (hE : Fits E n) {es : List Ed} (h : ∀ e ∈ es, e ∈ E) : 0 ≤ cost es := by
  induction es with
  | nil => exact Int.le_refl _
  | cons x r ih =>
    have h1 := (hE x (h x (by simp))).2.2.2.2.1
    have h2 := ih fun e he => h e (by simp [he])
    simp only [cost]
    omega

/-- A way, of one edge at least where z isn't. -/
def Way (E : List Ed) (z : Bool) (i : Int) (es : List Ed) (j : Int) : Prop := Chn E i es j ∧ (z = true ∨ es ≠ [])
theorem Way.append {E : List Ed} {z : Bool} {i k j : Int} {a b : List Ed} (h1 : Way E z i a k) (h2 : Way E z k b j) : Way E z i (a ++ b) j :=
  ⟨chn_append h1.1 h2.1, h1.2.elim .inl fun h => .inr (by intro e; exact h (List.append_eq_nil_iff.1 e).1)⟩
theorem Way.edge {E : List Ed} {z : Bool} {e : Ed} (h : e ∈ E) : Way E z e.f [e] e.t := ⟨⟨h, rfl, rfl⟩, .inr (by simp)⟩
def Sound (E : List Ed) (z : Bool) (i j d : Int) : Prop := (0 ≤ d ∧ d ≤ 18446744073709551615) ∧ (d = 18446744073709551615 ∨ ∃ es, Way E z i es j ∧ cost es = d)
theorem Sound.never (E : List Ed) (z : Bool) (i j : Int) : Sound E z i j 18446744073709551615 := ⟨⟨by decide, by decide⟩, .inl rfl⟩
theorem Sound.here (E : List Ed) (i : Int) : Sound E true i i 0 := ⟨⟨by decide, by decide⟩, .inr ⟨[], ⟨rfl, .inl rfl⟩, rfl⟩⟩
theorem Sound.edge {E : List Ed} {n : Nat} (hE : Fits E n) (z : Bool) {e : Ed} (h : e ∈ E) : Sound E z e.f e.t e.a :=
  ⟨⟨(hE e h).2.2.2.2.1, (hE e h).2.2.2.2.2⟩, .inr ⟨[e], Way.edge h, by simp [cost]⟩⟩
theorem Sound.min {E : List Ed} {z : Bool} {i j d d' : Int} (h : Sound E z i j d) (h' : Sound E z i j d') : Sound E z i j (min d d') := by
  rcases Int.le_total d d' with e | e
  · rw [Int.min_eq_left e]; exact h
  · rw [Int.min_eq_right e]; exact h'
theorem Sound.plus {E : List Ed} {z : Bool} {i k j d d' : Int} (h : Sound E z i k d) (h' : Sound E z k j d') : Sound E z i j (plusN d d') := by
  have hb := plusN_le (s := d') h.1.2
  have hl := plusN_lo h.1.1 h'.1.1
  refine ⟨⟨hl, hb.1⟩, ?_⟩
  rcases plusN_is (s := d') h.1.2 with e | e
  · exact .inl e
  · rcases h.2 with h2 | ⟨a, ha, hca⟩
    · left; rw [h2] at e hb ⊢; have := h'.1.1; omega
    · rcases h'.2 with h3 | ⟨b, hb', hcb⟩
      · left; rw [h3] at e hb ⊢; have := h.1.1; omega
      · exact .inr ⟨a ++ b, ha.append hb', by rw [cost_append, hca, hcb, e]⟩
/-- The least that a way takes. -/
def IsLeast (E : List Ed) (z : Bool) (i j d : Int) : Prop := Sound E z i j d ∧ ∀ es, Way E z i es j → d ≤ cost es
theorem IsLeast.one {E : List Ed} {z : Bool} {i j d d' : Int} (h : IsLeast E z i j d) (h' : IsLeast E z i j d') : d = d' := by
  have h1 : d ≤ d' := by
    rcases h'.1.2 with e | ⟨es, hw, hc⟩
    · rw [e]; exact h.1.1.2
    · rw [← hc]; exact h.2 es hw
  have h2 : d' ≤ d := by
    rcases h.1.2 with e | ⟨es, hw, hc⟩
    · rw [e]; exact h'.1.1.2
    · rw [← hc]; exact h'.2 es hw
  omega

/-! by one more port between -/
def Via (E : List Ed) (b : Nat) (i j d : Int) : Prop := ∀ es, Way E false i es j → (∀ e ∈ es.tail, e.f < b) → d ≤ cost es
theorem first_of {P : Ed → Prop} [DecidablePred P] : ∀ {l : List Ed}, (∃ e ∈ l, P e) → ∃ a e b, l = a ++ e :: b ∧ P e ∧ ∀ x ∈ a, ¬ P x
  | [], h => by obtain ⟨e, he, _⟩ := h; simp at he
  | x :: r, h => by
    by_cases hx : P x
    · exact ⟨[], x, r, rfl, hx, by simp⟩
    · obtain ⟨a, e, b, hl, he, ha⟩ := first_of (l := r) (by
        obtain ⟨e, he, hp⟩ := h
        rcases List.mem_cons.1 he with rfl | he
        · exact absurd hp hx
        · exact ⟨e, he, hp⟩)
      exact ⟨x :: a, e, b, by rw [hl]; rfl, he, fun y hy => (List.mem_cons.1 hy).elim (fun h => h ▸ hx) (ha y)⟩
theorem last_of {P : Ed → Prop} [DecidablePred P] : ∀ {l : List Ed}, (∃ e ∈ l, P e) → ∃ a e b, l = a ++ e :: b ∧ P e ∧ ∀ x ∈ b, ¬ P x
  | [], h => by obtain ⟨e, he, _⟩ := h; simp at he
  | x :: r, h => by
    by_cases hr : ∃ e ∈ r, P e
    · obtain ⟨a, e, b, hl, he, hb⟩ := last_of hr
      exact ⟨x :: a, e, b, by rw [hl]; rfl, he, hb⟩
    · obtain ⟨e, he, hp⟩ := h
      rcases List.mem_cons.1 he with rfl | he
      · exact ⟨[], e, r, rfl, hp, fun y hy hyp => hr ⟨y, hy, hyp⟩⟩
      · exact absurd ⟨e, he, hp⟩ hr
theorem tail_append {a b : List Ed} (h : a ≠ []) : (a ++ b).tail = a.tail ++ b := by
  cases a with
  | nil => exact absurd rfl h
  | cons x r => rfl
theorem Via.step {E : List Ed} {n b : Nat} (hE : Fits E n) {i j d0 d1 d2 : Int} (h1' : d1 ≤ 18446744073709551615) (h0 : Via E b i j d0) (h1 : Via E b i b d1) (h2 : Via E b b j d2) : Via E (b + 1) i j (min d0 (plusN d1 d2)) := by
  intro es hw hv
  by_cases hb : ∃ e ∈ es.tail, e.f = b
  · obtain ⟨a, e, r, hl, he, ha⟩ := first_of hb
    obtain ⟨x, es, rfl⟩ : ∃ x q, es = x :: q := by
      cases es with
      | nil => simp at hl
      | cons x r => exact ⟨x, r, rfl⟩
    simp only [List.tail_cons] at hl hv hb ⊢
    rw [hl] at hw hv ⊢
    have hw1 : Chn E i ((x :: a) ++ e :: r) j := hw.1
    obtain ⟨c1, c2⟩ := chn_at hw1
    rw [he] at c1 c2
    have g1 := h1 (x :: a) ⟨c1, .inr (by simp)⟩ (fun y hy => by
      have hy' : y ∈ a := hy
      have := hv y (List.mem_append_left _ hy')
      have := ha y hy'
      omega)
    obtain ⟨a2, e2, r2, hl2, he2, hr2⟩ := last_of (l := e :: r) (P := fun y => y.f = b) ⟨e, by simp, he⟩
    have c2' := c2
    rw [hl2] at c2
    obtain ⟨c3, c4⟩ := chn_at c2
    rw [he2] at c4
    have hmem : ∀ y ∈ r2, y ∈ e :: r := fun y hy => by rw [hl2]; simp [hy]
    have g2 := h2 (e2 :: r2) ⟨c4, .inr (by simp)⟩ (fun y hy => by
      have hy' : y ∈ r2 := hy
      have := hv y (List.mem_append_right _ (hmem y hy'))
      have := hr2 y hy'
      omega)
    have hp := plusN_le (s := d2) h1'
    have hc : cost (x :: (a ++ e :: r)) = cost (x :: a) + cost (e :: r) := by rw [← cost_append]; rfl
    have hc2 : cost (e :: r) = cost a2 + cost (e2 :: r2) := by rw [hl2, cost_append]
    have hn := cost_nonneg hE (chn_mem c3)
    omega
  · have := h0 es hw (fun e he => by
      have h1 := hv e he
      have h2 : e.f ≠ b := fun h => hb ⟨e, he, h⟩
      omega)
    omega
theorem Via.mono {E : List Ed} {b : Nat} {i j d d' : Int} (h : Via E b i j d) (hd : d' ≤ d) : Via E b i j d' := fun es hw hv => Int.le_trans hd (h es hw hv)
theorem Via.zero {E : List Ed} {n : Nat} (hE : Fits E n) {i j d : Int} (h : ∀ e ∈ E, e.f = i → e.t = j → d ≤ e.a) : Via E 0 i j d := by
  intro es hw hv
  match es, hw, hv with
  | [], hw, _ => exact absurd rfl (hw.2.resolve_left (by decide))
  | [e], hw, _ =>
    have := h e hw.1.1 hw.1.2.1 hw.1.2.2
    simp only [cost]
    omega
  | x :: y :: r, hw, hv =>
    have h1 := hv y (by simp)
    have h2 := (hE y hw.1.2.2.1).1
    omega
theorem Via.all {E : List Ed} {n : Nat} (hE : Fits E n) {i j d : Int} (hs : Sound E false i j d) (h : Via E n i j d) : IsLeast E false i j d :=
  ⟨hs, fun es hw => h es hw fun e he => (hE e (chn_mem hw.1 e (List.mem_of_mem_tail he))).2.1⟩

/-! by one more edge -/
def Len (E : List Ed) (r : Nat) (i j d : Int) : Prop := ∀ es, Chn E i es j → es.length ≤ r → d ≤ cost es
theorem Len.mono {E : List Ed} {r r' : Nat} {i j d d' : Int} (h : Len E r i j d) (hr : r' ≤ r) (hd : d' ≤ d) : Len E r' i j d' := fun es hw hl => Int.le_trans hd (h es hw (by omega))
theorem Len.zero {E : List Ed} {i j d : Int} (h : i = j → d ≤ 0) : Len E 0 i j d := by
  intro es hw hl
  obtain rfl : es = [] := List.length_eq_zero_iff.1 (by omega)
  exact h hw
/-- of an edge that was looked at: the ways that end with it. -/
def Ends (E : List Ed) (r : Nat) (i : Int) (e : Ed) (d : Int) : Prop := ∀ es, Chn E i es e.f → es.length ≤ r → d ≤ cost es + e.a
theorem Len.succ {E : List Ed} {r : Nat} {i j d : Int} (h : Len E r i j d) (he : ∀ e ∈ E, e.t = j → Ends E r i e d) : Len E (r + 1) i j d := by
  intro es hw hl
  by_cases hs : es.length ≤ r
  · exact h es hw hs
  · obtain ⟨a, e, rfl⟩ : ∃ a e, es = a ++ [e] := by
      refine ⟨es.dropLast, es.getLast (by intro e; subst e; simp at hs), (List.dropLast_concat_getLast _).symm⟩
    obtain ⟨c1, c2⟩ := chn_at hw
    have hlen : a.length ≤ r := by simp at hl; omega
    have := he e c2.1 c2.2.2 a c1 hlen
    rw [cost_append]
    simp only [cost]
    omega
theorem Ends.of {E : List Ed} {r : Nat} {i : Int} {e : Ed} {d d' : Int} (h : Len E r i e.f d) (hb : d ≤ 18446744073709551615) (hd : d' ≤ plusN d e.a) : Ends E r i e d' := by
  intro es hw hl
  have h1 := h es hw hl
  have h2 := plusN_le (s := e.a) hb
  omega
theorem Ends.mono {E : List Ed} {r : Nat} {i : Int} {e : Ed} {d d' : Int} (h : Ends E r i e d) (hd : d' ≤ d) : Ends E r i e d' := fun es hw hl => Int.le_trans hd (h es hw hl)
/-- A way needs no more edges than there are ports. -/
theorem short {E : List Ed} {n : Nat} (hE : Fits E n) : ∀ (S : List Int) (i j : Int) (es : List Ed), Chn E i es j → (∀ e ∈ es, e.f ∈ S) → ∃ es', Chn E i es' j ∧ cost es' ≤ cost es ∧ es'.length ≤ S.length := by
  have go : ∀ (m : Nat) (S : List Int), S.length = m → ∀ (i j : Int) (es : List Ed), Chn E i es j → (∀ e ∈ es, e.f ∈ S) → ∃ es', Chn E i es' j ∧ cost es' ≤ cost es ∧ es'.length ≤ S.length := by
    intro m
    induction m with
    | zero =>
      intro S hS i j es hw hf
      match es, hw, hf with
      | [], hw, _ => exact ⟨[], hw, Int.le_refl _, Nat.zero_le _⟩
      | e :: r, _, hf =>
        have := hf e (by simp)
        rw [List.length_eq_zero_iff.1 hS] at this
        simp at this
    | succ m ih =>
      intro S hS i j es hw hf
      match es, hw, hf with
      | [], hw, _ => exact ⟨[], hw, Int.le_refl _, Nat.zero_le _⟩
      | e0 :: r, hw, hf =>
        obtain ⟨a, e, b, hl, he, hb⟩ := last_of (l := e0 :: r) (P := fun y => y.f = i) ⟨e0, by simp, hw.2.1⟩
        rw [hl] at hw hf ⊢
        obtain ⟨c1, c2⟩ := chn_at hw
        have hiS : i ∈ S := by rw [← he]; exact hf e (by simp)
        have hlen : (S.erase i).length = m := by rw [List.length_erase_of_mem hiS, hS]; rfl
        obtain ⟨b', hb1, hb2, hb3⟩ := ih (S.erase i) hlen e.t j b c2.2.2 (fun y hy => by
          have h1 := hf y (by simp [hy])
          exact (List.mem_erase_of_ne (hb y hy)).2 h1)
        refine ⟨e :: b', ⟨c2.1, he, hb1⟩, ?_, ?_⟩
        · have := cost_nonneg hE (chn_mem c1)
          rw [cost_append]
          simp only [cost]
          omega
        · rw [List.length_cons]
          omega
  exact fun S => go S.length S rfl
theorem Len.all {E : List Ed} {n : Nat} (hE : Fits E n) {i j d : Int} (hs : Sound E true i j d) (h : Len E n i j d) : IsLeast E true i j d := by
  refine ⟨hs, fun es hw => ?_⟩
  obtain ⟨es', h1, h2, h3⟩ := short hE ((List.range n).map fun (k : Nat) => (k : Int)) i j es hw.1 (fun e he => by
    have h1 := hE e (chn_mem hw.1 e he)
    exact List.mem_map.2 ⟨e.f.toNat, List.mem_range.2 (by omega), by omega⟩)
  have := h es' h1 (by simpa using h3)
  omega

/-! both are one -/
theorem least_far {E : List Ed} {i j d : Int} (h : i ≠ j) (hd : IsLeast E false i j d) : IsLeast E true i j d := by
  have hw : ∀ {es}, Way E true i es j → Way E false i es j := fun {es} h' => ⟨h'.1, .inr (by rintro rfl; exact h h'.1)⟩
  refine ⟨⟨hd.1.1, hd.1.2.elim .inl fun ⟨es, h1, h2⟩ => .inr ⟨es, ⟨h1.1, .inl rfl⟩, h2⟩⟩, fun es he => hd.2 es (hw he)⟩
theorem least_here {E : List Ed} {n : Nat} (hE : Fits E n) (i : Int) : IsLeast E true i i 0 := ⟨Sound.here E i, fun es hw => cost_nonneg hE (chn_mem hw.1)⟩
/-- A way round that takes nothing. -/
def Round (E : List Ed) (p : Int) : Prop := ∃ es, Way E false p es p ∧ cost es = 0
theorem round_prog {E : List Ed} {n : Nat} (hE : Fits E n) {p d : Int} (hd : IsLeast E false p p d) : d = 0 ↔ Round E p := by
  constructor
  · rintro rfl
    rcases hd.1.2 with e | ⟨es, h1, h2⟩
    · exact absurd e (by decide)
    · exact ⟨es, h1, h2⟩
  · rintro ⟨es, h1, h2⟩
    have := hd.2 es h1
    have := hd.1.1.1
    omega
theorem round_ref {E : List Ed} {n : Nat} (hE : Fits E n) {p : Int} {D : Int → Int} (hd : ∀ e ∈ E, IsLeast E true e.t p (D e.t)) : (∃ e ∈ E, e.f = p ∧ e.a = 0 ∧ D e.t = 0) ↔ Round E p := by
  constructor
  · rintro ⟨e, he, hf, ha, hD⟩
    have h := hd e he
    rw [hD] at h
    rcases h.1.2 with h0 | ⟨es, h1, h2⟩
    · exact absurd h0 (by decide)
    · exact ⟨e :: es, ⟨⟨he, hf, h1.1⟩, .inr (by simp)⟩, by simp only [cost]; omega⟩
  · rintro ⟨es, h1, h2⟩
    match es, h1, h2 with
    | [], h1, _ => exact absurd rfl (h1.2.resolve_left (by decide))
    | e :: r, h1, h2 =>
      have hm := chn_mem h1.1
      have hn := cost_nonneg hE (es := r) (fun y hy => hm y (by simp [hy]))
      have ha := (hE e (hm e (by simp))).2.2.2.2.1
      simp only [cost] at h2
      have h3 := hd e (hm e (by simp))
      have h4 := h3.2 r ⟨h1.1.2.2, .inl rfl⟩
      have h5 := h3.1.1.1
      exact ⟨e, hm e (by simp), h1.1.2.1, by omega, by omega⟩
/-! what a law asks -/
theorem least_tri {E : List Ed} {i k j d0 d1 d2 : Int} (h0 : IsLeast E true i j d0) (h1 : IsLeast E true i k d1) (h2 : IsLeast E true k j d2) : d0 ≤ plusN d1 d2 := by
  rcases plusN_is (s := d2) h1.1.1.2 with e | e
  · rw [e]; exact h0.1.1.2
  · rcases (h1.1.plus h2.1).2 with e' | ⟨es, hw, hc⟩
    · rw [e']; exact h0.1.1.2
    · rw [← hc]; exact h0.2 es hw
theorem least_edge {E : List Ed} {n : Nat} (hE : Fits E n) {i d0 d1 : Int} {e : Ed} (he : e ∈ E) (h0 : IsLeast E true i e.t d0) (h1 : IsLeast E true i e.f d1) : d0 ≤ plusN d1 e.a := by
  rcases (h1.1.plus (Sound.edge hE true he)).2 with e' | ⟨es, hw, hc⟩
  · rw [e']; exact h0.1.1.2
  · rw [← hc]; exact h0.2 es hw
theorem least_last {E : List Ed} {n : Nat} (hE : Fits E n) {i j d0 : Int} {D : Int → Int} (hij : i ≠ j) (hn : d0 ≠ 18446744073709551615) (h0 : IsLeast E true i j d0) (hD : ∀ k : Int, 0 ≤ k → k < n → IsLeast E true i k (D k)) : ∃ e ∈ E, e.t = j ∧ plusN (D e.f) e.a = d0 := by
  obtain ⟨es, hw, hc⟩ := h0.1.2.resolve_left hn
  obtain ⟨a, e, rfl⟩ : ∃ a e, es = a ++ [e] := by
    refine ⟨es.dropLast, es.getLast (by rintro rfl; exact hij hw.1), (List.dropLast_concat_getLast _).symm⟩
  obtain ⟨c1, c2⟩ := chn_at hw.1
  have hf := hE e c2.1
  have h1 := hD e.f hf.1 hf.2.1
  have h2 := h1.2 a ⟨c1, .inl rfl⟩
  have ht : e.t = j := c2.2.2
  have h3 := least_edge hE c2.1 (by rw [ht]; exact h0) h1
  have h4 := plusN_le (s := e.a) h1.1.1.2
  rw [cost_append] at hc
  simp only [cost] at hc
  exact ⟨e, c2.1, ht, by omega⟩
end Go.Proofs.YtdbaacalfbbdiaaGreatDoor.Gr
