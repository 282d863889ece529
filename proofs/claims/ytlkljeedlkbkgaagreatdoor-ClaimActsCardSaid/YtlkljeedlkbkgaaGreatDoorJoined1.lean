/-
  YtlkljeedlkbkgaaGreatDoorWalkMath
  YtlkljeedlkbkgaaGreatDoorGMem
-/
import Derived.RowKit
import Derived.Laws.AppendOwn
import Derived.Deep.AppendLies
import Derived.Below
import Derived.OneCell
import Derived.Lib.Walk
import Derived.Lib.Hide
import Derived.Lib.AtoiErrMem
import Derived.Deep.Draws
import Derived.Deep.OwnRows
import Derived.Test.YtlkljeedlkbkgaaGreatDoorRows
import Derived.KernelRfl
namespace Go.Proofs.YtlkljeedlkbkgaaGreatDoor.Gr
set_option linter.unusedVariables false
structure Ed where
  f : Int
  t : Int
  a : Int
instance : Inhabited Ed := ⟨⟨0, 0, 0⟩⟩
def plusN (t s : Int) : Int := if 18446744073709551615 - t ≤ s then 18446744073709551615 else t + s
theorem plusN_le {t s : Int} (h : t ≤ 18446744073709551615) : plusN t s ≤ 18446744073709551615 ∧ plusN t s ≤ t + s := by unfold plusN; split <;> omega
theorem plusN_is {t s : Int} (h : t ≤ 18446744073709551615) : plusN t s = 18446744073709551615 ∨ plusN t s = t + s := by unfold plusN; split <;> omega
theorem plusN_lo {t s : Int} (ht : 0 ≤ t) (hs : 0 ≤ s) : 0 ≤ plusN t s := by unfold plusN; split <;> omega
def Chn (E : List Ed) : Int → List Ed → Int → Prop
  | i, [], j => i = j
  | i, e :: es, j => e ∈ E ∧ e.f = i ∧ Chn E e.t es j
def cost : List Ed → Int
  | [] => 0
  | e :: es => e.a + cost es
theorem cost_append (a b : List Ed) : cost (a ++ b) = cost a + cost b := by
  induction a with
  | nil => simp [cost]
  | cons x r ih => simp only [List.cons_append, cost, ih]; omega
theorem chn_append {E : List Ed} {i k j : Int} {a b : List Ed} (h1 : Chn E i a k) (h2 : Chn E k b j) : Chn E i (a ++ b) j := by
  induction a generalizing i with
  | nil => obtain rfl : i = k := h1; exact h2
  | cons e r ih => exact ⟨h1.1, h1.2.1, ih h1.2.2⟩
theorem chn_split {E : List Ed} {i j : Int} {a b : List Ed} (h : Chn E i (a ++ b) j) : ∃ k, Chn E i a k ∧ Chn E k b j := by
  induction a generalizing i with
  | nil => exact ⟨i, rfl, h⟩
  | cons e r ih =>
    obtain ⟨k, h1, h2⟩ := ih h.2.2
    exact ⟨k, ⟨h.1, h.2.1, h1⟩, h2⟩
theorem chn_mem {E : List Ed} {i j : Int} {a : List Ed} (h : Chn E i a j) : ∀ e ∈ a, e ∈ E := by
  induction a generalizing i with
  | nil => simp
  | cons x r ih =>
    intro e he
    rcases List.mem_cons.1 he with rfl | he
    · exact h.1
    · exact ih h.2.2 e he
theorem chn_at {E : List Ed} {i j : Int} {a b : List Ed} {e : Ed} (h : Chn E i (a ++ e :: b) j) : Chn E i a e.f ∧ Chn E e.f (e :: b) j := by
  obtain ⟨k, h1, h2⟩ := chn_split h
  obtain rfl := h2.2.1
  exact ⟨h1, h2⟩
def Fits (E : List Ed) (n : Nat) : Prop := ∀ e ∈ E, 0 ≤ e.f ∧ e.f < n ∧ 0 ≤ e.t ∧ e.t < n ∧ 0 ≤ e.a ∧ e.a ≤ 18446744073709551615
theorem cost_nonneg {E : List Ed} {n : Nat} (hE : Fits E n) {es : List Ed} (h : ∀ e ∈ es, e ∈ E) : 0 ≤ cost es := by
  induction es with
  | nil => exact Int.le_refl _
  | cons x r ih =>
    have h1 := (hE x (h x (by simp))).2.2.2.2.1
    have h2 := ih fun e he => h e (by simp [he])
    simp only [cost]
    omega
def Way (E : List Ed) (z : Bool) (i : Int) (es : List Ed) (j : Int) : Prop := Chn E i es j ∧ (z = true ∨ es ≠ [])
theorem Way.append {E : List Ed} {z : Bool} {i k j : Int} {a b : List Ed} (h1 : Way E z i a k) (h2 : Way E z k b j) : Way E z i (a ++ b) j :=
  ⟨chn_append h1.1 h2.1, h1.2.elim .inl fun h => .inr (by intro e; exact h (List.append_eq_nil_iff.1 e).1)⟩
theorem Way.edge {E : List Ed} {z : Bool} {e : Ed} (h : e ∈ E) : Way E z e.f [e] e.t := ⟨⟨h, rfl, rfl⟩, .inr (by simp)⟩
def Sound (E : List Ed) (z : Bool) (i j d : Int) : Prop := (0 ≤ d ∧ d ≤ 18446744073709551615) ∧ (d = 18446744073709551615 ∨ ∃ es, Way E z i es j ∧ cost es = d)
theorem Sound.never (E : List Ed) (z : Bool) (i j : Int) : Sound E z i j 18446744073709551615 := ⟨⟨by decide, by decide⟩, .inl rfl⟩
theorem Sound.here (E : List Ed) (i : Int) : Sound E true i i 0 := ⟨⟨by decide, by decide⟩, .inr ⟨[], ⟨rfl, .inl rfl⟩, rfl⟩⟩
theorem Sound.edge {E : List Ed} {n : Nat} (hE : Fits E n) (z : Bool) {e : Ed} (h : e ∈ E) : Sound E z e.f e.t e.a :=
  ⟨⟨(hE e h).2.2.2.2.1, (hE e h).2.2.2.2.2⟩, .inr ⟨[e], Way.edge h, by simp [cost]⟩⟩
theorem Sound.min {E : List Ed} {z : Bool} {i j d d' : Int} (h : Sound E z i j d) (h' : Sound E z i j d') : Sound E z i j (min d d') := by
  rcases Int.le_total d d' with e | e
  · rw [Int.min_eq_left e]; exact h
  · rw [Int.min_eq_right e]; exact h'
theorem Sound.plus {E : List Ed} {z : Bool} {i k j d d' : Int} (h : Sound E z i k d) (h' : Sound E z k j d') : Sound E z i j (plusN d d') := by
  have hb := plusN_le (s := d') h.1.2
  have hl := plusN_lo h.1.1 h'.1.1
  refine ⟨⟨hl, hb.1⟩, ?_⟩
  rcases plusN_is (s := d') h.1.2 with e | e
  · exact .inl e
  · rcases h.2 with h2 | ⟨a, ha, hca⟩
    · left; rw [h2] at e hb ⊢; have := h'.1.1; omega
    · rcases h'.2 with h3 | ⟨b, hb', hcb⟩
      · left; rw [h3] at e hb ⊢; have := h.1.1; omega
      · exact .inr ⟨a ++ b, ha.append hb', by rw [cost_append, hca, hcb, e]⟩
def IsLeast (E : List Ed) (z : Bool) (i j d : Int) : Prop := Sound E z i j d ∧ ∀ es, Way E z i es j → d ≤ cost es
theorem IsLeast.one {E : List Ed} {z : Bool} {i j d d' : Int} (h : IsLeast E z i j d) (h' : IsLeast E z i j d') : d = d' := by
  have h1 : d ≤ d' := by
    rcases h'.1.2 with e | ⟨es, hw, hc⟩
    · rw [e]; exact h.1.1.2
    · rw [← hc]; exact h.2 es hw
  have h2 : d' ≤ d := by
    rcases h.1.2 with e | ⟨es, hw, hc⟩
    · rw [e]; exact h'.1.1.2
    · rw [← hc]; exact h'.2 es hw
  omega
def Via (E : List Ed) (b : Nat) (i j d : Int) : Prop := ∀ es, Way E false i es j → (∀ e ∈ es.tail, e.f < b) → d ≤ cost es
theorem first_of {P : Ed → Prop} [DecidablePred P] : ∀ {l : List Ed}, (∃ e ∈ l, P e) → ∃ a e b, l = a ++ e :: b ∧ P e ∧ ∀ x ∈ a, ¬ P x
  | [], h => by obtain ⟨e, he, _⟩ := h; simp at he
  | x :: r, h => by
    by_cases hx : P x
    · exact ⟨[], x, r, rfl, hx, by simp⟩
    · obtain ⟨a, e, b, hl, he, ha⟩ := first_of (l := r) (by
        obtain ⟨e, he, hp⟩ := h
        rcases List.mem_cons.1 he with rfl | he
        · exact absurd hp hx
        · exact ⟨e, he, hp⟩)
      exact ⟨x :: a, e, b, by rw [hl]; rfl, he, fun y hy => (List.mem_cons.1 hy).elim (fun h => h ▸ hx) (ha y)⟩
theorem last_of {P : Ed → Prop} [DecidablePred P] : ∀ {l : List Ed}, (∃ e ∈ l, P e) → ∃ a e b, l = a ++ e :: b ∧ P e ∧ ∀ x ∈ b, ¬ P x
  | [], h => by obtain ⟨e, he, _⟩ := h; simp at he
  | x :: r, h => by
    by_cases hr : ∃ e ∈ r, P e
    · obtain ⟨a, e, b, hl, he, hb⟩ := last_of hr
      exact ⟨x :: a, e, b, by rw [hl]; rfl, he, hb⟩
    · obtain ⟨e, he, hp⟩ := h
      rcases List.mem_cons.1 he with rfl | he
      · exact ⟨[], e, r, rfl, hp, fun y hy hyp => hr ⟨y, hy, hyp⟩⟩
      · exact absurd ⟨e, he, hp⟩ hr
theorem Via.step {E : List Ed} {n b : Nat} (hE : Fits E n) {i j d0 d1 d2 : Int} (h1' : d1 ≤ 18446744073709551615) (h0 : Via E b i j d0) (h1 : Via E b i b d1) (h2 : Via E b b j d2) : Via E (b + 1) i j (min d0 (plusN d1 d2)) := by
  intro es hw hv
  by_cases hb : ∃ e ∈ es.tail, e.f = b
  · obtain ⟨a, e, r, hl, he, ha⟩ := first_of hb
    obtain ⟨x, es, rfl⟩ : ∃ x q, es = x :: q := by
      cases es with
      | nil => simp at hl
      | cons x r => exact ⟨x, r, rfl⟩
    simp only [List.tail_cons] at hl hv hb ⊢
    rw [hl] at hw hv ⊢
    have hw1 : Chn E i ((x :: a) ++ e :: r) j := hw.1
    obtain ⟨c1, c2⟩ := chn_at hw1
    rw [he] at c1 c2
    have g1 := h1 (x :: a) ⟨c1, .inr (by simp)⟩ (fun y hy => by
      have hy' : y ∈ a := hy
      have := hv y (List.mem_append_left _ hy')
      have := ha y hy'
      omega)
    obtain ⟨a2, e2, r2, hl2, he2, hr2⟩ := last_of (l := e :: r) (P := fun y => y.f = b) ⟨e, by simp, he⟩
    have c2' := c2
    rw [hl2] at c2
    obtain ⟨c3, c4⟩ := chn_at c2
    rw [he2] at c4
    have hmem : ∀ y ∈ r2, y ∈ e :: r := fun y hy => by rw [hl2]; simp [hy]
    have g2 := h2 (e2 :: r2) ⟨c4, .inr (by simp)⟩ (fun y hy => by
      have hy' : y ∈ r2 := hy
      have := hv y (List.mem_append_right _ (hmem y hy'))
      have := hr2 y hy'
      omega)
    have hp := plusN_le (s := d2) h1'
    have hc : cost (x :: (a ++ e :: r)) = cost (x :: a) + cost (e :: r) := by rw [← cost_append]; rfl
    have hc2 : cost (e :: r) = cost a2 + cost (e2 :: r2) := by rw [hl2, cost_append]
    have hn := cost_nonneg hE (chn_mem c3)
    omega
  · have := h0 es hw (fun e he => by
      have h1 := hv e he
      have h2 : e.f ≠ b := fun h => hb ⟨e, he, h⟩
      omega)
    omega
theorem Via.mono {E : List Ed} {b : Nat} {i j d d' : Int} (h : Via E b i j d) (hd : d' ≤ d) : Via E b i j d' := fun es hw hv => Int.le_trans hd (h es hw hv)
theorem Via.zero {E : List Ed} {n : Nat} (hE : Fits E n) {i j d : Int} (h : ∀ e ∈ E, e.f = i → e.t = j → d ≤ e.a) : Via E 0 i j d := by
  intro es hw hv
  match es, hw, hv with
  | [], hw, _ => exact absurd rfl (hw.2.resolve_left (by decide))
  | [e], hw, _ =>
    have := h e hw.1.1 hw.1.2.1 hw.1.2.2
    simp only [cost]
    omega
  | x :: y :: r, hw, hv =>
    have h1 := hv y (by simp)
    have h2 := (hE y hw.1.2.2.1).1
    omega
theorem Via.all {E : List Ed} {n : Nat} (hE : Fits E n) {i j d : Int} (hs : Sound E false i j d) (h : Via E n i j d) : IsLeast E false i j d :=
  ⟨hs, fun es hw => h es hw fun e he => (hE e (chn_mem hw.1 e (List.mem_of_mem_tail he))).2.1⟩
def Len (E : List Ed) (r : Nat) (i j d : Int) : Prop := ∀ es, Chn E i es j → es.length ≤ r → d ≤ cost es
theorem Len.mono {E : List Ed} {r r' : Nat} {i j d d' : Int} (h : Len E r i j d) (hr : r' ≤ r) (hd : d' ≤ d) : Len E r' i j d' := fun es hw hl => Int.le_trans hd (h es hw (by omega))
theorem Len.zero {E : List Ed} {i j d : Int} (h : i = j → d ≤ 0) : Len E 0 i j d := by
  intro es hw hl
  obtain rfl : es = [] := List.length_eq_zero_iff.1 (by omega)
  exact h hw
def Ends (E : List Ed) (r : Nat) (i : Int) (e : Ed) (d : Int) : Prop := ∀ es, Chn E i es e.f → es.length ≤ r → d ≤ cost es + e.a
theorem Len.succ {E : List Ed} {r : Nat} {i j d : Int} (h : Len E r i j d) (he : ∀ e ∈ E, e.t = j → Ends E r i e d) : Len E (r + 1) i j d := by
  intro es hw hl
  by_cases hs : es.length ≤ r
  · exact h es hw hs
  · obtain ⟨a, e, rfl⟩ : ∃ a e, es = a ++ [e] := by
      refine ⟨es.dropLast, es.getLast (by intro e; subst e; simp at hs), (List.dropLast_concat_getLast _).symm⟩
    obtain ⟨c1, c2⟩ := chn_at hw
    have hlen : a.length ≤ r := by simp at hl; omega
    have := he e c2.1 c2.2.2 a c1 hlen
    rw [cost_append]
    simp only [cost]
    omega
theorem Ends.of {E : List Ed} {r : Nat} {i : Int} {e : Ed} {d d' : Int} (h : Len E r i e.f d) (hb : d ≤ 18446744073709551615) (hd : d' ≤ plusN d e.a) : Ends E r i e d' := by
  intro es hw hl
  have h1 := h es hw hl
  have h2 := plusN_le (s := e.a) hb
  omega
theorem Ends.mono {E : List Ed} {r : Nat} {i : Int} {e : Ed} {d d' : Int} (h : Ends E r i e d) (hd : d' ≤ d) : Ends E r i e d' := fun es hw hl => Int.le_trans hd (h es hw hl)
theorem short {E : List Ed} {n : Nat} (hE : Fits E n) : ∀ (S : List Int) (i j : Int) (es : List Ed), Chn E i es j → (∀ e ∈ es, e.f ∈ S) → ∃ es', Chn E i es' j ∧ cost es' ≤ cost es ∧ es'.length ≤ S.length := by
  have go : ∀ (m : Nat) (S : List Int), S.length = m → ∀ (i j : Int) (es : List Ed), Chn E i es j → (∀ e ∈ es, e.f ∈ S) → ∃ es', Chn E i es' j ∧ cost es' ≤ cost es ∧ es'.length ≤ S.length := by
    intro m
    induction m with
    | zero =>
      intro S hS i j es hw hf
      match es, hw, hf with
      | [], hw, _ => exact ⟨[], hw, Int.le_refl _, Nat.zero_le _⟩
      | e :: r, _, hf =>
        have := hf e (by simp)
        rw [List.length_eq_zero_iff.1 hS] at this
        simp at this
    | succ m ih =>
      intro S hS i j es hw hf
      match es, hw, hf with
      | [], hw, _ => exact ⟨[], hw, Int.le_refl _, Nat.zero_le _⟩
      | e0 :: r, hw, hf =>
        obtain ⟨a, e, b, hl, he, hb⟩ := last_of (l := e0 :: r) (P := fun y => y.f = i) ⟨e0, by simp, hw.2.1⟩
        rw [hl] at hw hf ⊢
        obtain ⟨c1, c2⟩ := chn_at hw
        have hiS : i ∈ S := by rw [← he]; exact hf e (by simp)
        have hlen : (S.erase i).length = m := by rw [List.length_erase_of_mem hiS, hS]; rfl
        obtain ⟨b', hb1, hb2, hb3⟩ := ih (S.erase i) hlen e.t j b c2.2.2 (fun y hy => by
          have h1 := hf y (by simp [hy])
          exact (List.mem_erase_of_ne (hb y hy)).2 h1)
        refine ⟨e :: b', ⟨c2.1, he, hb1⟩, ?_, ?_⟩
        · have := cost_nonneg hE (chn_mem c1)
          rw [cost_append]
          simp only [cost]
          omega
        · rw [List.length_cons]
          omega
  exact fun S => go S.length S rfl
theorem Len.all {E : List Ed} {n : Nat} (hE : Fits E n) {i j d : Int} (hs : Sound E true i j d) (h : Len E n i j d) : IsLeast E true i j d := by
  refine ⟨hs, fun es hw => ?_⟩
  obtain ⟨es', h1, h2, h3⟩ := short hE ((List.range n).map fun (k : Nat) => (k : Int)) i j es hw.1 (fun e he => by
    have h1 := hE e (chn_mem hw.1 e he)
    exact List.mem_map.2 ⟨e.f.toNat, List.mem_range.2 (by omega), by omega⟩)
  have := h es' h1 (by simpa using h3)
  omega
theorem least_far {E : List Ed} {i j d : Int} (h : i ≠ j) (hd : IsLeast E false i j d) : IsLeast E true i j d := by
  have hw : ∀ {es}, Way E true i es j → Way E false i es j := fun {es} h' => ⟨h'.1, .inr (by rintro rfl; exact h h'.1)⟩
  refine ⟨⟨hd.1.1, hd.1.2.elim .inl fun ⟨es, h1, h2⟩ => .inr ⟨es, ⟨h1.1, .inl rfl⟩, h2⟩⟩, fun es he => hd.2 es (hw he)⟩
theorem least_here {E : List Ed} {n : Nat} (hE : Fits E n) (i : Int) : IsLeast E true i i 0 := ⟨Sound.here E i, fun es hw => cost_nonneg hE (chn_mem hw.1)⟩
def Round (E : List Ed) (p : Int) : Prop := ∃ es, Way E false p es p ∧ cost es = 0
theorem round_prog {E : List Ed} {n : Nat} (hE : Fits E n) {p d : Int} (hd : IsLeast E false p p d) : d = 0 ↔ Round E p := by
  constructor
  · rintro rfl
    rcases hd.1.2 with e | ⟨es, h1, h2⟩
    · exact absurd e (by decide)
    · exact ⟨es, h1, h2⟩
  · rintro ⟨es, h1, h2⟩
    have := hd.2 es h1
    have := hd.1.1.1
    omega
theorem round_ref {E : List Ed} {n : Nat} (hE : Fits E n) {p : Int} {D : Int → Int} (hd : ∀ e ∈ E, IsLeast E true e.t p (D e.t)) : (∃ e ∈ E, e.f = p ∧ e.a = 0 ∧ D e.t = 0) ↔ Round E p := by
  constructor
  · rintro ⟨e, he, hf, ha, hD⟩
    have h := hd e he
    rw [hD] at h
    rcases h.1.2 with h0 | ⟨es, h1, h2⟩
    · exact absurd h0 (by decide)
    · exact ⟨e :: es, ⟨⟨he, hf, h1.1⟩, .inr (by simp)⟩, by simp only [cost]; omega⟩
  · rintro ⟨es, h1, h2⟩
    match es, h1, h2 with
    | [], h1, _ => exact absurd rfl (h1.2.resolve_left (by decide))
    | e :: r, h1, h2 =>
      have hm := chn_mem h1.1
      have hn := cost_nonneg hE (es := r) (fun y hy => hm y (by simp [hy]))
      have ha := (hE e (hm e (by simp))).2.2.2.2.1
      simp only [cost] at h2
      have h3 := hd e (hm e (by simp))
      have h4 := h3.2 r ⟨h1.1.2.2, .inl rfl⟩
      have h5 := h3.1.1.1
      exact ⟨e, hm e (by simp), h1.1.2.1, by omega, by omega⟩
theorem least_tri {E : List Ed} {i k j d0 d1 d2 : Int} (h0 : IsLeast E true i j d0) (h1 : IsLeast E true i k d1) (h2 : IsLeast E true k j d2) : d0 ≤ plusN d1 d2 := by
  rcases plusN_is (s := d2) h1.1.1.2 with e | e
  · rw [e]; exact h0.1.1.2
  · rcases (h1.1.plus h2.1).2 with e' | ⟨es, hw, hc⟩
    · rw [e']; exact h0.1.1.2
    · rw [← hc]; exact h0.2 es hw
end Go.Proofs.YtlkljeedlkbkgaaGreatDoor.Gr
namespace Go.Proofs.YtlkljeedlkbkgaaGreatDoor.Gr
open Go.RowKit
set_option linter.unusedVariables false
structure Ed.Wf (x : Ed) : Prop where
  f0 : -9223372036854775808 ≤ x.f
  f1 : x.f ≤ 9223372036854775807
  t0 : -9223372036854775808 ≤ x.t
  t1 : x.t ≤ 9223372036854775807
  a0 : 0 ≤ x.a
  a1 : x.a ≤ 18446744073709551615
def Ed.cells (x : Ed) : List Value := [.int .i64 x.f, .int .i64 x.t, .int .u64 x.a]
abbrev Ed.agg (x : Ed) : Value := .agg #[.int .i64 x.f, .int .i64 x.t, .int .u64 x.a]
theorem take_succ' {α : Type} {l : List α} {i : Nat} {x : α} (h : l[i]? = some x) : l.take (i + 1) = l.take i ++ [x] := by rw [List.take_add_one, h]; rfl
theorem take_all {α : Type} {l : List α} {i : Nat} (h : l.length ≤ i) : l.take i = l := List.take_of_length_le h
theorem info_parts {P : Program} {t : TypeId} {z : Value} {size bytes : Nat} (h : (P.info? t).map (fun i => (i.zero, i.size, i.bytes)) = some (some z, size, bytes)) : ∃ i, P.info? t = some i ∧ i.zero = some z ∧ i.size = size ∧ i.bytes = bytes := by
  obtain ⟨i, hi, hz⟩ := Option.map_eq_some_iff.1 h
  simp only [Prod.mk.injEq] at hz
  exact ⟨i, hi, hz⟩
def cellsL (l : List Ed) : List Value := l.flatMap Ed.cells
theorem cellsL_length (l : List Ed) : (cellsL l).length = l.length * 3 := by
  induction l with
  | nil => rfl
  | cons x r ih => unfold cellsL at *; rw [List.flatMap_cons, List.length_append, ih, List.length_cons]; simp [Ed.cells]; omega
theorem cellsL_append (a b : List Ed) : cellsL (a ++ b) = cellsL a ++ cellsL b := by unfold cellsL; simp
theorem cellsL_snoc (l : List Ed) (x : Ed) : cellsL (l ++ [x]) = cellsL l ++ [.int .i64 x.f, .int .i64 x.t, .int .u64 x.a] := by rw [cellsL_append]; rfl
theorem cellsL_at {l : List Ed} {i : Nat} {x : Ed} (h : l[i]? = some x) : ∀ c, c < 3 → (cellsL l)[i * 3 + c]? = x.cells[c]? := by
  induction l generalizing i with
  | nil => simp at h
  | cons y r ih =>
    intro c hc
    have e : cellsL (y :: r) = y.cells ++ cellsL r := rfl
    have hl : y.cells.length = 3 := rfl
    rw [e]
    cases i with
    | zero =>
      simp at h
      subst h
      rw [List.getElem?_append_left (by rw [hl]; omega), Nat.zero_mul, Nat.zero_add]
    | succ k =>
      rw [List.getElem?_append_right (by rw [hl]; omega), hl, show (k + 1) * 3 + c - 3 = k * 3 + c by omega]
      exact ih (by simpa using h) c hc
def At3 (w : World) (b o : Nat) (x : Ed) : Prop := w.cell? ⟨b, o, none⟩ = some (.int .i64 x.f) ∧ w.cell? ⟨b, o + 1, none⟩ = some (.int .i64 x.t) ∧ w.cell? ⟨b, o + 2, none⟩ = some (.int .u64 x.a)
theorem At3.lt {w : World} {b o : Nat} {x : Ed} (h : At3 w b o x) : b < w.heap.size := Lib.lt_of_cell h.1
theorem At3.below {w w' : World} {B b o : Nat} {x : Ed} (h : At3 w b o x) (hw : Below B w w') (hb : b < B) : At3 w' b o x :=
  ⟨(hw.cell (p := ⟨b, o, none⟩) hb).trans h.1, (hw.cell (p := ⟨b, o + 1, none⟩) hb).trans h.2.1, (hw.cell (p := ⟨b, o + 2, none⟩) hb).trans h.2.2⟩
def Rd (w : World) (v : Value) (l : List Ed) : Prop := ∃ (ao : Option Addr) (cap : Nat), v = .slice ao l.length cap ∧ l.length ≤ cap ∧ cap ≤ 9223372036854775807 ∧ (∀ x ∈ l, x.Wf) ∧
  (l = [] ∨ ∃ b off, ao = some ⟨b, off, none⟩ ∧ ∀ i x, l[i]? = some x → At3 w b (off + i * 3) x)
theorem Rd.below {w w' : World} {v : Value} {l : List Ed} (h : Rd w v l) (hw : Below w.heap.size w w') : Rd w' v l := by
  obtain ⟨ao, cap, rfl, h1, h2, h3, h4⟩ := h
  refine ⟨ao, cap, rfl, h1, h2, h3, ?_⟩
  rcases h4 with h4 | ⟨b, off, ha, h4⟩
  · exact .inl h4
  · exact .inr ⟨b, off, ha, fun i x hx => (h4 i x hx).below hw (h4 i x hx).lt⟩
theorem Rd.wf {w : World} {v : Value} {l : List Ed} (h : Rd w v l) : ∀ x ∈ l, x.Wf := by obtain ⟨_, _, _, _, _, h, _⟩ := h; exact h
theorem Rd.at {w : World} {ao : Option Addr} {n cap : Nat} {l : List Ed} (h : Rd w (.slice ao n cap) l) {i : Nat} {x : Ed} (hx : l[i]? = some x) : ∃ b off, ao = some ⟨b, off, none⟩ ∧ At3 w b (off + i * 3) x := by
  obtain ⟨ao', cap', hv, _, _, _, h4⟩ := h
  simp at hv
  obtain ⟨rfl, rfl, rfl⟩ := hv
  rcases h4 with h4 | ⟨b, off, ha, h4⟩
  · subst h4; simp at hx
  · exact ⟨b, off, ha, h4 i x hx⟩
theorem Rd.nil (w : World) : Rd w (.slice none 0 0) [] := ⟨none, 0, rfl, by simp, by simp, by simp, .inl rfl⟩
theorem at_of {l : List Ed} {i : Nat} (h : i < l.length) : ∃ x, l[i]? = some x ∧ x ∈ l := ⟨l[i], List.getElem?_eq_getElem h, List.getElem_mem h⟩
def Sl (w : World) (v : Value) (l : List Ed) : Prop := ∃ (ao : Option Addr) (cap : Nat), v = .slice ao l.length cap ∧ (ao = none ∧ l = [] ∨ ∃ b off, ao = some ⟨b, off, none⟩ ∧ ∀ i x, l[i]? = some x → At3 w b (off + i * 3) x) ∧ l.length ≤ cap ∧ cap ≤ 9223372036854775807 ∧ ∀ x ∈ l, x.Wf
theorem Sl.rd {w : World} {v : Value} {l : List Ed} (h : Sl w v l) : Rd w v l := by
  obtain ⟨ao, cap, rfl, h1, h2, h3, h4⟩ := h
  refine ⟨ao, cap, rfl, h2, h3, h4, ?_⟩
  rcases h1 with ⟨_, h1⟩ | h1
  · exact .inl h1
  · exact .inr h1
theorem Sl.below {w w' : World} {v : Value} {l : List Ed} (h : Sl w v l) (hw : Below w.heap.size w w') : Sl w' v l := by
  obtain ⟨ao, cap, rfl, h1, h2, h3, h4⟩ := h
  refine ⟨ao, cap, rfl, ?_, h2, h3, h4⟩
  rcases h1 with h1 | ⟨b, off, ha, h1⟩
  · exact .inl h1
  · exact .inr ⟨b, off, ha, fun i x hx => (h1 i x hx).below hw (h1 i x hx).lt⟩
theorem Sl.wf {w : World} {v : Value} {l : List Ed} (h : Sl w v l) : ∀ x ∈ l, x.Wf := h.rd.wf
theorem Sl.nil (w : World) : Sl w (.slice none 0 0) [] := ⟨none, 0, rfl, .inl ⟨rfl, rfl⟩, by simp, by simp, by simp⟩
theorem cells_of_at {w : World} {b off : Nat} {l : List Ed} (h : ∀ i x, l[i]? = some x → At3 w b (off + i * 3) x) : ∀ j u, (cellsL l)[j]? = some u → w.cell? ⟨b, off + j, none⟩ = some u := by
  intro j u hu
  have hj : j < l.length * 3 := by rw [← cellsL_length]; exact (List.getElem?_eq_some_iff.1 hu).1
  have hi : j / 3 < l.length := by omega
  obtain ⟨x, hx, _⟩ := at_of hi
  have h3 := h _ _ hx
  have hc := cellsL_at hx (j % 3) (Nat.mod_lt _ (by omega))
  rw [show j / 3 * 3 + j % 3 = j by omega, hu] at hc
  rcases (show j % 3 = 0 ∨ j % 3 = 1 ∨ j % 3 = 2 by omega) with h0 | h0 | h0
  · rw [h0] at hc
    obtain rfl := Option.some.inj hc
    have := h3.1
    rw [show off + j / 3 * 3 = off + j by omega] at this
    exact this
  · rw [h0] at hc
    obtain rfl := Option.some.inj hc
    have := h3.2.1
    rw [show off + j / 3 * 3 + 1 = off + j by omega] at this
    exact this
  · rw [h0] at hc
    obtain rfl := Option.some.inj hc
    have := h3.2.2
    rw [show off + j / 3 * 3 + 2 = off + j by omega] at this
    exact this
theorem cellsL_one (l : List Ed) : ∀ u ∈ cellsL l, u.oneCell' = true := by
  intro u hu
  unfold cellsL at hu
  obtain ⟨x, _, hx⟩ := List.mem_flatMap.1 hu
  simp [Ed.cells] at hx
  rcases hx with rfl | rfl | rfl <;> rfl
def Own (w : World) (base : Nat) (T : TypeId) (v : Value) (l : List Ed) : Prop := w.ownsRow base T 3 v l.length (cellsL l)
theorem Own.nil (w : World) (base : Nat) (T : TypeId) : Own w base T (.slice none 0 0) [] := World.ownsRow_nil _ _ _ _
theorem Own.form {w : World} {base : Nat} {T : TypeId} {v : Value} {l : List Ed} (h : Own w base T v l) : (l = [] ∧ v = .slice none 0 0) ∨ ∃ g cap, v = .slice (some ⟨g, 0, none⟩) l.length cap ∧ base ≤ g ∧ g < w.heap.size ∧ l.length ≤ cap ∧ cap ≤ 9223372036854775807 := by
  rcases h.2 with ⟨hv, hn⟩ | ⟨g, cap, cur, hv, hb, hg, hc, hm, _⟩
  · exact .inl ⟨List.length_eq_zero_iff.1 hn, hv⟩
  · exact .inr ⟨g, cap, hv, hb, (Array.getElem?_eq_some_iff.1 hg).1, hc, by unfold maxLen at hm; exact hm⟩
theorem Own.at {w : World} {base g n cap : Nat} {T : TypeId} {l : List Ed} (h : Own w base T (.slice (some ⟨g, 0, none⟩) n cap) l) {i : Nat} {x : Ed} (hx : l[i]? = some x) : At3 w g (i * 3) x := by
  have hc : ∀ c u, c < 3 → x.cells[c]? = some u → w.cell? ⟨g, i * 3 + c, none⟩ = some u := by
    intro c u hc hu
    have := World.ownsRow.cells h (g := g) rfl (i * 3 + c) u (by rw [cellsL_at hx c hc]; exact hu)
    rw [show ((⟨g, 0, none⟩ : Addr).add (i * 3 + c)) = ⟨g, i * 3 + c, none⟩ by unfold Addr.add; split <;> simp_all] at this
    exact this
  exact ⟨hc 0 _ (by omega) rfl, hc 1 _ (by omega) rfl, hc 2 _ (by omega) rfl⟩
theorem Own.free {w : World} {base g n cap : Nat} {T : TypeId} {l : List Ed} (h : Own w base T (.slice (some ⟨g, 0, none⟩) n cap) l) (o : Nat) : w.frozen? ⟨g, o, none⟩ = false := by
  rcases h.2 with ⟨hv, _⟩ | ⟨g', cap', cur, hv, _, hg, _⟩
  · simp at hv
  · simp at hv
    obtain ⟨rfl, _⟩ := hv
    simp [World.frozen?, hg]
theorem Own.rd {w : World} {base : Nat} {T : TypeId} {v : Value} {l : List Ed} (h : Own w base T v l) (hw : ∀ x ∈ l, x.Wf) : Rd w v l := by
  rcases h.form with ⟨rfl, rfl⟩ | ⟨g, cap, rfl, _, _, hc, hm⟩
  · exact Rd.nil w
  · exact ⟨some ⟨g, 0, none⟩, cap, rfl, hc, hm, hw, .inr ⟨g, 0, rfl, fun i x hx => by rw [Nat.zero_add]; exact h.at hx⟩⟩
theorem Own.sl {w : World} {base : Nat} {T : TypeId} {v : Value} {l : List Ed} (h : Own w base T v l) (hw : ∀ x ∈ l, x.Wf) : Sl w v l := by
  rcases h.form with ⟨rfl, rfl⟩ | ⟨g, cap, rfl, _, _, hc, hm⟩
  · exact Sl.nil w
  · exact ⟨some ⟨g, 0, none⟩, cap, rfl, .inr ⟨g, 0, rfl, fun i x hx => by rw [Nat.zero_add]; exact h.at hx⟩, hc, hm, hw⟩
theorem Own.below {w w' : World} {base : Nat} {T : TypeId} {v : Value} {l : List Ed} (h : Own w base T v l) (hw : Below w.heap.size w w') : Own w' base T v l := by
  refine ⟨h.1, ?_⟩
  rcases h.2 with h2 | ⟨g, cap, cur, rfl, hb, hg, rest⟩
  · exact .inl h2
  · exact .inr ⟨g, cap, cur, rfl, hb, (hw.block g (Array.getElem?_eq_some_iff.1 hg).1).trans hg, rest⟩
theorem Own.draw {w : World} {base : Nat} {T : TypeId} {v : Value} {l : List Ed} (h : Own w base T v l) (n : Nat) : Own (w.drewN n) base T v l := h
theorem Own.mono {w : World} {base base' : Nat} {T : TypeId} {v : Value} {l : List Ed} (h : Own w base T v l) (hb : base' ≤ base) : Own w base' T v l := by
  refine ⟨h.1, ?_⟩
  rcases h.2 with h2 | ⟨g, cap, cur, rfl, hg, rest⟩
  · exact .inl h2
  · exact .inr ⟨g, cap, cur, rfl, by omega, rest⟩
def RdI (w : World) (v : Value) (l : List Int) : Prop := ∃ (ao : Option Addr) (cap : Nat), v = .slice ao l.length cap ∧ l.length ≤ cap ∧ cap ≤ 9223372036854775807 ∧ (∀ x ∈ l, -9223372036854775808 ≤ x ∧ x ≤ 9223372036854775807) ∧
  (l = [] ∨ ∃ b off, ao = some ⟨b, off, none⟩ ∧ ∀ (i : Nat) (x : Int), l[i]? = some x → w.cell? ⟨b, off + i, none⟩ = some (.int .i64 x))
theorem RdI.below {w w' : World} {v : Value} {l : List Int} (h : RdI w v l) (hw : Below w.heap.size w w') : RdI w' v l := by
  obtain ⟨ao, cap, rfl, h1, h2, h3, h4⟩ := h
  refine ⟨ao, cap, rfl, h1, h2, h3, ?_⟩
  rcases h4 with h4 | ⟨b, off, ha, h4⟩
  · exact .inl h4
  · exact .inr ⟨b, off, ha, fun i x hx => (hw.cell (p := ⟨b, off + i, none⟩) (Lib.lt_of_cell (h4 i x hx))).trans (h4 i x hx)⟩
theorem RdI.wf {w : World} {v : Value} {l : List Int} (h : RdI w v l) : ∀ x ∈ l, -9223372036854775808 ≤ x ∧ x ≤ 9223372036854775807 := by obtain ⟨_, _, _, _, _, h, _⟩ := h; exact h
theorem at_ofI {l : List Int} {i : Nat} (h : i < l.length) : ∃ x, l[i]? = some x ∧ x ∈ l := ⟨l[i], List.getElem?_eq_getElem h, List.getElem_mem h⟩
theorem RdI.take {w : World} {ao : Option Addr} {n cap : Nat} {l : List Int} (h : RdI w (.slice ao n cap) l) (k : Nat) (hk : k ≤ l.length) (cap' : Nat) (hc : k ≤ cap') (hc' : cap' ≤ 9223372036854775807) : RdI w (.slice ao k cap') (l.take k) := by
  obtain ⟨ao', cap2, hv, h1, h2, h3, h4⟩ := h
  simp only [Value.slice.injEq] at hv
  obtain ⟨rfl, rfl, rfl⟩ := hv
  refine ⟨ao, cap', by rw [List.length_take, Nat.min_eq_left hk], by rw [List.length_take]; omega, hc', fun x hx => h3 x (List.mem_of_mem_take hx), ?_⟩
  rcases h4 with h4 | ⟨b, off, ha, h4⟩
  · subst h4; simp
  · refine .inr ⟨b, off, ha, fun i x hx => ?_⟩
    have hi : i < k := by have := (List.getElem?_eq_some_iff.1 hx).1; rw [List.length_take] at this; omega
    rw [List.getElem?_take_of_lt hi] at hx
    exact h4 i x hx
structure MatF (w : World) (base g : Nat) (r : Nat → Nat) (n : Nat) (M : Nat → Nat → Int) : Prop where
  top : w.rowIs g 59 n (fun i => .slice (some ⟨r i, 0, none⟩) n n)
  row : ∀ i, i < n → w.rowIs (r i) 36 n (fun j => .int .u64 (M i j))
  inj : ∀ i i', i < n → i' < n → r i = r i' → i = i'
  far : ∀ i, i < n → r i ≠ g
  lo : base ≤ g
  los : ∀ i, i < n → base ≤ r i
theorem MatF.below {w w' : World} {base g : Nat} {r : Nat → Nat} {n : Nat} {M : Nat → Nat → Int} (h : MatF w base g r n M) (hw : Below w.heap.size w w') : MatF w' base g r n M :=
  ⟨h.top.of_block (hw.block _ h.top.lt), fun i hi => (h.row i hi).of_block (hw.block _ (h.row i hi).lt), h.inj, h.far, h.lo, h.los⟩
theorem MatF.base {w : World} {base base' g : Nat} {r : Nat → Nat} {n : Nat} {M : Nat → Nat → Int} (h : MatF w base g r n M) (hb : base' ≤ base) : MatF w base' g r n M :=
  ⟨h.top, h.row, h.inj, h.far, Nat.le_trans hb h.lo, fun i hi => Nat.le_trans hb (h.los i hi)⟩
def upd (M : Nat → Nat → Int) (a b : Nat) (v : Int) : Nat → Nat → Int := fun i j => if i = a ∧ j = b then v else M i j
theorem MatF.set {w : World} {base g : Nat} {r : Nat → Nat} {n : Nat} {M : Nat → Nat → Int} (h : MatF w base g r n M) {a b : Nat} (ha : a < n) (hb : b < n) (v : Int) : MatF (w.setCell ⟨r a, b, none⟩ (.int .u64 v)) base g r n (upd M a b v) := by
  refine ⟨h.top.setOther (Ne.symm (h.far a ha)) _, fun i hi => ?_, h.inj, h.far, h.lo, h.los⟩
  by_cases e : i = a
  · subst e
    refine ((h.row i hi).set b (.int .u64 v)).congr fun j hj => ?_
    unfold upd
    by_cases ej : j = b
    · rw [if_pos ej, if_pos ⟨rfl, ej⟩]
    · rw [if_neg ej, if_neg (fun h => ej h.2)]
  · refine ((h.row i hi).setOther (fun er => e (h.inj i a hi ha er)) _).congr fun j hj => ?_
    unfold upd
    rw [if_neg (fun h => e h.1)]
theorem MatF.eq {w : World} {base g : Nat} {r : Nat → Nat} {n : Nat} {M M' : Nat → Nat → Int} (h : MatF w base g r n M) (e : ∀ i j, i < n → j < n → M i j = M' i j) : MatF w base g r n M' :=
  ⟨h.top, fun i hi => (h.row i hi).congr fun j hj => by rw [e i j hi hj], h.inj, h.far, h.lo, h.los⟩
def Mat (w : World) (base : Nat) (v : Value) (n : Nat) (M : Nat → Nat → Int) : Prop := ∃ g r, v = .slice (some ⟨g, 0, none⟩) n n ∧ MatF w base g r n M
theorem Mat.below {w w' : World} {base : Nat} {v : Value} {n : Nat} {M : Nat → Nat → Int} (h : Mat w base v n M) (hw : Below w.heap.size w w') : Mat w' base v n M := by
  obtain ⟨g, r, e, h⟩ := h
  exact ⟨g, r, e, h.below hw⟩
theorem Mat.base {w : World} {base base' : Nat} {v : Value} {n : Nat} {M : Nat → Nat → Int} (h : Mat w base v n M) (hb : base' ≤ base) : Mat w base' v n M := by
  obtain ⟨g, r, e, h⟩ := h
  exact ⟨g, r, e, h.base hb⟩
theorem infoRow : (Tryz.prog.info? 59).map (fun i => (i.zero, i.size, i.bytes)) = some (some (.slice none 0 0), 1, 24) := by kernel_rfl
theorem infoU : (Tryz.prog.info? 36).map (fun i => (i.zero, i.size, i.bytes)) = some (some (.int .u64 0), 1, 8) := by kernel_rfl
end Go.Proofs.YtlkljeedlkbkgaaGreatDoor.Gr
