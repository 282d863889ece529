/-
  PACKAGE clock, PLAIN MATHEMATICS: where two meet; the numbering.
-/
import Derived.Test.YtmggnalobfihnaaCkMath
namespace Go.Proofs.Ytmggnalobfihnaa.Ck
open Mm (Ev)
set_option linter.unusedVariables false

def Meets (m : List Ev) (i k : Nat) : Prop := i < k ∧ ∃ a e, m[i]? = some a ∧ m[k]? = some e ∧ (a.k = 2 ∨ a.k = 3) ∧ (e.k = 2 ∨ e.k = 3) ∧ a.a = e.a ∧ a.w ≠ e.w ∧ (a.k = 3 ∨ e.k = 3) ∧ ¬ HB m i k
/-- The first two that meet. -/
def IsFirst (m : List Ev) (x y : Int) : Prop := (x = -1 ∧ y = -1 ∧ ∀ i k, ¬ Meets m i k) ∨ ∃ i k : Nat, x = i ∧ y = k ∧ Meets m i k ∧ (∀ k', k' < k → ∀ i', ¬ Meets m i' k') ∧ ∀ i', i' < i → ¬ Meets m i' k
theorem isFirst_one {m : List Ev} {x y x' y' : Int} (h : IsFirst m x y) (h' : IsFirst m x' y') : x = x' ∧ y = y' := by
  rcases h with ⟨rfl, rfl, h⟩ | ⟨i, k, rfl, rfl, h1, h2, h3⟩
  · rcases h' with ⟨rfl, rfl, _⟩ | ⟨i', k', rfl, rfl, h1', _⟩
    · exact ⟨rfl, rfl⟩
    · exact absurd h1' (h _ _)
  · rcases h' with ⟨rfl, rfl, h'⟩ | ⟨i', k', rfl, rfl, h1', h2', h3'⟩
    · exact absurd h1 (h' _ _)
    · have hk : k = k' := by
        rcases Nat.lt_trichotomy k k' with h | h | h
        · exact absurd h1 (h2' k h i)
        · exact h
        · exact absurd h1' (h2 k' h i')
      subst hk
      have hi : i = i' := by
        rcases Nat.lt_trichotomy i i' with h | h | h
        · exact absurd h1 (h3' i h)
        · exact h
        · exact absurd h1' (h3 i' h)
      subst hi
      exact ⟨rfl, rfl⟩
variable {l m : List Ev} {nw nt : Nat}
theorem meets_norm (h : Norm l m nw nt) {i k : Nat} : Meets m i k ↔ Meets l i k := by
  have key : ∀ (a b a' b' : Ev), l[i]? = some a → m[i]? = some b → l[k]? = some a' → m[k]? = some b' → Th a → Th a' → ((b.k = 2 ∨ b.k = 3) ∧ (b'.k = 2 ∨ b'.k = 3) ∧ b.a = b'.a ∧ b.w ≠ b'.w ∧ (b.k = 3 ∨ b'.k = 3) ∧ ¬ HB m i k ↔ (a.k = 2 ∨ a.k = 3) ∧ (a'.k = 2 ∨ a'.k = 3) ∧ a.a = a'.a ∧ a.w ≠ a'.w ∧ (a.k = 3 ∨ a'.k = 3) ∧ ¬ HB l i k) := by
    intro a b a' b' ha hb ha' hb' ta ta'
    have y := h.yes i a b ha hb ta
    have y' := h.yes k a' b' ha' hb' ta'
    rw [y.1, y'.1, hb_norm h, h.aa i k a a' b b' ha ha' hb hb' ta ta', Ne, h.ww i k a a' b b' ha ha' hb hb' ta ta']
    constructor
    · rintro ⟨q1, q2, q3, q4⟩
      exact ⟨q1, q2, q3.2, q4⟩
    · rintro ⟨q1, q2, q3, q4⟩
      refine ⟨q1, q2, ⟨?_, q3⟩, q4⟩
      rcases q1 with q1 | q1 <;> rcases q2 with q2 | q2 <;> rw [q1, q2] <;> rfl
  constructor
  · rintro ⟨h1, b, b', hb, hb', q⟩
    obtain ⟨a, ha⟩ := h.back hb
    obtain ⟨a', ha'⟩ := h.back hb'
    have ta := (h.th ha hb).1 (by unfold Th; omega)
    have ta' := (h.th ha' hb').1 (by unfold Th; omega)
    exact ⟨h1, a, a', ha, ha', (key a b a' b' ha hb ha' hb' ta ta').1 q⟩
  · rintro ⟨h1, a, a', ha, ha', q⟩
    obtain ⟨b, hb⟩ := h.fwd ha
    obtain ⟨b', hb'⟩ := h.fwd ha'
    exact ⟨h1, b, b', hb, hb', (key a b a' b' ha hb ha' hb' (by unfold Th; omega) (by unfold Th; omega)).2 q⟩
theorem isFirst_norm (h : Norm l m nw nt) {x y : Int} (hf : IsFirst m x y) : IsFirst l x y := by
  rcases hf with ⟨h1, h2, h3⟩ | ⟨i, k, h1, h2, h3, h4, h5⟩
  · exact .inl ⟨h1, h2, fun i k q => h3 i k ((meets_norm h).2 q)⟩
  · exact .inr ⟨i, k, h1, h2, (meets_norm h).1 h3, fun k' hk i' q => h4 k' hk i' ((meets_norm h).2 q), fun i' hi q => h5 i' hi ((meets_norm h).2 q)⟩
theorem take_at {n : Nat} (i : Nat) (hi : i < (m.take n).length) : (m.take n)[i]? = m[0 + i]? := by
  rw [List.length_take] at hi
  rw [List.getElem?_take_of_lt (by omega), Nat.zero_add]
theorem meets_take {n : Nat} {i k : Nat} : Meets (m.take n) i k ↔ Meets m i k ∧ k < n := by
  constructor
  · rintro ⟨h1, a, e, ha, he, q1, q2, q3, q4, q5, q6⟩
    have hk := (List.getElem?_eq_some_iff.1 he).1
    have hk' := hk
    rw [List.length_take] at hk'
    refine ⟨⟨h1, a, e, ?_, ?_, q1, q2, q3, q4, q5, fun h => q6 ?_⟩, by omega⟩
    · rw [← ha, take_at i (by omega), Nat.zero_add]
    · rw [← he, take_at k hk, Nat.zero_add]
    · exact (hb_sub (s := 0) take_at hk).2 (by simpa using h)
  · rintro ⟨⟨h1, a, e, ha, he, q1, q2, q3, q4, q5, q6⟩, hk⟩
    have hkl := (List.getElem?_eq_some_iff.1 he).1
    have hk' : k < (m.take n).length := by rw [List.length_take]; omega
    refine ⟨h1, a, e, ?_, ?_, q1, q2, q3, q4, q5, fun h => q6 ?_⟩
    · rw [take_at i (by omega), Nat.zero_add]; exact ha
    · rw [take_at k hk', Nat.zero_add]; exact he
    · have := (hb_sub (s := 0) take_at hk').1 h; simpa using this

/-! ### the first Race of one Who's -/
variable {who : Int} {k : Nat} {W H G S : List Int} {e : Ev}
def LastP (m : List Ev) (who q x : Int) (k : Nat) (N : Int) : Prop := 0 ≤ N ∧ N ≤ (k : Int) ∧ (∀ (i : Nat) a, i < k → m[i]? = some a → a.w = who → a.k = q → a.a = x → (i : Int) < N) ∧ (0 < N → ∃ (i : Nat) (a : Ev), N = (i : Int) + 1 ∧ i < k ∧ m[i]? = some a ∧ a.w = who ∧ a.k = q ∧ a.a = x)
structure MInv (m : List Ev) (who : Int) (nt k : Nat) (G S : List Int) : Prop where
  lg : G.length = nt
  ls : S.length = nt
  g : ∀ x : Int, 0 ≤ x → x < (nt : Int) → LastP m who 2 x k (G.getD x.toNat 0)
  s : ∀ x : Int, 0 ≤ x → x < (nt : Int) → LastP m who 3 x k (S.getD x.toNat 0)
theorem minv_start (m : List Ev) (who : Int) (nt : Nat) : MInv m who nt 0 (List.replicate nt 0) (List.replicate nt 0) := by
  have hz : ∀ n i : Nat, (List.replicate n (0 : Int)).getD i 0 = 0 := fun n i => by
    rw [List.getD_eq_getElem?_getD, List.getElem?_replicate]; split <;> rfl
  refine ⟨by simp, by simp, fun x _ _ => ?_, fun x _ _ => ?_⟩ <;>
  · rw [hz]; exact ⟨by decide, by decide, fun i a h => absurd h (by omega), fun h => absurd h (by decide)⟩
theorem LastP.skip {q x N : Int} (h : LastP m who q x k N) (he : m[k]? = some e) (hn : ¬ (e.w = who ∧ e.k = q ∧ e.a = x)) : LastP m who q x (k + 1) N := by
  refine ⟨h.1, by have := h.2.1; omega, fun i a hi ha h1 h2 h3 => ?_, fun h0 => ?_⟩
  · by_cases hik : i = k
    · subst hik; rw [he] at ha; cases ha; exact absurd ⟨h1, h2, h3⟩ hn
    · exact h.2.2.1 i a (by omega) ha h1 h2 h3
  · obtain ⟨i, a, h1, h2, h3⟩ := h.2.2.2 h0
    exact ⟨i, a, h1, by omega, h3⟩
theorem LastP.here {q x : Int} (he : m[k]? = some e) (hn : e.w = who ∧ e.k = q ∧ e.a = x) : LastP m who q x (k + 1) ((k : Int) + 1) :=
  ⟨by omega, by omega, fun i a hi _ _ _ _ => by omega, fun _ => ⟨k, e, rfl, by omega, he, hn⟩⟩
theorem minv_skip (h : MInv m who nt k G S) (he : m[k]? = some e) (hn : ¬ (e.w = who ∧ (e.k = 2 ∨ e.k = 3))) : MInv m who nt (k + 1) G S :=
  ⟨h.lg, h.ls, fun x h0 h1 => (h.g x h0 h1).skip he fun q => hn ⟨q.1, .inl q.2.1⟩, fun x h0 h1 => (h.s x h0 h1).skip he fun q => hn ⟨q.1, .inr q.2.1⟩⟩
theorem minv_get (hG : Gd m nw nt) (h : MInv m who nt k G S) (he : m[k]? = some e) (hw : e.w = who) (hk : e.k = 2) : MInv m who nt (k + 1) (G.set e.a.toNat ((k : Int) + 1)) S := by
  obtain ⟨_, a0, a1⟩ := hG.yes k e he (by unfold Th; omega)
  have hl := h.lg
  refine ⟨by simp [h.lg], h.ls, fun x h0 h1 => ?_, fun x h0 h1 => (h.s x h0 h1).skip he fun q => by omega⟩
  by_cases hx : e.a = x
  · rw [hx, getD_set_self (by omega)]
    exact LastP.here he ⟨hw, hk, hx⟩
  · rw [getD_set_ne (by omega)]
    exact (h.g x h0 h1).skip he fun q => hx q.2.2
theorem minv_set (hG : Gd m nw nt) (h : MInv m who nt k G S) (he : m[k]? = some e) (hw : e.w = who) (hk : e.k = 3) : MInv m who nt (k + 1) G (S.set e.a.toNat ((k : Int) + 1)) := by
  obtain ⟨_, a0, a1⟩ := hG.yes k e he (by unfold Th; omega)
  have hl := h.ls
  refine ⟨h.lg, by simp [h.ls], fun x h0 h1 => (h.g x h0 h1).skip he fun q => by omega, fun x h0 h1 => ?_⟩
  by_cases hx : e.a = x
  · rw [hx, getD_set_self (by omega)]
    exact LastP.here he ⟨hw, hk, hx⟩
  · rw [getD_set_ne (by omega)]
    exact (h.s x h0 h1).skip he fun q => hx q.2.2
/-- Who's Event i meets that in place k just where it isn't known to it, and the box is the same, and one of both is a Set. -/
theorem meets_iff {N : Int} (hG : Gd m nw nt) (hN : Top m who (fun i => HB m i k) N) (hw0 : 0 ≤ who) (he : m[k]? = some e) (hk : e.k = 2 ∨ e.k = 3) (hne : e.w ≠ who) {i : Nat} {a : Ev} (hi : i < k) (ha : m[i]? = some a) (haw : a.w = who) :
    Meets m i k ↔ N ≤ (i : Int) ∧ a.a = e.a ∧ (a.k = 3 ∨ e.k = 3) := by
  have ta : Th a := by
    by_cases t : Th a
    · exact t
    · have := hG.no i a ha t; subst this; exact absurd haw (by show ¬ ((-1 : Int) = who); omega)
  have te : Th e := by unfold Th; omega
  have hh := hN.iff (i := i) ha ta haw
  constructor
  · rintro ⟨_, a', e', ha', he', q1, q2, q3, q4, q5, q6⟩
    rw [ha] at ha'; cases ha'
    rw [he] at he'; cases he'
    exact ⟨by rw [hh] at q6; omega, q3, q5⟩
  · rintro ⟨q1, q2, q3⟩
    have hs := hG.so i k a e ha he ta te q2
    unfold srt at hs
    unfold Th at ta
    refine ⟨hi, a, e, ha, he, by omega, hk, q2, by rw [haw]; exact fun h => hne h.symm, q3, by rw [hh]; omega⟩
/-- Is there one? -/
def testB (e : Ev) (G S : List Int) (N : Int) : Bool := decide (N < S.getD e.a.toNat 0) || (e.k == 3 && decide (N < G.getD e.a.toNat 0))
theorem test_iff {N : Int} (hG : Gd m nw nt) (hI : MInv m who nt k G S) (hN : Top m who (fun i => HB m i k) N) (hw0 : 0 ≤ who) (he : m[k]? = some e) (hk : e.k = 2 ∨ e.k = 3) (hne : e.w ≠ who) :
    testB e G S N = true ↔ ∃ i a, m[i]? = some a ∧ a.w = who ∧ Meets m i k := by
  obtain ⟨_, a0, a1⟩ := hG.yes k e he (by unfold Th; omega)
  have hg := hI.g e.a a0 a1
  have hs := hI.s e.a a0 a1
  unfold testB
  simp only [Bool.or_eq_true, Bool.and_eq_true, decide_eq_true_eq, beq_iff_eq]
  constructor
  · rintro (h | ⟨h3, h⟩)
    · obtain ⟨i, a, h1, h2, h3, h4, h5, h6⟩ := hs.2.2.2 (by have := hN.1; omega)
      exact ⟨i, a, h3, h4, (meets_iff hG hN hw0 he hk hne h2 h3 h4).2 ⟨by omega, h6, .inl h5⟩⟩
    · obtain ⟨i, a, h1, h2, h3', h4, h5, h6⟩ := hg.2.2.2 (by have := hN.1; omega)
      exact ⟨i, a, h3', h4, (meets_iff hG hN hw0 he hk hne h2 h3' h4).2 ⟨by omega, h6, .inr h3⟩⟩
  · rintro ⟨i, a, ha, haw, hm⟩
    have hi := hm.1
    obtain ⟨q1, q2, q3⟩ := (meets_iff hG hN hw0 he hk hne hi ha haw).1 hm
    obtain ⟨_, a', e', ha', he', p1, _⟩ := hm
    rw [ha] at ha'; cases ha'
    rcases p1 with p1 | p1
    · have := hg.2.2.1 i a hi ha haw p1 q2
      exact .inr ⟨by omega, by omega⟩
    · have := hs.2.2.1 i a hi ha haw p1 q2
      exact .inl (by omega)
theorem take_some {n i : Nat} {a : Ev} (h : (m.take n)[i]? = some a) : m[i]? = some a ∧ i < n := by
  have hi : i < n := by have := (List.getElem?_eq_some_iff.1 h).1; rw [List.length_take] at this; omega
  rw [List.getElem?_take_of_lt hi] at h
  exact ⟨h, hi⟩
def meetB (a e : Ev) : Bool := a.a == e.a && (a.k == 3 || e.k == 3)
def hitB (who : Int) (e a : Ev) : Bool := a.w == who && meetB a e
theorem first_hit (p : Ev → Bool) : ∀ (L : List Ev), (∃ (i : Nat) (a : Ev), L[i]? = some a ∧ p a = true) → ∃ (j : Nat) (a : Ev), L[j]? = some a ∧ p a = true ∧ ∀ (j' : Nat) a', j' < j → L[j']? = some a' → p a' = false
  | [], ⟨i, a, h, _⟩ => by simp at h
  | x :: r, ⟨i, a, h, hp⟩ => by
    by_cases hx : p x = true
    · exact ⟨0, x, rfl, hx, fun j' _ h => absurd h (by omega)⟩
    · have hi : i ≠ 0 := fun e => by subst e; simp at h; subst h; exact hx hp
      obtain ⟨i', rfl⟩ : ∃ i', i = i' + 1 := ⟨i - 1, by omega⟩
      obtain ⟨j, b, h1, h2, h3⟩ := first_hit p r ⟨i', a, by simpa using h, hp⟩
      refine ⟨j + 1, b, by simpa using h1, h2, fun j' a' hj ha => ?_⟩
      cases j' with
      | zero => simp at ha; subst ha; simpa using hx
      | succ j' => exact h3 j' a' (by omega) (by simpa using ha)
/-- No one of who's meets one of the first k. -/
def NoneP (m : List Ev) (who : Int) (k : Nat) : Prop := ∀ k', k' < k → ∀ i a, m[i]? = some a → a.w = who → ¬ Meets m i k'
def FirstW (m : List Ev) (who : Int) (x y : Int) : Prop := (x = -1 ∧ y = -1 ∧ NoneP m who m.length) ∨ ∃ (i k : Nat) (a : Ev), x = i ∧ y = k ∧ m[i]? = some a ∧ a.w = who ∧ Meets m i k ∧ NoneP m who k ∧ ∀ i' a', i' < i → m[i']? = some a' → a'.w = who → ¬ Meets m i' k
theorem none_skip (h : NoneP m who k) (he : m[k]? = some e) (hn : ¬ (e.k = 2 ∨ e.k = 3) ∨ e.w = who) : NoneP m who (k + 1) := by
  intro k' hk' i a ha hw hm
  by_cases hkk : k' = k
  · subst hkk
    obtain ⟨_, a', e', ha', he', p1, p2, p3, p4, _⟩ := hm
    rw [ha] at ha'; cases ha'
    rw [he] at he'; cases he'
    rcases hn with hn | hn
    · exact hn p2
    · exact p4 (by rw [hw, hn])
  · exact h k' (by omega) i a ha hw hm
theorem none_test {N : Int} (hG : Gd m nw nt) (hI : MInv m who nt k G S) (hN : Top m who (fun i => HB m i k) N) (hw0 : 0 ≤ who) (he : m[k]? = some e) (hk : e.k = 2 ∨ e.k = 3) (hne : e.w ≠ who) (ht : testB e G S N = false) (h : NoneP m who k) : NoneP m who (k + 1) := by
  intro k' hk' i a ha hw hm
  by_cases hkk : k' = k
  · subst hkk
    have := (test_iff hG hI hN hw0 he hk hne).2 ⟨i, a, ha, hw, hm⟩
    rw [ht] at this; cases this
  · exact h k' (by omega) i a ha hw hm

theorem pick_first {N : Nat} (hG : Gd m nw nt) (hI : MInv m who nt k G S) (hN : Top m who (fun i => HB m i k) (N : Int)) (hw0 : 0 ≤ who) (he : m[k]? = some e) (hk : e.k = 2 ∨ e.k = 3) (hne : e.w ≠ who) (ht : testB e G S (N : Int) = true) (hn : NoneP m who k) :
    ∃ (j : Nat) (a : Ev), ((m.take k).drop N)[j]? = some a ∧ hitB who e a = true ∧ (∀ (j' : Nat) a', j' < j → ((m.take k).drop N)[j']? = some a' → hitB who e a' = false) ∧ FirstW m who ((N : Int) + (j : Int)) (k : Int) := by
  have hL : ∀ (j : Nat) a, ((m.take k).drop N)[j]? = some a → m[N + j]? = some a ∧ N + j < k := fun j a h => by
    rw [List.getElem?_drop] at h
    exact take_some h
  have hL' : ∀ (j : Nat) a, m[N + j]? = some a → N + j < k → ((m.take k).drop N)[j]? = some a := fun j a h hj => by
    rw [List.getElem?_drop, List.getElem?_take_of_lt hj]; exact h
  have hhit : ∀ (i : Nat) a, i < k → m[i]? = some a → N ≤ i → (hitB who e a = true ↔ a.w = who ∧ Meets m i k) := fun i a hi ha hni => by
    unfold hitB meetB
    simp only [Bool.and_eq_true, Bool.or_eq_true, beq_iff_eq]
    constructor
    · rintro ⟨h1, h2, h3⟩
      exact ⟨h1, (meets_iff hG hN hw0 he hk hne hi ha h1).2 ⟨by omega, h2, h3⟩⟩
    · rintro ⟨h1, h2⟩
      have := (meets_iff hG hN hw0 he hk hne hi ha h1).1 h2
      exact ⟨h1, this.2⟩
  obtain ⟨i, a, ha, haw, hm⟩ := (test_iff hG hI hN hw0 he hk hne).1 ht
  have hik := hm.1
  have hni : N ≤ i := by have := ((meets_iff hG hN hw0 he hk hne hik ha haw).1 hm).1; omega
  obtain ⟨j, b, h1, h2, h3⟩ := first_hit (hitB who e) ((m.take k).drop N) ⟨i - N, a, hL' (i - N) a (by rw [show N + (i - N) = i by omega]; exact ha) (by omega), (hhit i a hik ha hni).2 ⟨haw, hm⟩⟩
  obtain ⟨q1, q2⟩ := hL j b h1
  obtain ⟨q3, q4⟩ := (hhit (N + j) b q2 q1 (by omega)).1 h2
  refine ⟨j, b, h1, h2, h3, .inr ⟨N + j, k, b, by omega, rfl, q1, q3, q4, hn, fun i' a' hi' ha' hw' hm' => ?_⟩⟩
  have hni' : N ≤ i' := by have := ((meets_iff hG hN hw0 he hk hne hm'.1 ha' hw').1 hm').1; omega
  have := h3 (i' - N) a' (by omega) (hL' (i' - N) a' (by rw [show N + (i' - N) = i' by omega]; exact ha') (by omega))
  rw [(hhit i' a' hm'.1 ha' hni').2 ⟨hw', hm'⟩] at this
  cases this

/-! ### all Whos -/
/-- What was found by the Whos below q. -/
def Upto (m : List Ev) (q : Nat) (x y : Int) (c : Nat) : Prop := (x = -1 ∧ y = -1 ∧ c = m.length ∧ ∀ i k a, m[i]? = some a → a.w < (q : Int) → ¬ Meets m i k) ∨
  ∃ (i k : Nat) (a : Ev), x = i ∧ y = k ∧ c = k + 1 ∧ m[i]? = some a ∧ a.w < (q : Int) ∧ Meets m i k ∧ (∀ k' i' a', k' < k → m[i']? = some a' → a'.w < (q : Int) → ¬ Meets m i' k') ∧ ∀ i' a', i' < i → m[i']? = some a' → a'.w < (q : Int) → ¬ Meets m i' k
theorem upto_start (hG : Gd m nw nt) : Upto m 0 (-1) (-1) m.length := by
  refine .inl ⟨rfl, rfl, rfl, fun i k a ha hw hm => ?_⟩
  obtain ⟨_, a', e', ha', he', p1, _⟩ := hm
  rw [ha] at ha'; cases ha'
  have := (hG.yes i a ha (by unfold Th; omega)).1
  omega
theorem upto_end (hG : Gd m nw nt) {x y : Int} {c : Nat} (h : Upto m nw x y c) : IsFirst m x y := by
  have hb : ∀ i k, Meets m i k → ∃ a, m[i]? = some a ∧ a.w < (nw : Int) := fun i k hm => by
    obtain ⟨_, a, e, ha, he, p1, _⟩ := hm
    exact ⟨a, ha, (hG.yes i a ha (by unfold Th; omega)).1.2⟩
  rcases h with ⟨h1, h2, _, h3⟩ | ⟨i, k, a, h1, h2, _, h3, h4, h5, h6, h7⟩
  · exact .inl ⟨h1, h2, fun i k hm => by obtain ⟨a, ha, hw⟩ := hb i k hm; exact h3 i k a ha hw hm⟩
  · exact .inr ⟨i, k, h1, h2, h5, fun k' hk i' hm => by obtain ⟨a, ha, hw⟩ := hb i' k' hm; exact h6 k' i' a hk ha hw hm, fun i' hi hm => by obtain ⟨a, ha, hw⟩ := hb i' k hm; exact h7 i' a hi ha hw hm⟩
theorem upto_len {q : Nat} {x y : Int} {c : Nat} (h : Upto m q x y c) : c ≤ m.length ∧ (x = -1 ∧ y = -1 ∨ 0 ≤ x ∧ x < y ∧ (c : Int) = y + 1) := by
  rcases h with ⟨h1, h2, h3, _⟩ | ⟨i, k, a, h1, h2, h3, h4, _, h5, _⟩
  · exact ⟨by omega, .inl ⟨h1, h2⟩⟩
  · obtain ⟨h6, _, e, _, he, _⟩ := h5
    have := (List.getElem?_eq_some_iff.1 he).1
    exact ⟨by omega, .inr ⟨by omega, by omega, by omega⟩⟩
def better (x y x' y' : Int) : Bool := decide (0 ≤ x') && (decide (x < 0) || decide (y' < y) || decide (x' < x))
theorem upto_step {q : Nat} {x y x' y' : Int} {c : Nat} (h : Upto m q x y c) (hf : FirstW (m.take c) (q : Int) x' y') :
    (better x y x' y' = true → Upto m (q + 1) x' y' (y' + 1).toNat) ∧ (better x y x' y' = false → Upto m (q + 1) x y c) := by
  have hc := (upto_len h).1
  -- what q itself meets, in the first c
  have hq : ∀ (i k : Nat) (a : Ev), m[i]? = some a → a.w < ((q + 1 : Nat) : Int) → a.w < (q : Int) ∨ a.w = (q : Int) := fun i k a _ h => by omega
  rcases hf with ⟨rfl, rfl, hn⟩ | ⟨i, k, a, rfl, rfl, ha, haw, hm, hn, hl⟩
  · have hq' : ∀ i k a, m[i]? = some a → a.w = (q : Int) → k < c → ¬ Meets m i k := fun i k a ha hw hk hm => by
      have hlt := hm.1
      have hic : i < c := by omega
      have hkl : k < (m.take c).length := by obtain ⟨_, _, e, _, he, _⟩ := hm; have := (List.getElem?_eq_some_iff.1 he).1; rw [List.length_take]; omega
      exact hn k hkl i a (by rw [List.getElem?_take_of_lt hic]; exact ha) hw (meets_take.2 ⟨hm, hk⟩)
    refine ⟨fun hb => by simp [better] at hb, fun _ => ?_⟩
    rcases h with ⟨rfl, rfl, rfl, h3⟩ | ⟨i, k, a, rfl, rfl, rfl, h4, h5, h6, h7, h8⟩
    · refine .inl ⟨rfl, rfl, rfl, fun i k a ha hw hm => ?_⟩
      rcases hq i k a ha hw with hw | hw
      · exact h3 i k a ha hw hm
      · obtain ⟨_, _, e, _, he, _⟩ := id hm
        exact hq' i k a ha hw (List.getElem?_eq_some_iff.1 he).1 hm
    · refine .inr ⟨i, k, a, rfl, rfl, rfl, h4, by omega, h6, fun k' i' a' hk' ha' hw hm => ?_, fun i' a' hi' ha' hw hm => ?_⟩
      · rcases hq i' k' a' ha' hw with hw | hw
        · exact h7 k' i' a' hk' ha' hw hm
        · exact hq' i' k' a' ha' hw (by omega) hm
      · rcases hq i' k a' ha' hw with hw | hw
        · exact h8 i' a' hi' ha' hw hm
        · exact hq' i' k a' ha' hw (by omega) hm
  · obtain ⟨hma, hic⟩ := take_some ha
    obtain ⟨hmm, hkc⟩ := meets_take.1 hm
    have hq' : ∀ i' k' a', m[i']? = some a' → a'.w = (q : Int) → k' < k → ¬ Meets m i' k' := fun i' k' a' ha' hw hk hm' => by
      have hlt := hm'.1
      exact hn k' hk i' a' (by rw [List.getElem?_take_of_lt (by omega)]; exact ha') hw (meets_take.2 ⟨hm', by omega⟩)
    have hl' : ∀ i' a', i' < i → m[i']? = some a' → a'.w = (q : Int) → ¬ Meets m i' k := fun i' a' hi ha' hw hm' =>
      hl i' a' hi (by rw [List.getElem?_take_of_lt (by omega)]; exact ha') hw (meets_take.2 ⟨hm', hkc⟩)
    rcases h with ⟨rfl, rfl, rfl, h3⟩ | ⟨i0, k0, a0, rfl, rfl, rfl, h4, h5, h6, h7, h8⟩
    · refine ⟨fun _ => .inr ⟨i, k, a, rfl, rfl, by omega, hma, by omega, hmm, fun k' i' a' hk' ha' hw hm' => ?_, fun i' a' hi' ha' hw hm' => ?_⟩, fun hb => ?_⟩
      · rcases hq i' k' a' ha' hw with hw | hw
        · exact h3 i' k' a' ha' hw hm'
        · exact hq' i' k' a' ha' hw hk' hm'
      · rcases hq i' k a' ha' hw with hw | hw
        · exact h3 i' k a' ha' hw hm'
        · exact hl' i' a' hi' ha' hw hm'
      · unfold better at hb
        rw [decide_eq_true (show (0 : Int) ≤ (i : Int) by omega), decide_eq_true (show (-1 : Int) < 0 by decide)] at hb
        simp at hb
    · refine ⟨fun hb => ?_, fun hb => ?_⟩
      · have hb' : k < k0 ∨ k = k0 ∧ i < i0 := by
          unfold better at hb
          simp only [Bool.and_eq_true, Bool.or_eq_true, decide_eq_true_eq] at hb
          omega
        refine .inr ⟨i, k, a, rfl, rfl, by omega, hma, by omega, hmm, fun k' i' a' hk' ha' hw hm' => ?_, fun i' a' hi' ha' hw hm' => ?_⟩
        · rcases hq i' k' a' ha' hw with hw | hw
          · exact h7 k' i' a' (by omega) ha' hw hm'
          · exact hq' i' k' a' ha' hw hk' hm'
        · rcases hq i' k a' ha' hw with hw | hw
          · rcases hb' with hb' | ⟨rfl, hb'⟩
            · exact h7 k i' a' hb' ha' hw hm'
            · exact h8 i' a' (by omega) ha' hw hm'
          · exact hl' i' a' hi' ha' hw hm'
      · have hb' : k = k0 ∧ i0 ≤ i := by
          unfold better at hb
          simp only [Bool.and_eq_false_iff, Bool.or_eq_false_iff, decide_eq_false_iff_not] at hb
          omega
        obtain ⟨rfl, hb'⟩ := hb'
        refine .inr ⟨i0, k, a0, rfl, rfl, rfl, h4, by omega, h6, fun k' i' a' hk' ha' hw hm' => ?_, fun i' a' hi' ha' hw hm' => ?_⟩
        · rcases hq i' k' a' ha' hw with hw | hw
          · exact h7 k' i' a' hk' ha' hw hm'
          · exact hq' i' k' a' ha' hw hk' hm'
        · rcases hq i' k a' ha' hw with hw | hw
          · exact h8 i' a' hi' ha' hw hm'
          · exact hl' i' a' (by omega) ha' hw hm'

/-! ### the numbering -/
def ins {κ : Type} [DecidableEq κ] (l : List κ) (x : κ) : List κ := if x ∈ l then l else l ++ [x]
def idx {κ : Type} [DecidableEq κ] : List κ → κ → Nat
  | [], _ => 0
  | y :: r, x => if y = x then 0 else idx r x + 1
section
variable {κ : Type} [DecidableEq κ] {K : List κ} {x y : κ}
theorem idx_get : ∀ {K : List κ}, x ∈ K → K[idx K x]? = some x
  | [], h => by simp at h
  | y :: r, h => by
    unfold idx
    by_cases e : y = x
    · rw [if_pos e]; simp [e]
    · rw [if_neg e]
      have : x ∈ r := by rcases List.mem_cons.1 h with h | h; exact absurd h.symm e; exact h
      simpa using idx_get this
theorem idx_app : ∀ {K : List κ} (L : List κ), y ∈ K → idx (K ++ L) y = idx K y
  | [], _, h => by simp at h
  | z :: r, L, h => by
    show idx (z :: (r ++ L)) y = idx (z :: r) y
    unfold idx
    by_cases e : z = y
    · rw [if_pos e, if_pos e]
    · have : y ∈ r := by rcases List.mem_cons.1 h with h | h; exact absurd h.symm e; exact h
      rw [if_neg e, if_neg e, idx_app L this]
theorem idx_app_no : ∀ {K : List κ}, ¬ x ∈ K → idx (K ++ [x]) x = K.length
  | [], _ => by simp [idx]
  | z :: r, h => by
    show idx (z :: (r ++ [x])) x = _
    unfold idx
    have h1 : z ≠ x := fun e => h (by simp [e])
    have h2 : ¬ x ∈ r := fun e => h (by simp [e])
    rw [if_neg h1, idx_app_no h2]
    rfl
theorem mem_ins : x ∈ ins K x := by unfold ins; split <;> simp_all
theorem mem_ins_of (h : y ∈ K) : y ∈ ins K x := by unfold ins; split <;> simp_all
theorem idx_ins (h : y ∈ K) : idx (ins K x) y = idx K y := by
  unfold ins; split
  · rfl
  · exact idx_app _ h
theorem idx_new (h : ¬ x ∈ K) : idx (ins K x) x = K.length := by
  unfold ins
  rw [if_neg h, idx_app_no h]
theorem ins_yes (h : x ∈ K) : ins K x = K := if_pos h
theorem ins_no (h : ¬ x ∈ K) : ins K x = K ++ [x] := if_neg h
theorem ins_len : (ins K x).length ≤ K.length + 1 := by unfold ins; split <;> simp
theorem idx_lt (h : x ∈ K) : idx K x < K.length := (List.getElem?_eq_some_iff.1 (idx_get h)).1
theorem idx_inj (h : x ∈ K) (h' : y ∈ K) : idx K x = idx K y ↔ x = y := by
  constructor
  · intro e
    have h1 : K[idx K x]? = some x := idx_get h
    have h2 : K[idx K y]? = some y := idx_get h'
    rw [e, h2] at h1
    exact (Option.some.inj h1).symm
  · rintro rfl; rfl
end
structure NumP (l : List Ev) (k : Nat) (K : List Int) (T : List (Int × Int)) (M : List Ev) : Prop where
  len : M.length = l.length
  kk : K.length ≤ k
  kt : T.length ≤ k
  yes : ∀ (i : Nat) a b, i < k → l[i]? = some a → M[i]? = some b → Th a → a.w ∈ K ∧ (srt a.k, a.a) ∈ T ∧ b = ⟨idx K a.w, a.k, idx T (srt a.k, a.a), a.ok⟩
  no : ∀ (i : Nat) a b, i < k → l[i]? = some a → M[i]? = some b → ¬ Th a → b = ⟨-1, -1, -1, false⟩
theorem numP_start (l M : List Ev) (h : M.length = l.length) : NumP l 0 [] [] M := ⟨h, by simp, by simp, fun i _ _ h => absurd h (by omega), fun i _ _ h => absurd h (by omega)⟩
theorem numP_yes {l M : List Ev} {k : Nat} {K : List Int} {T : List (Int × Int)} {e : Ev} (h : NumP l k K T M) (he : l[k]? = some e) (te : Th e) :
    NumP l (k + 1) (ins K e.w) (ins T (srt e.k, e.a)) (M.set k ⟨idx (ins K e.w) e.w, e.k, idx (ins T (srt e.k, e.a)) (srt e.k, e.a), e.ok⟩) := by
  have hk := (List.getElem?_eq_some_iff.1 he).1
  refine ⟨by simp [h.len], by have := h.kk; have := ins_len (K := K) (x := e.w); omega, by have := h.kt; have := ins_len (K := T) (x := (srt e.k, e.a)); omega, fun i a b hi ha hb ta => ?_, fun i a b hi ha hb ta => ?_⟩
  · by_cases hik : i = k
    · subst hik
      rw [he] at ha; cases ha
      rw [List.getElem?_set_self (by rw [h.len]; exact hk)] at hb; cases hb
      exact ⟨mem_ins, mem_ins, rfl⟩
    · rw [List.getElem?_set_ne (Ne.symm hik)] at hb
      obtain ⟨h1, h2, h3⟩ := h.yes i a b (by omega) ha hb ta
      exact ⟨mem_ins_of h1, mem_ins_of h2, by rw [idx_ins h1, idx_ins h2]; exact h3⟩
  · by_cases hik : i = k
    · subst hik; rw [he] at ha; cases ha; exact absurd te ta
    · rw [List.getElem?_set_ne (Ne.symm hik)] at hb
      exact h.no i a b (by omega) ha hb ta
theorem numP_no {l M : List Ev} {k : Nat} {K : List Int} {T : List (Int × Int)} {e : Ev} (h : NumP l k K T M) (he : l[k]? = some e) (te : ¬ Th e) : NumP l (k + 1) K T (M.set k ⟨-1, -1, -1, false⟩) := by
  have hk := (List.getElem?_eq_some_iff.1 he).1
  refine ⟨by simp [h.len], by have := h.kk; omega, by have := h.kt; omega, fun i a b hi ha hb ta => ?_, fun i a b hi ha hb ta => ?_⟩
  · by_cases hik : i = k
    · subst hik; rw [he] at ha; cases ha; exact absurd ta te
    · rw [List.getElem?_set_ne (Ne.symm hik)] at hb
      exact h.yes i a b (by omega) ha hb ta
  · by_cases hik : i = k
    · subst hik
      rw [List.getElem?_set_self (by rw [h.len]; exact hk)] at hb; cases hb
      rfl
    · rw [List.getElem?_set_ne (Ne.symm hik)] at hb
      exact h.no i a b (by omega) ha hb ta
theorem numP_end {l M : List Ev} {K : List Int} {T : List (Int × Int)} (h : NumP l l.length K T M) : Norm l M K.length T.length := by
  have hl : ∀ (i : Nat) a, l[i]? = some a → i < l.length := fun i a ha => (List.getElem?_eq_some_iff.1 ha).1
  refine ⟨h.len, fun i a b ha hb ta => ?_, fun i a b ha hb ta => h.no i a b (hl i a ha) ha hb ta, fun i j a a' b b' ha ha' hb hb' ta ta' => ?_, fun i j a a' b b' ha ha' hb hb' ta ta' => ?_⟩
  · obtain ⟨h1, h2, rfl⟩ := h.yes i a b (hl i a ha) ha hb ta
    have := idx_lt h1
    have := idx_lt h2
    exact ⟨rfl, rfl, ⟨by simp, by simpa using idx_lt h1⟩, by simp, by simpa using idx_lt h2⟩
  · obtain ⟨h1, h2, rfl⟩ := h.yes i a b (hl i a ha) ha hb ta
    obtain ⟨h1', h2', rfl⟩ := h.yes j a' b' (hl j a' ha') ha' hb' ta'
    have := idx_inj h1 h1'
    rw [← this]
    exact ⟨fun h => Int.ofNat.inj h, fun h => congrArg Int.ofNat h⟩
  · obtain ⟨h1, h2, rfl⟩ := h.yes i a b (hl i a ha) ha hb ta
    obtain ⟨h1', h2', rfl⟩ := h.yes j a' b' (hl j a' ha') ha' hb' ta'
    have := idx_inj h2 h2'
    rw [Prod.mk.injEq] at this
    rw [← this]
    exact ⟨fun h => Int.ofNat.inj h, fun h => congrArg Int.ofNat h⟩
end Go.Proofs.Ytmggnalobfihnaa.Ck
