/-
  PACKAGE batch: weave: two lists that do not fall become one, in memory of the call's own.
-/
import Derived.Test.YtehimacmjlehhaaBatchSums
import Derived.Test.YtehimacmjlehhaaAppendAny
import Derived.Laws.MakeOwn
namespace Go.Proofs.Ytehimacmjlehhaa.Batch
open Go.RowKit
set_option linter.unusedVariables false

def Wv (A B L x y : List Ch) : Prop := (L ++ x ++ y).Perm (A ++ B) ∧ Sorted L ∧ Sorted x ∧ Sorted y ∧ ∀ p ∈ L, ∀ q, q ∈ x ∨ q ∈ y → ¬ Lt q p
theorem Wv.start {A B : List Ch} (ha : Sorted A) (hb : Sorted B) : Wv A B [] A B := ⟨List.Perm.refl _, List.Pairwise.nil, ha, hb, fun p hp => absurd hp (by simp)⟩
theorem Sorted.snoc {L : List Ch} {x : Ch} (h : Sorted L) (hx : ∀ p ∈ L, ¬ Lt x p) : Sorted (L ++ [x]) := by
  unfold Sorted
  rw [List.pairwise_append]
  exact ⟨h, by simp, fun p hp q hq => by simp at hq; subst hq; exact hx p hp⟩
theorem Wv.left {A B L x y : List Ch} {a b : Ch} (h : Wv A B L (a :: x) (b :: y)) (hle : ¬ Lt b a) : Wv A B (L ++ [a]) x (b :: y) := by
  obtain ⟨h1, h2, h3, h4, h5⟩ := h
  have h3' := List.pairwise_cons.1 h3
  have h4' := List.pairwise_cons.1 h4
  refine ⟨by simpa using h1, h2.snoc (fun p hp => h5 p hp a (.inl (by simp))), h3'.2, h4, fun p hp q hq => ?_⟩
  rcases List.mem_append.1 hp with hp | hp
  · exact h5 p hp q (hq.elim (fun h => .inl (by simp [h])) .inr)
  · simp at hp
    subst hp
    rcases hq with hq | hq
    · exact h3'.1 q hq
    · rcases List.mem_cons.1 hq with rfl | hq
      · exact hle
      · have := h4'.1 q hq
        unfold Lt at *; omega
theorem Wv.right {A B L x y : List Ch} {a b : Ch} (h : Wv A B L (a :: x) (b :: y)) (hle : ¬ Lt a b) : Wv A B (L ++ [b]) (a :: x) y := by
  obtain ⟨h1, h2, h3, h4, h5⟩ := h
  have h3' := List.pairwise_cons.1 h3
  have h4' := List.pairwise_cons.1 h4
  refine ⟨?_, h2.snoc (fun p hp => h5 p hp b (.inr (by simp))), h3, h4'.2, fun p hp q hq => ?_⟩
  · refine List.Perm.trans ?_ h1
    rw [List.append_assoc, List.append_assoc, List.append_assoc]
    refine List.Perm.append_left L ?_
    exact (List.perm_middle (a := b) (l₁ := a :: x) (l₂ := y)).symm
  · rcases List.mem_append.1 hp with hp | hp
    · exact h5 p hp q (hq.elim .inl (fun h => .inr (by simp [h])))
    · simp at hp
      subst hp
      rcases hq with hq | hq
      · rcases List.mem_cons.1 hq with rfl | hq
        · exact hle
        · have := h3'.1 q hq
          unfold Lt at *; omega
      · exact h4'.1 q hq
theorem Wv.done {A B L x y : List Ch} (h : Wv A B L x y) (h0 : x = [] ∨ y = []) : (L ++ x ++ y).Perm (A ++ B) ∧ Sorted (L ++ x ++ y) := by
  obtain ⟨h1, h2, h3, h4, h5⟩ := h
  refine ⟨h1, ?_⟩
  rcases h0 with rfl | rfl
  · rw [List.append_nil]
    unfold Sorted
    rw [List.pairwise_append]
    exact ⟨h2, h4, fun p hp q hq => h5 p hp q (.inr hq)⟩
  · rw [List.append_nil]
    unfold Sorted
    rw [List.pairwise_append]
    exact ⟨h2, h3, fun p hp q hq => h5 p hp q (.inl hq)⟩
theorem Wv.length {A B L x y : List Ch} (h : Wv A B L x y) : L.length + x.length + y.length = A.length + B.length := by
  have := h.1.length_eq
  simp only [List.length_append] at this
  exact this

/-- What is left behind its first one. -/
theorem Sl.tail1 {w : World} {b off n : Nat} {x : Ch} {l : List Ch} (h : Sl w (.slice (some ⟨b, off, none⟩) n 1) (x :: l)) : Sl w (.slice (some ⟨b, off, none⟩) l.length 0) l := by
  obtain ⟨ao, cap', hv, h1, hc, hm, hw⟩ := h
  simp only [Value.slice.injEq] at hv
  obtain ⟨rfl, rfl, rfl⟩ := hv
  rw [List.length_cons] at hc
  obtain rfl : l = [] := List.length_eq_zero_iff.1 (by omega)
  exact ⟨_, _, rfl, .inr ⟨b, off, rfl, fun i y hy => by simp at hy⟩, by simp, by omega, by simp⟩
theorem Sl.tail2 {w : World} {b off n cap : Nat} {x : Ch} {l : List Ch} (h : Sl w (.slice (some ⟨b, off, none⟩) n cap) (x :: l)) (hcap : cap ≠ 1) : Sl w (.slice (some ⟨b, off + 3, none⟩) l.length (cap - 1)) l := by
  obtain ⟨ao, cap', hv, h1, hc, hm, hw⟩ := h
  simp only [Value.slice.injEq] at hv
  obtain ⟨rfl, rfl, rfl⟩ := hv
  rcases h1 with ⟨h, _⟩ | ⟨b', off', hb, h1⟩
  · cases h
  · simp at hb
    obtain ⟨rfl, rfl⟩ := hb
    rw [List.length_cons] at hc
    refine ⟨_, _, rfl, .inr ⟨b, off + 3, rfl, fun i y hy => ?_⟩, by omega, by omega, fun y hy => hw y (by simp [hy])⟩
    have := h1 (i + 1) y (by simpa using hy)
    rw [show off + (i + 1) * 3 = off + 3 + i * 3 by omega] at this
    exact this

end Go.Proofs.Ytehimacmjlehhaa.Batch
