/-
  PACKAGE batch: a Change alone: is its count too great, may it be, which of two stands ahead.
  PACKAGE batch: which of two Changes stands ahead: by Port, then by Time.
  PACKAGE batch, PLAIN MATHEMATICS: sums of a list that does not fall, group by group.
-/
import Derived.Test.YtdbaacalfbbdiaaGreatDoorRows
import Derived.Test.YtdbaacalfbbdiaaGreatDoorJoined4
import Derived.WalkKit
import Derived.WalkLawsBesides
import Derived.WalkSpells
import Derived.WalkSmall
import Derived.StillTactics
import Derived.StillTailTactics
import Derived.Lib.Hide
import Derived.Lib.AtoiErrMem
import Derived.Outline
import Derived.Sort.Grow
import Derived.Deep.RegionHeld3
import Derived.Lib.AppendIntMem
import Derived.Test.YtdbaacalfbbdiaaGreatDoorBatchMath
namespace Go.Proofs.YtdbaacalfbbdiaaGreatDoor.Batch
open Go.RowKit
set_option linter.unusedVariables false

end Go.Proofs.YtdbaacalfbbdiaaGreatDoor.Batch
namespace Go.Proofs.YtdbaacalfbbdiaaGreatDoor.Batch
open Go.RowKit Go.Sort
set_option linter.unusedVariables false

theorem cell_new2 (W : World) (n : Nat) (x y : Value) (T : TypeId) (hn : W.heap.size = n) : (W.alloc (.cells #[x, y] T)).drew.cell? ⟨n, 0, none⟩ = some x ∧ (W.alloc (.cells #[x, y] T)).drew.cell? ⟨n, 1, none⟩ = some y := by
  subst hn
  exact ⟨by simp, by simp⟩
theorem new2 (w : World) (A B : Obj) (x y : Value) (T : TypeId) : ((((w.alloc A).alloc B).alloc (.cells #[x, y] T)).drew.cell? ⟨w.heap.size + 1 + 1, 0, none⟩ = some x) ∧ ((((w.alloc A).alloc B).alloc (.cells #[x, y] T)).drew.cell? ⟨w.heap.size + 1 + 1, 1, none⟩ = some y) :=
  cell_new2 _ _ _ _ _ (by simp)
theorem grow3 (w : World) (A B C : Obj) : ∃ q os, (((w.alloc A).alloc B).alloc C).drew = grow (w.drewN q) os := by
  refine ⟨1, #[A] ++ #[B] ++ #[C], ?_⟩
  rw [alloc_eq_grow, alloc_eq_grow, alloc_eq_grow, grow_grow, grow_grow]
  rfl
def orI (a b : Int) : Int := if a = 0 then b else a
end Go.Proofs.YtdbaacalfbbdiaaGreatDoor.Batch
namespace Go.Proofs.YtdbaacalfbbdiaaGreatDoor.Batch
set_option linter.unusedVariables false

/-- Not falling. -/
def Sorted (l : List Ch) : Prop := l.Pairwise fun x y => ¬ Lt y x
theorem take_succ' {l : List Ch} {i : Nat} {x : Ch} (h : l[i]? = some x) : l.take (i + 1) = l.take i ++ [x] := by rw [List.take_add_one, h]; rfl
theorem Sorted.le {l : List Ch} (h : Sorted l) {i j : Nat} {x y : Ch} (hx : l[i]? = some x) (hy : l[j]? = some y) (hij : i < j) : ¬ Lt y x := by
  obtain ⟨h1, e1⟩ := List.getElem?_eq_some_iff.1 hx
  obtain ⟨h2, e2⟩ := List.getElem?_eq_some_iff.1 hy
  have := (List.pairwise_iff_getElem.1 h) i j h1 h2 hij
  rw [e1, e2] at this
  exact this
theorem mem_take {l : List Ch} {i : Nat} {x : Ch} (h : x ∈ l.take i) : ∃ j, j < i ∧ l[j]? = some x := by
  obtain ⟨j, hj⟩ := List.mem_iff_getElem?.1 h
  have hji : j < i := by
    have := (List.getElem?_eq_some_iff.1 hj).1
    rw [List.length_take] at this
    omega
  rw [List.getElem?_take_of_lt hji] at hj
  exact ⟨j, hji, hj⟩
theorem take_mem {l : List Ch} {i j : Nat} {x : Ch} (h : l[j]? = some x) (hj : j < i) : x ∈ l.take i := by
  refine List.mem_iff_getElem?.2 ⟨j, ?_⟩
  rw [List.getElem?_take_of_lt hj]
  exact h
theorem take_all {l : List Ch} {i : Nat} (h : l.length ≤ i) : l.take i = l := List.take_of_length_le h

def Inv (l R : List Ch) (i : Nat) : Prop := IsSum R (l.take i) ∧ (∀ p t, overB (wr (tot (l.take i) p t)) = false) ∧ (∀ x y, x ∈ l.take i → l[i]? = some y → Lt x y)
def Grp (l : List Ch) (i0 i : Nat) (x0 : Ch) (D : Int) : Prop := i0 < i ∧ i ≤ l.length ∧ (∀ j y, i0 ≤ j → j < i → l[j]? = some y → Key x0 y) ∧ D = wr (tot (l.take i) x0.p x0.t)
theorem Inv.start (l : List Ch) : Inv l [] 0 := ⟨⟨List.Pairwise.nil, fun z => by simp [tot, wr_zero]⟩, fun p t => by simp [tot, wr_zero]; rfl, fun x y h => by simp at h⟩
theorem Inv.no {l R : List Ch} {i : Nat} {x0 : Ch} (h : Inv l R i) (hx : l[i]? = some x0) {p t : Int} (hp : p = x0.p) (ht : t = x0.t) : tot (l.take i) p t = 0 :=
  tot_none fun x hm hk => (h.2.2 x x0 hm hx).not_key ⟨hk.1.trans hp, hk.2.trans ht⟩
theorem Grp.start {l R : List Ch} {i : Nat} {x0 : Ch} (h : Inv l R i) (hx : l[i]? = some x0) (hw : x0.Wf) : Grp l i (i + 1) x0 x0.d := by
  refine ⟨by omega, (List.getElem?_eq_some_iff.1 hx).1, fun j y h1 h2 hy => ?_, ?_⟩
  · obtain rfl : j = i := by omega
    rw [hx] at hy
    obtain rfl := Option.some.inj hy
    exact Key.refl _
  · rw [take_succ' hx, tot_append, h.no hx rfl rfl]
    simp only [tot, and_self, if_true]
    rw [Int.zero_add, Int.add_zero, wr_id hw.d0 hw.d1]
theorem Grp.step {l : List Ch} {i0 i : Nat} {x0 y : Ch} {D : Int} (h : Grp l i0 i x0 D) (hy : l[i]? = some y) (hk : Key x0 y) : Grp l i0 (i + 1) x0 (wr (D + y.d)) := by
  refine ⟨by have := h.1; omega, (List.getElem?_eq_some_iff.1 hy).1, fun j z h1 h2 hz => ?_, ?_⟩
  · by_cases e : j = i
    · subst e
      rw [hy] at hz
      obtain rfl := Option.some.inj hz
      exact hk
    · exact h.2.2.1 j z h1 (by omega) hz
  · rw [h.2.2.2, wr_wr_add, take_succ' hy, tot_append]
    simp only [tot]
    rw [if_pos ⟨hk.1.symm, hk.2.symm⟩, Int.add_zero]
/-- The group has ended at i. -/
def Ended (l : List Ch) (i : Nat) (x0 : Ch) : Prop := ∀ y, l[i]? = some y → Lt x0 y
theorem Grp.ended {l : List Ch} {i0 i : Nat} {x0 y : Ch} {D : Int} (hs : Sorted l) (h : Grp l i0 i x0 D) (hx : l[i0]? = some x0) (hy : l[i]? = some y) (hk : ¬ Key x0 y) : Ended l i x0 := by
  intro z hz
  rw [hy] at hz
  obtain rfl := Option.some.inj hz
  exact (three x0 y).elim id fun h' => h'.elim (fun e => absurd e hk) fun e => absurd e (hs.le hx hy h.1)
theorem Ended.all {l : List Ch} {i : Nat} {x0 : Ch} (hs : Sorted l) (h : Ended l i x0) {j : Nat} {z : Ch} (hj : i ≤ j) (hz : l[j]? = some z) : Lt x0 z := by
  by_cases e : j = i
  · subst e; exact h z hz
  · have hlt : i < l.length := by have := (List.getElem?_eq_some_iff.1 hz).1; omega
    have hy : l[i]? = some l[i] := List.getElem?_eq_getElem hlt
    have h1 := h _ hy
    have h2 := hs.le hy hz (by omega)
    unfold Lt at *
    omega
theorem Grp.other {l R : List Ch} {i0 i : Nat} {x0 : Ch} {D : Int} (h : Grp l i0 i x0 D) {p t : Int} (hk : ¬ (x0.p = p ∧ x0.t = t)) : tot (l.take i) p t = tot (l.take i0) p t := by
  have e : l.take i = l.take i0 ++ (l.take i).drop i0 := by
    have := (List.take_append_drop i0 (l.take i)).symm
    rwa [List.take_take, Nat.min_eq_left (by have := h.1; omega)] at this
  rw [e, tot_append, tot_none (l := (l.take i).drop i0), Int.add_zero]
  intro x hx hkx
  obtain ⟨j, hj⟩ := List.mem_iff_getElem?.1 hx
  rw [List.getElem?_drop] at hj
  have hji : i0 + j < i := by
    have := (List.getElem?_eq_some_iff.1 hj).1
    rw [List.length_take] at this
    omega
  rw [List.getElem?_take_of_lt hji] at hj
  have hk' := h.2.2.1 _ x (by omega) hji hj
  exact hk ⟨hk'.1.trans hkx.1, hk'.2.trans hkx.2⟩
theorem Grp.rest {l : List Ch} {i0 i : Nat} {x0 : Ch} {D : Int} (hs : Sorted l) (h : Grp l i0 i x0 D) (he : Ended l i x0) : tot l x0.p x0.t = tot (l.take i) x0.p x0.t := by
  have e := List.take_append_drop i l
  have : tot l x0.p x0.t = tot (l.take i ++ l.drop i) x0.p x0.t := by rw [e]
  rw [this, tot_append, tot_none (l := l.drop i), Int.add_zero]
  intro x hx hkx
  obtain ⟨j, hj⟩ := List.mem_iff_getElem?.1 hx
  rw [List.getElem?_drop] at hj
  exact (he.all hs (Nat.le_add_right _ _) hj).not_key ⟨hkx.1.symm, hkx.2.symm⟩
theorem Grp.over {l : List Ch} {i0 i : Nat} {x0 : Ch} {D : Int} (hw : ∀ x ∈ l, x.Wf) (hs : Sorted l) (h : Grp l i0 i x0 D) (he : Ended l i x0) (ho : overB D = true) : overK l = true := by
  rw [overK_iff hw]
  refine ⟨x0.p, x0.t, ?_⟩
  rw [h.rest hs he, ← h.2.2.2]
  exact ho
theorem Grp.bound {l R : List Ch} {i0 i : Nat} {x0 : Ch} {D : Int} (hs : Sorted l) (hi : Inv l R i0) (h : Grp l i0 i x0 D) (hx : l[i0]? = some x0) (he : Ended l i x0) : ∀ x y, x ∈ l.take i → l[i]? = some y → Lt x y := by
  intro x y hm hy
  obtain ⟨j, hj, hxj⟩ := mem_take hm
  by_cases e : j < i0
  · exact (hi.2.2 x x0 (take_mem hxj e) hx).trans (he y hy)
  · exact Lt.key_left (h.2.2.1 j x (by omega) hj hxj).symm (he y hy)
theorem Grp.noOver {l R : List Ch} {i0 i : Nat} {x0 : Ch} {D : Int} (hi : Inv l R i0) (h : Grp l i0 i x0 D) (ho : overB D = false) : ∀ p t, overB (wr (tot (l.take i) p t)) = false := by
  intro p t
  by_cases hk : x0.p = p ∧ x0.t = t
  · rw [← hk.1, ← hk.2, ← h.2.2.2]; exact ho
  · rw [h.other (R := R) hk]; exact hi.2.1 p t
theorem Inv.drop {l R : List Ch} {i0 i : Nat} {x0 : Ch} {D : Int} (hs : Sorted l) (hi : Inv l R i0) (h : Grp l i0 i x0 D) (hx : l[i0]? = some x0) (he : Ended l i x0) (ho : overB D = false) (h0 : D = 0) : Inv l R i := by
  refine ⟨⟨hi.1.1, fun z => ?_⟩, h.noOver hi ho, h.bound hs hi hx he⟩
  rw [hi.1.2]
  by_cases hk : x0.p = z.p ∧ x0.t = z.t
  · rw [hi.no hx hk.1.symm hk.2.symm, wr_zero, ← hk.1, ← hk.2, ← h.2.2.2, h0]
  · rw [h.other (R := R) hk]
theorem Inv.snoc {l R : List Ch} {i0 i : Nat} {x0 : Ch} {D : Int} (hs : Sorted l) (hi : Inv l R i0) (h : Grp l i0 i x0 D) (hx : l[i0]? = some x0) (he : Ended l i x0) (ho : overB D = false) (h0 : D ≠ 0) : Inv l (R ++ [⟨x0.p, x0.t, D⟩]) i := by
  refine ⟨⟨?_, fun z => ?_⟩, h.noOver hi ho, h.bound hs hi hx he⟩
  · rw [List.pairwise_append]
    refine ⟨hi.1.1, by simp, fun x hm y hy => ?_⟩
    simp at hy
    subst hy
    have hz := (hi.1.2 x).1 hm
    by_cases hn : ∃ q ∈ l.take i0, q.p = x.p ∧ q.t = x.t
    · obtain ⟨q, hq, hqk⟩ := hn
      have := hi.2.2 q x0 hq hx
      exact Lt.key_left (y := q) ⟨hqk.1.symm, hqk.2.symm⟩ (Lt.key_right (y := x0) this ⟨rfl, rfl⟩)
    · rw [tot_none (fun q hq hqk => hn ⟨q, hq, hqk⟩), wr_zero] at hz
      exact absurd hz.2 hz.1
  · rw [List.mem_append, hi.1.2, List.mem_singleton]
    by_cases hk : x0.p = z.p ∧ x0.t = z.t
    · have hD := h.2.2.2
      rw [hk.1, hk.2] at hD
      rw [hi.no hx hk.1.symm hk.2.symm, wr_zero, ← hD]
      obtain ⟨a, b, c⟩ := z
      simp only at hk ⊢
      rw [Ch.mk.injEq]
      constructor
      · rintro (⟨e1, e2⟩ | ⟨_, _, e⟩)
        · exact absurd e2 e1
        · exact ⟨by rw [e]; exact h0, e⟩
      · rintro ⟨_, e⟩
        exact .inr ⟨hk.1.symm, hk.2.symm, e⟩
    · rw [h.other (R := R) hk]
      constructor
      · rintro (e | e)
        · exact e
        · subst e; exact absurd ⟨rfl, rfl⟩ hk
      · exact fun e => .inl e
theorem Inv.done {l R : List Ch} {i : Nat} (hw : ∀ x ∈ l, x.Wf) (h : Inv l R i) (hi : l.length ≤ i) : R = sumL l ∧ overK l = false := by
  have e := take_all hi
  refine ⟨?_, ?_⟩
  · have h1 := h.1
    rw [e] at h1
    exact h1.one (sumL_is hw) fun _ _ => rfl
  · cases ho : overK l
    · rfl
    · obtain ⟨p, t, h2⟩ := (overK_iff hw).1 ho
      have h3 := h.2.1 p t
      rw [e, h2] at h3
      exact absurd h3 (by decide)
theorem Inv.length {l R : List Ch} {i : Nat} (hw : ∀ x ∈ l, x.Wf) (h : Inv l R i) : R.length ≤ l.length := by
  have hw' : ∀ x ∈ l.take i, x.Wf := fun x hx => hw x (List.mem_of_mem_take hx)
  rw [h.1.one (sumL_is hw') fun _ _ => rfl]
  have := sumL_length (l.take i)
  rw [List.length_take] at this
  omega
def sumsE (l : List Ch) : Int := if overK l = true then 10 else 0
def sumsR (l : List Ch) : List Ch := if overK l = true then [] else sumL l
theorem sums_over {l : List Ch} (h : overK l = true) : sumsE l = 10 ∧ sumsR l = [] := ⟨if_pos h, if_pos h⟩
theorem sums_ok {l : List Ch} (h : overK l = false) : sumsE l = 0 ∧ sumsR l = sumL l := by unfold sumsE sumsR; rw [h]; exact ⟨rfl, rfl⟩
end Go.Proofs.YtdbaacalfbbdiaaGreatDoor.Batch
