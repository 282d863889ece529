/-
  PACKAGE claim, PLAIN MATHEMATICS: what may be changed by what is held.
-/
import Derived.Test.YtdllgeanmlmmfaaGreatDoorClMath
import Derived.Test.YtdllgeanmlmmfaaGreatDoorJoined7
namespace Go.Proofs.YtdllgeanmlmmfaaGreatDoor.Cl
open Go.RowKit Gr Batch
set_option linter.unusedVariables false

/-! ### all that is held: few of each -/
/-- What a thread may hold: each count at most 2^50. -/
structure HoldP (B : List Ch) : Prop where
  bag : BagP B
  low : ∀ x ∈ B, x.d ≤ 1125899906842624
theorem tot_hc {H : List Ed} (p t : Int) : 0 ≤ tot (H.map hc) p t ∧ tot (H.map hc) p t ≤ H.length := by
  have h := tot_pos (l := H.map hc) (fun x hx => by obtain ⟨y, _, rfl⟩ := List.mem_map.1 hx; exact (by decide : (0 : Int) ≤ 1)) p t
  have h2 := tot_bound (l := H.map hc) (B := 1) (fun x hx => by obtain ⟨y, _, rfl⟩ := List.mem_map.1 hx; exact (by decide : (-1 : Int) ≤ 1 ∧ (1 : Int) ≤ 1)) (by decide) p t
  rw [List.length_map] at h2
  omega
theorem HoldP.tot {B : List Ch} (h : HoldP B) (p t : Int) : 0 ≤ tot B p t ∧ tot B p t ≤ 1125899906842624 := by
  refine ⟨h.bag.tot0 p t, ?_⟩
  by_cases hk : ∃ x ∈ B, x.p = p ∧ x.t = t
  · obtain ⟨x, hx, hp, ht⟩ := hk
    rw [tot_key h.bag.right.2 hx hp ht]
    exact h.low x hx
  · rw [tot_none fun x hx e => hk ⟨x, hx, e⟩]
    decide
theorem all_tot {H : List Ed} {B : List Ch} (h : HoldP B) (hl : H.length ≤ 100000) (p t : Int) : 0 ≤ tot (B ++ H.map hc) p t ∧ tot (B ++ H.map hc) p t ≤ 1125899907000000 := by
  rw [tot_append]
  have h1 := h.tot p t
  have h2 := tot_hc (H := H) p t
  omega
theorem all_is {H : List Ed} {B : List Ch} (hH : ∀ x ∈ H, x.Wf) (hB : ∀ x ∈ B, x.Wf) : IsTab (allL H B) (B ++ H.map hc) := tab_is (all_wf0 hH hB)
/-- No count is nothing. -/
theorem all_pos {H : List Ed} {B : List Ch} (hH : ∀ x ∈ H, x.Wf) (hB : ∀ x ∈ B, x.Wf) (h : HoldP B) (hl : H.length ≤ 100000) : ∀ z ∈ allL H B, 1 ≤ z.d ∧ z.d ≤ 1125899907000000 ∧ z.d = Batch.tot (B ++ H.map hc) z.p z.t := by
  intro z hz
  obtain ⟨⟨x, hx, hk⟩, hd⟩ := ((all_is hH hB).2 z).1 hz
  have ht := all_tot h hl z.p z.t
  rw [wr_id (by omega) (by omega)] at hd
  refine ⟨?_, by omega, hd⟩
  have hpos : ∀ y ∈ B ++ H.map hc, 0 < y.d := fun y hy => by
    rcases List.mem_append.1 hy with hy | hy
    · exact h.bag.pos y hy
    · obtain ⟨v, _, rfl⟩ := List.mem_map.1 hy; exact (by decide : (0 : Int) < 1)
  have : ∀ l : List Ch, (∀ y ∈ l, 0 < y.d) → x ∈ l → 1 ≤ Batch.tot l z.p z.t := by
    intro l
    induction l with
    | nil => intro _ h; simp at h
    | cons y r ih =>
      intro hp hm
      have hr := tot_pos (l := r) (fun v hv => by have := hp v (by simp [hv]); omega) z.p z.t
      have hy := hp y (by simp)
      rw [show Batch.tot (y :: r) z.p z.t = Batch.tot ([y] ++ r) z.p z.t from rfl, tot_append]
      have h1 : Batch.tot [y] z.p z.t = if y.p = z.p ∧ y.t = z.t then y.d else 0 := by simp [Batch.tot]
      rw [h1]
      rcases List.mem_cons.1 hm with e | e
      · subst e
        rw [if_pos ⟨hk.1, hk.2⟩]
        omega
      · have := ih (fun v hv => hp v (by simp [hv])) e
        split <;> omega
  have := this _ hpos hx
  omega
theorem all_rise {H : List Ed} {B : List Ch} (hH : ∀ x ∈ H, x.Wf) (hB : ∀ x ∈ B, x.Wf) : (allL H B).Pairwise Lt := (all_is hH hB).1
theorem all_wf {H : List Ed} {B : List Ch} (hH : ∀ x ∈ H, x.Wf) (hB : ∀ x ∈ B, x.Wf) : ∀ z ∈ allL H B, z.Wf := tab_wf (all_wf0 hH hB)
theorem all_length {H : List Ed} {B : List Ch} : (allL H B).length ≤ B.length + H.length := by
  have := tab_length (B ++ H.map hc)
  rw [List.length_append, List.length_map] at this
  exact this
theorem hc_fit {x : Ed} {m : Nat} (hm : m ≤ 64) (h : 0 ≤ x.t ∧ x.t < m ∧ x.a ≠ 18446744073709551615) : Fit (hc x) := ⟨h.1, by show x.t < 64; omega, h.2.2⟩
/-- All that is held is a Bag. -/
theorem all_bag {H : List Ed} {B : List Ch} (hH : ∀ x ∈ H, x.Wf) (hB : ∀ x ∈ B, x.Wf) (h : HoldP B) (hl : H.length ≤ 100000) (hf : ∀ x ∈ H, Fit (hc x)) : BagP (allL H B) := by
  refine ⟨⟨fun z hz => ?_, all_rise hH hB⟩, fun z hz => by have := all_pos hH hB h hl z hz; omega⟩
  have hp := all_pos hH hB h hl z hz
  obtain ⟨⟨x, hx, hk⟩, _⟩ := ((all_is hH hB).2 z).1 hz
  have hfit : Fit x := by
    rcases List.mem_append.1 hx with hx | hx
    · exact h.bag.right.fit x hx
    · obtain ⟨y, hy, rfl⟩ := List.mem_map.1 hx; exact hf y hy
  refine ⟨wrong_of_fit (x := z) (by unfold Fit at *; rw [← hk.1, ← hk.2]; exact hfit) (by unfold overB; rw [decide_eq_false_iff_not]; omega), by omega⟩
/-- One more handle: a Batch of one, merged. -/
theorem all_step {H : List Ed} {B : List Ch} (hH : ∀ x ∈ H, x.Wf) (hB : ∀ x ∈ B, x.Wf) (h : HoldP B) {i : Nat} {x : Ed} (hx : H[i]? = some x) (hl : H.length ≤ 100000) :
    sumsE (allL (H.take i) B ++ [hc x]) = 0 ∧ sumsR (allL (H.take i) B ++ [hc x]) = allL (H.take (i + 1)) B := by
  have hHi : ∀ y ∈ H.take i, y.Wf := fun y hy => hH y (List.mem_of_mem_take hy)
  have hHs : ∀ y ∈ H.take (i + 1), y.Wf := fun y hy => hH y (List.mem_of_mem_take hy)
  have hxw := hc_wf (hH x (List.mem_of_getElem? hx))
  have hT := all_is hHi hB
  have hw : ∀ y ∈ allL (H.take i) B ++ [hc x], y.Wf := fun y hy => by
    rcases List.mem_append.1 hy with hy | hy
    · exact all_wf hHi hB y hy
    · simp at hy; subst hy; exact hxw
  have e : B ++ (H.take (i + 1)).map hc = (B ++ (H.take i).map hc) ++ [hc x] := by rw [Gr.take_succ' hx]; simp
  have hl1 : (H.take (i + 1)).length ≤ 100000 := by rw [List.length_take]; omega
  have hl0 : (H.take i).length ≤ 100000 := by rw [List.length_take]; omega
  have htot : ∀ p t, Batch.tot (allL (H.take i) B) p t = Batch.tot (B ++ (H.take i).map hc) p t := fun p t => by
    by_cases hk : ∃ z ∈ allL (H.take i) B, z.p = p ∧ z.t = t
    · obtain ⟨z, hz, rfl, rfl⟩ := hk
      rw [tot_one hT.1 hz]
      exact (all_pos hHi hB h hl0 z hz).2.2
    · rw [tot_none fun z hz e => hk ⟨z, hz, e⟩]
      refine (tot_none fun y hy e => hk ?_).symm
      exact ⟨⟨p, t, wr (Batch.tot (B ++ (H.take i).map hc) p t)⟩, (hT.2 _).2 ⟨⟨y, hy, e.1, e.2⟩, rfl⟩, rfl, rfl⟩
  have htot2 : ∀ p t, Batch.tot (allL (H.take i) B ++ [hc x]) p t = Batch.tot (B ++ (H.take (i + 1)).map hc) p t := fun p t => by
    rw [tot_append, htot, e, tot_append (B ++ (H.take i).map hc)]
  have ho : overK (allL (H.take i) B ++ [hc x]) = false := by
    cases ho : overK (allL (H.take i) B ++ [hc x])
    · rfl
    · obtain ⟨p, t, hpt⟩ := (overK_iff hw).1 ho
      rw [htot2] at hpt
      have := all_tot h hl1 p t
      rw [wr_id (by omega) (by omega)] at hpt
      unfold overB at hpt
      have := of_decide_eq_true hpt
      omega
  refine ⟨(sums_ok ho).1, (sums_ok ho).2.trans ?_⟩
  have hs : IsSum (allL (H.take (i + 1)) B) (B ++ (H.take (i + 1)).map hc) := by
    refine ⟨all_rise hHs hB, fun z => ?_⟩
    rw [(all_is hHs hB).2 z]
    refine ⟨fun hz => ⟨?_, hz.2⟩, fun hz => ⟨?_, hz.2⟩⟩
    · have := all_pos hHs hB h hl1 z (((all_is hHs hB).2 z).2 hz)
      omega
    · cases Classical.em (∃ y ∈ B ++ (H.take (i + 1)).map hc, Key y z) with
      | inl h => exact h
      | inr hn =>
        have := hz.2
        rw [tot_none fun y hy e => hn ⟨y, hy, e.1, e.2⟩, wr_zero] at this
        exact absurd this hz.1
  exact (sumL_is hw).one hs fun p t => by rw [htot2]
theorem all_nil {B : List Ch} (hB : ∀ x ∈ B, x.Wf) (h : BagP B) : allL [] B = B := by
  have e : B ++ ([] : List Ed).map hc = B := by simp
  have ht := all_is (H := []) (by simp) hB
  refine rising_ext ht.1 h.right.2 fun z => ?_
  rw [ht.2, e]
  constructor
  · rintro ⟨⟨x, hx, hk⟩, hd⟩
    have hxw := hB x hx
    rw [← hk.1, ← hk.2, tot_one h.right.2 hx, wr_id hxw.d0 hxw.d1] at hd
    obtain ⟨a, b, c⟩ := z
    obtain ⟨a', b', c'⟩ := x
    obtain ⟨h1, h2⟩ := hk
    simp only at h1 h2 hd
    subst h1 h2 hd
    exact hx
  · intro hz
    have hzw := hB z hz
    exact ⟨⟨z, hz, Key.refl z⟩, by rw [tot_one h.right.2 hz, wr_id hzw.d0 hzw.d1]⟩

/-! ### what lets a stamp be -/
/-- x, that is held, comes to be c. -/
def letB (M : Nat → Nat → Int) (m : Nat) (c x : Ch) : Bool := decide (0 ≤ x.p ∧ x.p < m ∧ Stamp.reachB x.t (M x.p.toNat c.p.toNat) c.t = true)
def letsB (M : Nat → Nat → Int) (m : Nat) (all : List Ch) (c : Ch) : Bool := all.any (letB M m c)
theorem letsB_iff {M : Nat → Nat → Int} {m : Nat} {all : List Ch} {c : Ch} : letsB M m all c = true ↔ ∃ x ∈ all, letB M m c x = true := List.any_eq_true
theorem letsB_same {M M' : Nat → Nat → Int} {m : Nat} {all : List Ch} {c : Ch} (hc : c.p.toNat < m) (h : ∀ i j, i < m → j < m → M i j = M' i j) : letsB M m all c = letsB M' m all c := by
  unfold letsB
  congr 1
  funext x
  unfold letB
  by_cases hx : 0 ≤ x.p ∧ x.p < m
  · rw [h x.p.toNat c.p.toNat (by omega) hc]
  · rw [decide_eq_false (fun e => hx ⟨e.1, e.2.1⟩), decide_eq_false (fun e => hx ⟨e.1, e.2.1⟩)]
/-- What is wrong with a Change of stamps. -/
def upE (B all : List Ch) (M : Nat → Nat → Int) (m : Nat) (c : Ch) : Int :=
  if (m : Int) ≤ c.p then 2 else if 0 < c.d ∧ letsB M m all c = false ∨ tot B c.p c.t + c.d < 0 then 5 else if 1125899906842624 < tot B c.p c.t + c.d then 10 else 0
theorem upE_same {B all : List Ch} {M M' : Nat → Nat → Int} {m : Nat} {c : Ch} (h0 : 0 ≤ c.p) (h : ∀ i j, i < m → j < m → M i j = M' i j) : upE B all M m c = upE B all M' m c := by
  unfold upE
  by_cases hc : (m : Int) ≤ c.p
  · rw [if_pos hc, if_pos hc]
  · rw [letsB_same (by omega) h]
end Go.Proofs.YtdllgeanmlmmfaaGreatDoor.Cl
