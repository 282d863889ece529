/-
  PACKAGE marchlandref03, PLAIN MATHEMATICS: each Change is put where it belongs, as the document's answer does it: looked for, else laid at the end and moved ahead.
-/
import Derived.Test.YtdbaacalfbbdiaaGreatDoorJoined10
namespace Go.Proofs.YtdbaacalfbbdiaaGreatDoor.Batch
set_option linter.unusedVariables false

theorem add_found {l : List Ch} {x y : Ch} (h : l.Pairwise Lt) {j : Nat} (hy : l[j]? = some y) (hk : Key y x) : add x l = l.set j ⟨y.p, y.t, wr (y.d + x.d)⟩ := by
  induction l generalizing j with
  | nil => simp at hy
  | cons z r ih =>
    rw [List.pairwise_cons] at h
    unfold add
    cases j with
    | zero =>
      simp at hy
      subst hy
      rw [if_neg (fun hl => hl.not_key' hk), if_pos hk.symm]
      rfl
    | succ k =>
      have hyr : r[k]? = some y := by simpa using hy
      have hzx : Lt z x := (h.1 y (List.mem_of_getElem? hyr)).key_right hk
      rw [if_neg hzx.asymm, if_neg hzx.not_key', ih h.2 hyr]
      rfl
theorem add_insert {l : List Ch} {x : Ch} {k : Nat} (hk : k ≤ l.length) (hd : ∀ y ∈ l.drop k, Lt x y) (ht : ∀ y ∈ l.take k, Lt y x) : add x l = l.take k ++ x :: l.drop k := by
  induction l generalizing k with
  | nil => simp at hk; subst hk; rfl
  | cons z r ih =>
    cases k with
    | zero =>
      have := hd z (by simp)
      unfold add
      rw [if_pos this]
      rfl
    | succ m =>
      have hz := ht z (by simp)
      unfold add
      rw [if_neg hz.asymm, if_neg hz.not_key', ih (by simpa using hk) (fun y hy => hd y (by simpa using hy)) (fun y hy => ht y (by simp [hy]))]
      rfl

/-- Looked for up to k. -/
def Sch (A : List Ch) (x : Ch) (k : Nat) (f : Int) : Prop := (f = -1 ∧ ∀ (j : Nat) (y : Ch), j < k → A[j]? = some y → ¬ Key y x) ∨ (∃ (j : Nat) (y : Ch), j < k ∧ f = j ∧ A[j]? = some y ∧ Key y x)
theorem Sch.start (A : List Ch) (x : Ch) : Sch A x 0 (-1) := .inl ⟨rfl, fun j y h => by omega⟩
theorem Sch.hit {A : List Ch} {x y : Ch} {k : Nat} {f : Int} (h : Sch A x k f) (hy : A[k]? = some y) (hk : Key y x) : Sch A x (k + 1) (k : Int) := .inr ⟨k, y, by omega, rfl, hy, hk⟩
theorem Sch.miss {A : List Ch} {x y : Ch} {k : Nat} {f : Int} (h : Sch A x k f) (hy : A[k]? = some y) (hk : ¬ Key y x) : Sch A x (k + 1) f := by
  rcases h with ⟨e, h⟩ | ⟨j, z, hj, e, hz, hzx⟩
  · refine .inl ⟨e, fun j z hj hz => ?_⟩
    by_cases hjk : j = k
    · subst hjk
      rw [hy] at hz
      obtain rfl := Option.some.inj hz
      exact hk
    · exact h j z (by omega) hz
  · exact .inr ⟨j, z, by omega, e, hz, hzx⟩
theorem Sch.end {A : List Ch} {x : Ch} {k : Nat} {f : Int} (h : Sch A x k f) (hk : A.length ≤ k) : (f = -1 ∧ ∀ y ∈ A, ¬ Key y x) ∨ (∃ (j : Nat) (y : Ch), j < A.length ∧ f = j ∧ A[j]? = some y ∧ Key y x) := by
  rcases h with ⟨e, h⟩ | ⟨j, z, hj, e, hz, hzx⟩
  · refine .inl ⟨e, fun y hy => ?_⟩
    obtain ⟨j, hj⟩ := List.mem_iff_getElem?.1 hy
    exact h j y (by have := (List.getElem?_eq_some_iff.1 hj).1; omega) hj
  · exact .inr ⟨j, z, (List.getElem?_eq_some_iff.1 hz).1, e, hz, hzx⟩

/-- Moved ahead down to k. -/
def Ins (A : List Ch) (x : Ch) (k : Nat) (L : List Ch) : Prop := L = A.take k ++ x :: A.drop k ∧ k ≤ A.length ∧ ∀ y ∈ A.drop k, Lt x y
theorem Ins.start (A : List Ch) (x : Ch) : Ins A x A.length (A ++ [x]) := ⟨by rw [List.take_length, List.drop_length], Nat.le_refl _, fun y hy => by simp at hy⟩
theorem Ins.len {A : List Ch} {x : Ch} {k : Nat} {L : List Ch} (h : Ins A x k L) : L.length = A.length + 1 := by
  obtain ⟨rfl, hk, _⟩ := h
  simp
  omega
theorem Ins.here {A : List Ch} {x : Ch} {k : Nat} {L : List Ch} (h : Ins A x k L) : L[k]? = some x := by
  obtain ⟨rfl, hk, _⟩ := h
  rw [List.getElem?_append_right (by simp; omega), List.length_take, show k - min k A.length = 0 by omega]
  rfl
theorem Ins.ahead {A : List Ch} {x : Ch} {m : Nat} {L : List Ch} (h : Ins A x (m + 1) L) : ∃ y, A[m]? = some y ∧ L[m]? = some y := by
  obtain ⟨rfl, hk, _⟩ := h
  have hm : m < A.length := by omega
  refine ⟨A[m], List.getElem?_eq_getElem hm, ?_⟩
  rw [List.getElem?_append_left (by simp; omega), List.getElem?_take_of_lt (by omega)]
  exact List.getElem?_eq_getElem hm
theorem Ins.swap {A : List Ch} {x y : Ch} {m : Nat} {L : List Ch} (h : Ins A x (m + 1) L) (hy : A[m]? = some y) (hl : Lt x y) : Ins A x m ((L.set m x).set (m + 1) y) := by
  obtain ⟨rfl, hk, hd⟩ := h
  have hm : m < A.length := by omega
  have e1 : A.take (m + 1) = A.take m ++ [y] := take_succ' hy
  have e2 : A.drop m = y :: A.drop (m + 1) := by
    rw [List.drop_eq_getElem_cons hm]
    rw [List.getElem?_eq_getElem hm] at hy
    rw [Option.some.inj hy]
  refine ⟨?_, by omega, fun z hz => ?_⟩
  · rw [e1, e2, List.append_assoc, List.set_append_right _ _ (by simp; omega)]
    simp only [List.length_take, show m - min m A.length = 0 by omega, List.singleton_append, List.set_cons_zero]
    rw [List.set_append_right _ _ (by simp; omega)]
    simp only [List.length_take, show m + 1 - min m A.length = 1 by omega, List.set_cons_succ, List.set_cons_zero]
  · rw [e2] at hz
    rcases List.mem_cons.1 hz with rfl | hz
    · exact hl
    · exact hd z hz
theorem Ins.done0 {A : List Ch} {x : Ch} {L : List Ch} (h : Ins A x 0 L) : L = add x A := by
  obtain ⟨rfl, hk, hd⟩ := h
  exact (add_insert hk hd (fun y hy => by simp at hy)).symm
theorem Ins.done {A : List Ch} {x y : Ch} {m : Nat} {L : List Ch} (hr : A.Pairwise Lt) (hno : ∀ y ∈ A, ¬ Key y x) (h : Ins A x (m + 1) L) (hy : A[m]? = some y) (hl : ¬ Lt x y) : L = add x A := by
  obtain ⟨rfl, hk, hd⟩ := h
  refine (add_insert hk hd (fun z hz => ?_)).symm
  have hyx : Lt y x := (three x y).elim (fun h => absurd h hl) fun h => h.elim (fun h => absurd h.symm (hno y (List.mem_of_getElem? hy))) id
  rw [take_succ' hy] at hz
  rcases List.mem_append.1 hz with hz | hz
  · obtain ⟨j, hj, hzj⟩ := mem_take hz
    obtain ⟨h1, e1⟩ := List.getElem?_eq_some_iff.1 hzj
    obtain ⟨h2, e2⟩ := List.getElem?_eq_some_iff.1 hy
    have := (List.pairwise_iff_getElem.1 hr) j m h1 h2 hj
    rw [e1, e2] at this
    exact this.trans hyx
  · simp at hz
    subst hz
    exact hyx

theorem tab_take {l : List Ch} {i : Nat} {x : Ch} (h : l[i]? = some x) : tab (l.take (i + 1)) = add x (tab (l.take i)) := by rw [take_succ' h, tab_snoc]
theorem tab_rising (l : List Ch) : (tab l).Pairwise Lt := by
  have go : ∀ (r a : List Ch), a.Pairwise Lt → (r.foldl (fun a x => add x a) a).Pairwise Lt := by
    intro r
    induction r with
    | nil => intro a h; exact h
    | cons x r ih => intro a h; exact ih _ (add_rising h)
  exact go l [] List.Pairwise.nil
theorem add_wf {x : Ch} {l : List Ch} (h : ∀ y ∈ l, y.Wf) (hx : x.Wf) : ∀ y ∈ add x l, y.Wf := by
  induction l with
  | nil => intro y hy; simp [add] at hy; subst hy; exact hx
  | cons z r ih =>
    have hz := h z (by simp)
    have hr := fun y hy => h y (List.mem_cons_of_mem z hy)
    intro y hy
    unfold add at hy
    split at hy
    · rcases List.mem_cons.1 hy with rfl | hy
      · exact hx
      · exact h y hy
    · split at hy
      · rcases List.mem_cons.1 hy with rfl | hy
        · exact ⟨hz.p0, hz.p1, hz.t0, hz.t1, (wr_range _).1, (wr_range _).2⟩
        · exact hr y hy
      · rcases List.mem_cons.1 hy with rfl | hy
        · exact hz
        · exact ih hr y hy
theorem tab_wf {l : List Ch} (h : ∀ x ∈ l, x.Wf) : ∀ y ∈ tab l, y.Wf := by
  have go : ∀ (r a : List Ch), (∀ x ∈ r, x.Wf) → (∀ x ∈ a, x.Wf) → ∀ y ∈ r.foldl (fun a x => add x a) a, y.Wf := by
    intro r
    induction r with
    | nil => intro a _ h; exact h
    | cons x r ih => intro a hr ha; exact ih _ (fun y hy => hr y (by simp [hy])) (add_wf ha (hr x (by simp)))
  exact go l [] h (by simp)

/-- What is kept of the first i of T. -/
def Kept (T : List Ch) (i : Nat) (O : List Ch) : Prop := O = (T.take i).filter nzB ∧ ∀ y ∈ T.take i, overB y.d = false
theorem Kept.start (T : List Ch) : Kept T 0 [] := ⟨by simp, by simp⟩
theorem Kept.len {T O : List Ch} {i : Nat} (h : Kept T i O) : O.length ≤ i := by
  rw [h.1]
  exact Nat.le_trans (List.length_filter_le _ _) (by rw [List.length_take]; omega)
theorem Kept.step {T O : List Ch} {i : Nat} {x : Ch} (h : Kept T i O) (hx : T[i]? = some x) (ho : overB x.d = false) (h0 : x.d ≠ 0) : Kept T (i + 1) (O ++ [x]) := by
  refine ⟨?_, fun y hy => ?_⟩
  · rw [take_succ' hx, List.filter_append, ← h.1]
    rw [List.filter_cons, if_pos (show nzB x = true from decide_eq_true h0)]
    rfl
  · rw [take_succ' hx] at hy
    rcases List.mem_append.1 hy with hy | hy
    · exact h.2 y hy
    · simp at hy; subst hy; exact ho
theorem Kept.skip {T O : List Ch} {i : Nat} {x : Ch} (h : Kept T i O) (hx : T[i]? = some x) (h0 : x.d = 0) : Kept T (i + 1) O := by
  refine ⟨?_, fun y hy => ?_⟩
  · rw [take_succ' hx, List.filter_append, ← h.1, List.filter_cons, if_neg (by unfold nzB; simp [h0])]
    simp
  · rw [take_succ' hx] at hy
    rcases List.mem_append.1 hy with hy | hy
    · exact h.2 y hy
    · simp at hy; subst hy; rw [h0]; rfl
theorem Kept.end {l O : List Ch} {i : Nat} (h : Kept (tab l) i O) (hi : (tab l).length ≤ i) : O = sumL l ∧ overK l = false := by
  obtain ⟨h1, h2⟩ := h
  rw [take_all hi] at h1 h2
  refine ⟨h1, ?_⟩
  unfold overK
  cases e : (tab l).any fun x => overB x.d
  · rfl
  · obtain ⟨x, hx, ho⟩ := List.any_eq_true.1 e
    rw [h2 x hx] at ho
    exact absurd ho (by decide)
theorem over_at {l : List Ch} {i : Nat} {x : Ch} (hx : (tab l)[i]? = some x) (ho : overB x.d = true) : overK l = true := by
  unfold overK
  rw [List.any_eq_true]
  exact ⟨x, List.mem_of_getElem? hx, ho⟩
end Go.Proofs.YtdbaacalfbbdiaaGreatDoor.Batch
