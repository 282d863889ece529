/-
  PACKAGE batch: Minus.
-/
import Derived.Test.YtehimacmjlehhaaBatchRight
namespace Go.Proofs.Ytehimacmjlehhaa.Batch
open Go.RowKit
set_option linter.unusedVariables false

def negC (x : Ch) : Ch := ⟨x.p, x.t, wr (-x.d)⟩
def minusL (l : List Ch) : List Ch := l.map negC
theorem negC_wf {x : Ch} (h : x.Wf) : (negC x).Wf := ⟨h.p0, h.p1, h.t0, h.t1, (wr_range _).1, (wr_range _).2⟩
theorem minusL_wf {l : List Ch} (h : ∀ x ∈ l, x.Wf) : ∀ x ∈ minusL l, x.Wf := by
  intro x hx
  obtain ⟨y, hy, rfl⟩ := List.mem_map.1 hx
  exact negC_wf (h y hy)
def negTo (l : List Ch) (i : Nat) : List Ch := (l.take i).map negC ++ l.drop i
theorem negTo_start (l : List Ch) : negTo l 0 = l := by unfold negTo; simp
theorem negTo_done {l : List Ch} {i : Nat} (h : l.length ≤ i) : negTo l i = minusL l := by unfold negTo minusL; rw [take_all h, List.drop_of_length_le h, List.append_nil]
theorem negTo_length {l : List Ch} {i : Nat} (h : i ≤ l.length) : (negTo l i).length = l.length := by unfold negTo; simp; omega
theorem negTo_at {l : List Ch} {i : Nat} {x : Ch} (h : l[i]? = some x) : (negTo l i)[i]? = some x := by
  have hl := (List.getElem?_eq_some_iff.1 h).1
  unfold negTo
  rw [List.getElem?_append_right (by simp; omega)]
  simp only [List.length_map, List.length_take]
  rw [List.getElem?_drop, show i + (i - min i l.length) = i by omega]
  exact h
theorem negTo_step {l : List Ch} {i : Nat} {x : Ch} (h : l[i]? = some x) : (negTo l i).set i (negC x) = negTo l (i + 1) := by
  have hl := (List.getElem?_eq_some_iff.1 h).1
  unfold negTo
  rw [List.set_append_right _ _ (by simp; omega)]
  have e : l.drop i = x :: l.drop (i + 1) := by
    rw [List.drop_eq_getElem_cons hl]
    rw [List.getElem?_eq_getElem hl] at h
    rw [Option.some.inj h]
  rw [e, take_succ' h]
  simp only [List.length_map, List.length_take, List.map_append, List.map_cons, List.map_nil]
  rw [show i - min i l.length = 0 by omega, List.set_cons_zero]
  simp

end Go.Proofs.Ytehimacmjlehhaa.Batch
