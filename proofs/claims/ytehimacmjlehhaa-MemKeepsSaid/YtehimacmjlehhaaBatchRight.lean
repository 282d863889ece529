/-
  PACKAGE batch: Right.
-/
import Derived.Test.YtehimacmjlehhaaBatchMerge
namespace Go.Proofs.Ytehimacmjlehhaa.Batch
open Go.RowKit
set_option linter.unusedVariables false

def RightP (l : List Ch) : Prop := (∀ x ∈ l, wrongN x = 0 ∧ x.d ≠ 0) ∧ l.Pairwise Lt
noncomputable def rightB (l : List Ch) : Bool := @decide (RightP l) (Classical.propDecidable _)
theorem rightB_iff (l : List Ch) : rightB l = true ↔ RightP l := by unfold rightB; exact @decide_eq_true_iff _ (Classical.propDecidable _)
theorem rightB_true {l : List Ch} (h : RightP l) : rightB l = true := (rightB_iff l).2 h
theorem rightB_false {l : List Ch} (h : ¬ RightP l) : rightB l = false := by
  cases e : rightB l
  · rfl
  · exact absurd ((rightB_iff l).1 e) h
theorem right_start (l : List Ch) : RightP (l.take 0) := ⟨by simp, by simp⟩
theorem right_step0 {l : List Ch} {x : Ch} (hx : l[0]? = some x) (h0 : wrongN x = 0) (h1 : x.d ≠ 0) : RightP (l.take 1) := by
  rw [take_succ' hx]
  exact ⟨fun y hy => by simp at hy; subst hy; exact ⟨h0, h1⟩, by simp⟩
theorem right_step {l : List Ch} {k : Nat} {x y : Ch} (h : RightP (l.take (k + 1))) (hy : l[k]? = some y) (hx : l[k + 1]? = some x) (h0 : wrongN x = 0) (h1 : x.d ≠ 0) (h2 : Lt y x) : RightP (l.take (k + 1 + 1)) := by
  rw [take_succ' hx]
  refine ⟨fun z hz => ?_, ?_⟩
  · rcases List.mem_append.1 hz with hz | hz
    · exact h.1 z hz
    · simp at hz; subst hz; exact ⟨h0, h1⟩
  · rw [List.pairwise_append]
    refine ⟨h.2, by simp, fun z hz q hq => ?_⟩
    simp at hq
    subst hq
    have e := take_succ' hy
    rw [e] at hz
    rcases List.mem_append.1 hz with hz | hz
    · have hp := h.2
      rw [e, List.pairwise_append] at hp
      exact (hp.2.2 z hz y (by simp)).trans h2
    · simp at hz; subst hz; exact h2
theorem right_not1 {l : List Ch} {i : Nat} {x : Ch} (hx : l[i]? = some x) (h : wrongN x ≠ 0 ∨ x.d = 0) : ¬ RightP l := fun hr => by
  have := hr.1 x (List.mem_of_getElem? hx)
  rcases h with h | h
  · exact h this.1
  · exact this.2 h
theorem right_not2 {l : List Ch} {k : Nat} {x y : Ch} (hy : l[k]? = some y) (hx : l[k + 1]? = some x) (h : ¬ Lt y x) : ¬ RightP l := fun hr => by
  obtain ⟨h1, e1⟩ := List.getElem?_eq_some_iff.1 hy
  obtain ⟨h2, e2⟩ := List.getElem?_eq_some_iff.1 hx
  have := (List.pairwise_iff_getElem.1 hr.2) k (k + 1) h1 h2 (by omega)
  rw [e1, e2] at this
  exact h this

end Go.Proofs.Ytehimacmjlehhaa.Batch
