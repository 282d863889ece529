
/-
  FOR THE LAWS OF PACKAGE marchlandlaw06: what they share.
-/
import Derived.Test.YtkcmeklgnbejiaaFrTold
import Derived.Test.YtkcmeklgnbejiaaBagFix
import Derived.Test.YtkcmeklgnbejiaaBatchTo
namespace Go.Proofs.Ytkcmeklgnbejiaa.Fr
open Go.RowKit Go.Deep Gr
set_option linter.unusedVariables false

theorem formE {w : World} {base : Nat} {T : TypeId} {v : Value} {l : List Ed} (h : Own w base T v l) : ∃ ao cap, v = .slice ao l.length cap := by
  rcases h.2 with ⟨h, h0⟩ | ⟨g, cap, cur, h, _⟩
  · exact ⟨none, 0, by rw [h, h0]⟩
  · exact ⟨_, _, h⟩
theorem inlenF {n : Nat} {E : List Ed} {I : List Int} (h : GOk n E I) : I.length ≤ 8 := by
  by_cases h8 : I.length ≤ 8
  · exact h8
  · have hc := h.chk
    unfold chkV at hc
    rw [if_neg (by have := h.n0; have := h.n1; omega), if_neg (by have := h.len; omega)] at hc
    by_cases he : (edgesV (n : Int) 0 E).2 ≠ 0
    · rw [if_pos he] at hc
      rw [hc] at he
      exact absurd rfl he
    · rw [if_neg he, if_pos (.inr (by omega))] at hc
      simp at hc
theorem FrontU.congr {B : List Batch.Ch} {M M' : Nat → Nat → Int} {n p : Nat} {v : Int} (hp : p < n) (he : ∀ i j, i < n → j < n → M i j = M' i j) (h : FrontU B M n p v) : FrontU B M' n p v := by
  refine ⟨h.1, fun x hx h0 h1 => ?_, ?_⟩
  · rw [← he _ _ (by omega) hp]; exact h.2.1 x hx h0 h1
  · rcases h.2.2 with e | ⟨x, hx, h0, h1, e⟩
    · exact .inl e
    · exact .inr ⟨x, hx, h0, h1, by rw [← he _ _ (by omega) hp]; exact e⟩
theorem front_bd {B : List Batch.Ch} {M : Nat → Nat → Int} {n p : Nat} (hw : ∀ x ∈ B, x.Wf) : ∀ x ∈ B, 0 ≤ x.p → x.p < n → plusN x.t (M x.p.toNat p) ≤ 18446744073709551615 := fun x hx _ _ => (plusN_le (hw x hx).t1).1
theorem front_same {B : List Batch.Ch} {M M2 : Nat → Nat → Int} {n : Nat} {F : Nat → Int} {l : List Int} {E : List Ed} (hw : ∀ x ∈ B, x.Wf) (hfr : ∀ p, p < n → FrontU B M n p (F p)) (hll : l.length = n) (hfl : ∀ p x, l[p]? = some x → FrontU B M2 n p x)
    (h1 : LeastM E true n M) (h2 : LeastM E true n M2) : (List.range n).map F = l := by
  apply List.ext_getElem?
  intro i
  by_cases hi : i < n
  · have hx : l[i]? = some l[i] := List.getElem?_eq_getElem (by omega)
    rw [List.getElem?_map, List.getElem?_range hi, hx]
    show some (F i) = some l[i]
    rw [FrontU.one (front_bd hw) ((hfr i hi).congr hi (h1.one h2)) (hfl i _ hx)]
  · rw [List.getElem?_eq_none (by simp; omega), List.getElem?_eq_none (by omega)]
end Go.Proofs.Ytkcmeklgnbejiaa.Fr
