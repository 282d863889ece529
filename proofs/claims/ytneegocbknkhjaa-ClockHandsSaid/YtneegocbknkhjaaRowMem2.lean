/-
  MEMORY: a row of the call's own of which several cells are laid anew, or that is cut; clear.
-/
import Derived.Test.YtneegocbknkhjaaRowMem
import Derived.Laws.IdiomCopy
import Derived.Deep.Upon
import Derived.Lib.SliceRun
import Derived.Deep.RegionLaw
namespace Go.Proofs.Ytneegocbknkhjaa.Rw
open Go.RowKit Go.Lib
set_option linter.unusedVariables false

theorem row_setCells {base g n cap m : Nat} {T : TypeId} {size : Nat} : ∀ (vs : List Value) (o : Nat) (w : World) (xs : List Value), w.ownsRow base T size (.slice (some ⟨g, 0, none⟩) m cap) n xs → o + vs.length ≤ n * size →
    (w.setCells g o vs).ownsRow base T size (.slice (some ⟨g, 0, none⟩) m cap) n (xs.take o ++ vs ++ xs.drop (o + vs.length))
  | [], o, w, xs, h, _ => by simpa [World.setCells] using h
  | v :: r, o, w, xs, h, ho => by
    have hl : xs.length = n * size := h.1
    rw [List.length_cons] at ho
    have h1 := row_set h (j := o) (by omega) v
    have h2 := row_setCells r (o + 1) _ _ h1 (by omega)
    show ((w.setCell ⟨g, o, none⟩ v).setCells g (o + 1) r).ownsRow _ _ _ _ _ _
    have e : xs.take o ++ (v :: r) ++ xs.drop (o + (r.length + 1)) = (xs.set o v).take (o + 1) ++ r ++ (xs.set o v).drop (o + 1 + r.length) := by
      have ho' : o < xs.length := by omega
      obtain ⟨A, y, C, hx, hA⟩ : ∃ A y C, xs = A ++ y :: C ∧ A.length = o := ⟨xs.take o, xs[o], xs.drop (o + 1), by rw [← List.drop_eq_getElem_cons ho', List.take_append_drop], by rw [List.length_take]; omega⟩
      subst hx hA
      have e1 : (A ++ y :: C).set A.length v = A ++ v :: C := by simp
      have e2 : (A ++ v :: C).take (A.length + 1) = A ++ [v] := by rw [List.take_append, List.take_of_length_le (by omega), show A.length + 1 - A.length = 1 by omega]; rfl
      have e3 : (A ++ v :: C).drop (A.length + 1 + r.length) = C.drop r.length := by
        rw [show A.length + 1 + r.length = A.length + (r.length + 1) by omega, List.drop_length_add_append, List.drop_succ_cons]
      have e4 : (A ++ y :: C).drop (A.length + (r.length + 1)) = C.drop r.length := by rw [List.drop_length_add_append, List.drop_succ_cons]
      have e5 : (A ++ y :: C).take A.length = A := by simp
      rw [e1, e2, e3, e4, e5]
      simp
    rw [List.length_cons, e]
    exact h2
theorem row_cut {w : World} {base g n cap k : Nat} {T : TypeId} {size : Nat} {xs : List Value} (h : w.ownsRow base T size (.slice (some ⟨g, 0, none⟩) n cap) n xs) (hk : k ≤ n) :
    w.ownsRow base T size (.slice (some ⟨g, 0, none⟩) k cap) k (xs.take (k * size)) := by
  have hl : xs.length = n * size := h.1
  have hks : k * size ≤ n * size := Nat.mul_le_mul_right _ hk
  refine ⟨by rw [List.length_take, hl]; omega, ?_⟩
  rcases h.2 with ⟨hv, _⟩ | ⟨g', cap', cur, hv, hb, hg, hn, hc, hs, ht⟩
  · simp at hv
  · simp at hv
    obtain ⟨rfl, rfl⟩ := hv
    refine .inr ⟨g, cap, cur, rfl, hb, hg, by omega, hc, hs, ?_⟩
    rw [← ht, List.take_take, Nat.min_eq_left hks]
/-- A slice that goes on to where its array has room. -/
theorem below_setCells {B : Nat} {a : World} {g : Nat} (hg : B ≤ g) : ∀ (vs : List Value) (o : Nat) (w : World), Below B a w → Below B a (w.setCells g o vs)
  | [], _, _, h => h
  | v :: r, o, w, h => below_setCells hg r (o + 1) _ (h.setCell (p := ⟨g, o, none⟩) hg v)
theorem run_clear_any {P : Program} (w : World) (t e ty : TypeId) (z : Value) (ht : P.underlying t = some (.slice e)) (hv : ∀ w, (zeroValue e).run P w = .ok z w) (b o n c : Nat) (hn : 0 < n) (h1 : ∀ v ∈ (Builtin.zeroCells z.cells n).toList, v.oneCell' = true)
    (hc : ∀ j, j < (Builtin.zeroCells z.cells n).toList.length → (w.cell? ⟨b, o + j, none⟩).isSome = true) (hf : ∀ j, j < (Builtin.zeroCells z.cells n).toList.length → w.frozen? ⟨b, o + j, none⟩ = false) :
    (Builtin.clear_ #[t] ty #[.slice (some ⟨b, o, none⟩) n c]).run P w = .ok (.tuple #[]) (w.setCells b o (Builtin.zeroCells z.cells n).toList) := by
  have hst := run_storeCells_cells (P := P) b o (Builtin.zeroCells z.cells n).toList 0 w (by simpa using hc) (by simpa using hf) h1
  simp only [Nat.add_zero] at hst
  obtain ⟨m, rfl⟩ : ∃ m, n = m + 1 := ⟨n - 1, by omega⟩
  simp [Builtin.clear_, run_underlying ht, hv, hst]
end Go.Proofs.Ytneegocbknkhjaa.Rw
