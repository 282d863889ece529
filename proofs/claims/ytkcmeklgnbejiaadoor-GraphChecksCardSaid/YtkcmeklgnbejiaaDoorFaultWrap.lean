
/-
  THE LAWS' OWN CHAIN: an error of a kind at places, the outer ones ahead.
-/
import Derived.Test.YtkcmeklgnbejiaaDoorFaultFew
import Derived.StillTailTactics
namespace Go.Proofs.YtkcmeklgnbejiaaDoor.Fault
open Go.RowKit
set_option linter.unusedVariables false

theorem Reads.below {w w' : World} {v : Value} {l : List Pl} (h : Reads w v l) (hb : Below w.heap.size w w') : Reads w' v l := by
  obtain ⟨ao, cap, h1, h2, h3, h4⟩ := h
  refine ⟨ao, cap, h1, h2, h3, ?_⟩
  rcases h4 with h4 | ⟨b, off, h5, h6⟩
  · exact .inl h4
  · refine .inr ⟨b, off, h5, fun i s n hx => ?_⟩
    obtain ⟨q0, q1⟩ := h6 i s n hx
    exact ⟨(hb.cell (p := ⟨b, off + i * 2, none⟩) (Lib.lt_of_cell q0)).trans q0, (hb.cell (p := ⟨b, off + i * 2 + 1, none⟩) (Lib.lt_of_cell q1)).trans q1⟩
theorem reads_own {w : World} {B : Nat} {T : TypeId} {v : Value} {l : List Pl} (h : w.ownsRow B T 2 v l.length (plCells l)) (hl : l.length ≤ 1000) (hs : ∀ x ∈ l, Small x) : Reads w v l := by
  have hok : ∀ x ∈ l, x.1.size ≤ 9223372036854775807 ∧ -9223372036854775808 ≤ x.2 ∧ x.2 ≤ 9223372036854775807 := fun x hx => ⟨by have := (hs x hx).1; omega, (hs x hx).2⟩
  rcases h.2 with ⟨hv, h0⟩ | ⟨g, cap, cur, hv, hB, hg, hle, hcap, hsz, hcur⟩
  · exact ⟨none, 0, by rw [hv, h0], by omega, hok, .inl (List.eq_nil_of_length_eq_zero h0)⟩
  · refine ⟨some ⟨g, 0, none⟩, cap, hv, by omega, hok, .inr ⟨g, 0, rfl, fun i s n hx => ?_⟩⟩
    have hi : i < l.length := (List.getElem?_eq_some_iff.1 hx).1
    obtain ⟨p0, p1⟩ := plCells_at l i s n hx
    rw [Nat.zero_add, Lib.cell_of_heap hg, Lib.cell_of_heap hg]
    exact ⟨cur_at hcur p0 (by omega), cur_at hcur p1 (by omega)⟩

end Go.Proofs.YtkcmeklgnbejiaaDoor.Fault
