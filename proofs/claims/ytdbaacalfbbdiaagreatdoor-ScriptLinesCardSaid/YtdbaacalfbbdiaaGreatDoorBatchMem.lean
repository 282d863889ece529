/-
  PACKAGE batch, MEMORY: a slice of Changes as it reads (Rd); one that the call made itself (Own): three cells each.
-/
import Derived.Test.YtdbaacalfbbdiaaGreatDoorBatchMath
import Derived.Laws.AppendOwn
import Derived.Deep.AppendLies
import Derived.Below
import Derived.OneCell
import Derived.Lib.Walk
import Derived.Lib.Hide
import Derived.Lib.AtoiErrMem
import Derived.Deep.Draws
namespace Go.Proofs.YtdbaacalfbbdiaaGreatDoor.Batch
open Go.RowKit
set_option linter.unusedVariables false

def cellsL (l : List Ch) : List Value := l.flatMap Ch.cells
theorem cellsL_length (l : List Ch) : (cellsL l).length = l.length * 3 := by
  induction l with
  | nil => rfl
  | cons x r ih => unfold cellsL at *; rw [List.flatMap_cons, List.length_append, ih, List.length_cons]; simp [Ch.cells]; omega
theorem cellsL_append (a b : List Ch) : cellsL (a ++ b) = cellsL a ++ cellsL b := by unfold cellsL; simp
theorem cellsL_snoc (l : List Ch) (x : Ch) : cellsL (l ++ [x]) = cellsL l ++ [.int .i64 x.p, .int .u64 x.t, .int .i64 x.d] := by rw [cellsL_append]; rfl
theorem cellsL_at {l : List Ch} {i : Nat} {x : Ch} (h : l[i]? = some x) : ∀ c, c < 3 → (cellsL l)[i * 3 + c]? = x.cells[c]? := by
  induction l generalizing i with
  | nil => simp at h
  | cons y r ih =>
    intro c hc
    have e : cellsL (y :: r) = y.cells ++ cellsL r := rfl
    have hl : y.cells.length = 3 := rfl
    rw [e]
    cases i with
    | zero =>
      simp at h
      subst h
      rw [List.getElem?_append_left (by rw [hl]; omega), Nat.zero_mul, Nat.zero_add]
    | succ k =>
      rw [List.getElem?_append_right (by rw [hl]; omega), hl, show (k + 1) * 3 + c - 3 = k * 3 + c by omega]
      exact ih (by simpa using h) c hc

/-- Three cells that hold a Change. -/
def At3 (w : World) (b o : Nat) (x : Ch) : Prop := w.cell? ⟨b, o, none⟩ = some (.int .i64 x.p) ∧ w.cell? ⟨b, o + 1, none⟩ = some (.int .u64 x.t) ∧ w.cell? ⟨b, o + 2, none⟩ = some (.int .i64 x.d)
theorem At3.lt {w : World} {b o : Nat} {x : Ch} (h : At3 w b o x) : b < w.heap.size := Lib.lt_of_cell h.1
theorem At3.below {w w' : World} {B b o : Nat} {x : Ch} (h : At3 w b o x) (hw : Below B w w') (hb : b < B) : At3 w' b o x :=
  ⟨(hw.cell (p := ⟨b, o, none⟩) hb).trans h.1, (hw.cell (p := ⟨b, o + 1, none⟩) hb).trans h.2.1, (hw.cell (p := ⟨b, o + 2, none⟩) hb).trans h.2.2⟩

/-- A slice of Changes, as it reads. -/
def Rd (w : World) (v : Value) (l : List Ch) : Prop := ∃ (ao : Option Addr) (cap : Nat), v = .slice ao l.length cap ∧ l.length ≤ cap ∧ cap ≤ 9223372036854775807 ∧ (∀ x ∈ l, x.Wf) ∧
  (l = [] ∨ ∃ b off, ao = some ⟨b, off, none⟩ ∧ ∀ i x, l[i]? = some x → At3 w b (off + i * 3) x)
theorem Rd.below {w w' : World} {v : Value} {l : List Ch} (h : Rd w v l) (hw : Below w.heap.size w w') : Rd w' v l := by
  obtain ⟨ao, cap, rfl, h1, h2, h3, h4⟩ := h
  refine ⟨ao, cap, rfl, h1, h2, h3, ?_⟩
  rcases h4 with h4 | ⟨b, off, ha, h4⟩
  · exact .inl h4
  · exact .inr ⟨b, off, ha, fun i x hx => (h4 i x hx).below hw (h4 i x hx).lt⟩
theorem Rd.len {w : World} {v : Value} {l : List Ch} (h : Rd w v l) : ∃ ao cap, v = .slice ao l.length cap ∧ l.length ≤ 9223372036854775807 := by
  obtain ⟨ao, cap, rfl, h1, h2, _⟩ := h
  exact ⟨ao, cap, rfl, by omega⟩
theorem Rd.wf {w : World} {v : Value} {l : List Ch} (h : Rd w v l) : ∀ x ∈ l, x.Wf := by obtain ⟨_, _, _, _, _, h, _⟩ := h; exact h
theorem Rd.at {w : World} {ao : Option Addr} {n cap : Nat} {l : List Ch} (h : Rd w (.slice ao n cap) l) {i : Nat} {x : Ch} (hx : l[i]? = some x) : ∃ b off, ao = some ⟨b, off, none⟩ ∧ At3 w b (off + i * 3) x := by
  obtain ⟨ao', cap', hv, _, _, _, h4⟩ := h
  simp at hv
  obtain ⟨rfl, rfl, rfl⟩ := hv
  rcases h4 with h4 | ⟨b, off, ha, h4⟩
  · subst h4; simp at hx
  · exact ⟨b, off, ha, h4 i x hx⟩
theorem Rd.nil (w : World) : Rd w (.slice none 0 0) [] := ⟨none, 0, rfl, by simp, by simp, by simp, .inl rfl⟩
theorem at_of {l : List Ch} {i : Nat} (h : i < l.length) : ∃ x, l[i]? = some x ∧ x ∈ l := ⟨l[i], List.getElem?_eq_getElem h, List.getElem_mem h⟩

/-- .. at a plain address, if it has one. -/
def Sl (w : World) (v : Value) (l : List Ch) : Prop := ∃ (ao : Option Addr) (cap : Nat), v = .slice ao l.length cap ∧ (ao = none ∧ l = [] ∨ ∃ b off, ao = some ⟨b, off, none⟩ ∧ ∀ i x, l[i]? = some x → At3 w b (off + i * 3) x) ∧ l.length ≤ cap ∧ cap ≤ 9223372036854775807 ∧ ∀ x ∈ l, x.Wf
theorem Sl.rd {w : World} {v : Value} {l : List Ch} (h : Sl w v l) : Rd w v l := by
  obtain ⟨ao, cap, rfl, h1, h2, h3, h4⟩ := h
  refine ⟨ao, cap, rfl, h2, h3, h4, ?_⟩
  rcases h1 with ⟨_, h1⟩ | h1
  · exact .inl h1
  · exact .inr h1
theorem Sl.below {w w' : World} {v : Value} {l : List Ch} (h : Sl w v l) (hw : Below w.heap.size w w') : Sl w' v l := by
  obtain ⟨ao, cap, rfl, h1, h2, h3, h4⟩ := h
  refine ⟨ao, cap, rfl, ?_, h2, h3, h4⟩
  rcases h1 with h1 | ⟨b, off, ha, h1⟩
  · exact .inl h1
  · exact .inr ⟨b, off, ha, fun i x hx => (h1 i x hx).below hw (h1 i x hx).lt⟩
theorem Sl.wf {w : World} {v : Value} {l : List Ch} (h : Sl w v l) : ∀ x ∈ l, x.Wf := h.rd.wf
theorem Sl.nil (w : World) : Sl w (.slice none 0 0) [] := ⟨none, 0, rfl, .inl ⟨rfl, rfl⟩, by simp, by simp, by simp⟩
theorem cells_of_at {w : World} {b off : Nat} {l : List Ch} (h : ∀ i x, l[i]? = some x → At3 w b (off + i * 3) x) : ∀ j u, (cellsL l)[j]? = some u → w.cell? ⟨b, off + j, none⟩ = some u := by
  intro j u hu
  have hj : j < l.length * 3 := by rw [← cellsL_length]; exact (List.getElem?_eq_some_iff.1 hu).1
  have hi : j / 3 < l.length := by omega
  obtain ⟨x, hx, _⟩ := at_of hi
  have h3 := h _ _ hx
  have hc := cellsL_at hx (j % 3) (Nat.mod_lt _ (by omega))
  rw [show j / 3 * 3 + j % 3 = j by omega, hu] at hc
  rcases (show j % 3 = 0 ∨ j % 3 = 1 ∨ j % 3 = 2 by omega) with h0 | h0 | h0
  · rw [h0] at hc
    obtain rfl := Option.some.inj hc
    have := h3.1
    rw [show off + j / 3 * 3 = off + j by omega] at this
    exact this
  · rw [h0] at hc
    obtain rfl := Option.some.inj hc
    have := h3.2.1
    rw [show off + j / 3 * 3 + 1 = off + j by omega] at this
    exact this
  · rw [h0] at hc
    obtain rfl := Option.some.inj hc
    have := h3.2.2
    rw [show off + j / 3 * 3 + 2 = off + j by omega] at this
    exact this
theorem cellsL_one (l : List Ch) : ∀ u ∈ cellsL l, u.oneCell' = true := by
  intro u hu
  unfold cellsL at hu
  obtain ⟨x, _, hx⟩ := List.mem_flatMap.1 hu
  simp [Ch.cells] at hx
  rcases hx with rfl | rfl | rfl <;> rfl

/-- Changes in memory of the call's own. -/
def Own (w : World) (base : Nat) (T : TypeId) (v : Value) (l : List Ch) : Prop := w.ownsRow base T 3 v l.length (cellsL l)
theorem Own.nil (w : World) (base : Nat) (T : TypeId) : Own w base T (.slice none 0 0) [] := World.ownsRow_nil _ _ _ _
theorem Own.form {w : World} {base : Nat} {T : TypeId} {v : Value} {l : List Ch} (h : Own w base T v l) : (l = [] ∧ v = .slice none 0 0) ∨ ∃ g cap, v = .slice (some ⟨g, 0, none⟩) l.length cap ∧ base ≤ g ∧ g < w.heap.size ∧ l.length ≤ cap ∧ cap ≤ 9223372036854775807 := by
  rcases h.2 with ⟨hv, hn⟩ | ⟨g, cap, cur, hv, hb, hg, hc, hm, _⟩
  · exact .inl ⟨List.length_eq_zero_iff.1 hn, hv⟩
  · exact .inr ⟨g, cap, hv, hb, (Array.getElem?_eq_some_iff.1 hg).1, hc, by unfold maxLen at hm; exact hm⟩
theorem Own.at {w : World} {base g n cap : Nat} {T : TypeId} {l : List Ch} (h : Own w base T (.slice (some ⟨g, 0, none⟩) n cap) l) {i : Nat} {x : Ch} (hx : l[i]? = some x) : At3 w g (i * 3) x := by
  have hc : ∀ c u, c < 3 → x.cells[c]? = some u → w.cell? ⟨g, i * 3 + c, none⟩ = some u := by
    intro c u hc hu
    have := World.ownsRow.cells h (g := g) rfl (i * 3 + c) u (by rw [cellsL_at hx c hc]; exact hu)
    rw [show ((⟨g, 0, none⟩ : Addr).add (i * 3 + c)) = ⟨g, i * 3 + c, none⟩ by unfold Addr.add; split <;> simp_all] at this
    exact this
  exact ⟨hc 0 _ (by omega) rfl, hc 1 _ (by omega) rfl, hc 2 _ (by omega) rfl⟩
theorem Own.free {w : World} {base g n cap : Nat} {T : TypeId} {l : List Ch} (h : Own w base T (.slice (some ⟨g, 0, none⟩) n cap) l) (o : Nat) : w.frozen? ⟨g, o, none⟩ = false := by
  rcases h.2 with ⟨hv, _⟩ | ⟨g', cap', cur, hv, _, hg, _⟩
  · simp at hv
  · simp at hv
    obtain ⟨rfl, _⟩ := hv
    simp [World.frozen?, hg]
theorem Own.rd {w : World} {base : Nat} {T : TypeId} {v : Value} {l : List Ch} (h : Own w base T v l) (hw : ∀ x ∈ l, x.Wf) : Rd w v l := by
  rcases h.form with ⟨rfl, rfl⟩ | ⟨g, cap, rfl, _, _, hc, hm⟩
  · exact Rd.nil w
  · exact ⟨some ⟨g, 0, none⟩, cap, rfl, hc, hm, hw, .inr ⟨g, 0, rfl, fun i x hx => by rw [Nat.zero_add]; exact h.at hx⟩⟩
theorem Own.sl {w : World} {base : Nat} {T : TypeId} {v : Value} {l : List Ch} (h : Own w base T v l) (hw : ∀ x ∈ l, x.Wf) : Sl w v l := by
  rcases h.form with ⟨rfl, rfl⟩ | ⟨g, cap, rfl, _, _, hc, hm⟩
  · exact Sl.nil w
  · exact ⟨some ⟨g, 0, none⟩, cap, rfl, .inr ⟨g, 0, rfl, fun i x hx => by rw [Nat.zero_add]; exact h.at hx⟩, hc, hm, hw⟩
theorem Own.below {w w' : World} {base : Nat} {T : TypeId} {v : Value} {l : List Ch} (h : Own w base T v l) (hw : Below w.heap.size w w') : Own w' base T v l := by
  refine ⟨h.1, ?_⟩
  rcases h.2 with h2 | ⟨g, cap, cur, rfl, hb, hg, rest⟩
  · exact .inl h2
  · exact .inr ⟨g, cap, cur, rfl, hb, (hw.block g (Array.getElem?_eq_some_iff.1 hg).1).trans hg, rest⟩
theorem Own.draw {w : World} {base : Nat} {T : TypeId} {v : Value} {l : List Ch} (h : Own w base T v l) (n : Nat) : Own (w.drewN n) base T v l := h
theorem Own.mono {w : World} {base base' : Nat} {T : TypeId} {v : Value} {l : List Ch} (h : Own w base T v l) (hb : base' ≤ base) : Own w base' T v l := by
  refine ⟨h.1, ?_⟩
  rcases h.2 with h2 | ⟨g, cap, cur, rfl, hg, rest⟩
  · exact .inl h2
  · exact .inr ⟨g, cap, cur, rfl, by omega, rest⟩
theorem cellsL_set {l : List Ch} {i : Nat} {x y : Ch} (h : l[i]? = some x) : cellsL (l.set i y) = (((cellsL l).set (i * 3) (.int .i64 y.p)).set (i * 3 + 1) (.int .u64 y.t)).set (i * 3 + 2) (.int .i64 y.d) := by
  induction l generalizing i with
  | nil => simp at h
  | cons z r ih =>
    cases i with
    | zero => rfl
    | succ k =>
      have e : ∀ q, cellsL (z :: q) = .int .i64 z.p :: .int .u64 z.t :: .int .i64 z.d :: cellsL q := fun _ => rfl
      rw [List.set_cons_succ, e, e, ih (by simpa using h), show (k + 1) * 3 = k * 3 + 1 + 1 + 1 by omega]
      rfl
theorem cellsL_setD {l : List Ch} {i : Nat} {x : Ch} (d : Int) (h : l[i]? = some x) : cellsL (l.set i ⟨x.p, x.t, d⟩) = (cellsL l).set (i * 3 + 2) (.int .i64 d) := by
  rw [cellsL_set h]
  have h0 := cellsL_at h 0 (by omega)
  have h1 := cellsL_at h 1 (by omega)
  simp only [Ch.cells, Nat.add_zero] at h0 h1
  have s0 : (cellsL l).set (i * 3) (.int .i64 x.p) = cellsL l := by
    obtain ⟨hl, he⟩ := List.getElem?_eq_some_iff.1 (show (cellsL l)[i * 3]? = some (.int .i64 x.p) from h0)
    rw [← he, List.set_getElem_self]
  have s1 : (cellsL l).set (i * 3 + 1) (.int .u64 x.t) = cellsL l := by
    obtain ⟨hl, he⟩ := List.getElem?_eq_some_iff.1 (show (cellsL l)[i * 3 + 1]? = some (.int .u64 x.t) from h1)
    rw [← he, List.set_getElem_self]
  simp only [s0, s1]
theorem own_set {w : World} {base g n cap m : Nat} {T : TypeId} {size : Nat} {xs : List Value} (h : w.ownsRow base T size (.slice (some ⟨g, 0, none⟩) m cap) n xs) {j : Nat} (hj : j < n * size) (u : Value) :
    (w.setCell ⟨g, j, none⟩ u).ownsRow base T size (.slice (some ⟨g, 0, none⟩) m cap) n (xs.set j u) := by
  refine ⟨by rw [List.length_set]; exact h.1, ?_⟩
  rcases h.2 with ⟨hv, _⟩ | ⟨g', cap', cur, hv, hb, hg, hn, hc, hs, ht⟩
  · simp at hv
  · simp at hv
    obtain ⟨rfl, rfl, rfl⟩ := hv
    refine .inr ⟨g, cap, cur.setIfInBounds j u, rfl, hb, heap_setCell_same w g j cur T u hg, hn, hc, by simp [hs], ?_⟩
    rw [Array.toList_setIfInBounds, List.take_set, ht]
theorem Own.setD {w : World} {base g n cap : Nat} {T : TypeId} {l : List Ch} (h : Own w base T (.slice (some ⟨g, 0, none⟩) n cap) l) {i : Nat} {x : Ch} (hx : l[i]? = some x) (d : Int) :
    Own (w.setCell ⟨g, i * 3 + 2, none⟩ (.int .i64 d)) base T (.slice (some ⟨g, 0, none⟩) n cap) (l.set i ⟨x.p, x.t, d⟩) := by
  have hl : i < l.length := (List.getElem?_eq_some_iff.1 hx).1
  unfold Own
  rw [cellsL_setD d hx, List.length_set]
  exact own_set h (by omega) _
theorem Own.put {w : World} {base g n cap : Nat} {T : TypeId} {l : List Ch} (h : Own w base T (.slice (some ⟨g, 0, none⟩) n cap) l) {i : Nat} {x : Ch} (hx : l[i]? = some x) (y : Ch) :
    Own (((w.setCell ⟨g, i * 3, none⟩ (.int .i64 y.p)).setCell ⟨g, i * 3 + 1, none⟩ (.int .u64 y.t)).setCell ⟨g, i * 3 + 2, none⟩ (.int .i64 y.d)) base T (.slice (some ⟨g, 0, none⟩) n cap) (l.set i y) := by
  have hl : i < l.length := (List.getElem?_eq_some_iff.1 hx).1
  unfold Own
  rw [cellsL_set hx, List.length_set]
  exact own_set (own_set (own_set h (by omega) _) (by omega) _) (by omega) _
theorem setD_list {l : List Ch} {i : Nat} {x : Ch} {d : Int} : (l.set i ⟨x.p, x.t, d⟩).length = l.length := by simp
end Go.Proofs.YtdbaacalfbbdiaaGreatDoor.Batch
