/-
  PACKAGE graph, MEMORY: a slice of Edges as it reads (Rd); one that the call made itself (Own): three cells each.
-/
import Derived.Test.YtdbaacalfbbdiaaGreatDoorWalkMath
import Derived.Laws.AppendOwn
import Derived.Deep.AppendLies
import Derived.Below
import Derived.OneCell
import Derived.Lib.Walk
import Derived.Lib.Hide
import Derived.Lib.AtoiErrMem
import Derived.Deep.Draws
import Derived.Deep.OwnRows
import Derived.Test.YtdbaacalfbbdiaaGreatDoorRows
import Derived.KernelRfl
namespace Go.Proofs.YtdbaacalfbbdiaaGreatDoor.Gr
open Go.RowKit
set_option linter.unusedVariables false

/-- An Edge that a program may hold. -/
structure Ed.Wf (x : Ed) : Prop where
  f0 : -9223372036854775808 ≤ x.f
  f1 : x.f ≤ 9223372036854775807
  t0 : -9223372036854775808 ≤ x.t
  t1 : x.t ≤ 9223372036854775807
  a0 : 0 ≤ x.a
  a1 : x.a ≤ 18446744073709551615
def Ed.cells (x : Ed) : List Value := [.int .i64 x.f, .int .i64 x.t, .int .u64 x.a]
abbrev Ed.agg (x : Ed) : Value := .agg #[.int .i64 x.f, .int .i64 x.t, .int .u64 x.a]
theorem take_succ' {α : Type} {l : List α} {i : Nat} {x : α} (h : l[i]? = some x) : l.take (i + 1) = l.take i ++ [x] := by rw [List.take_add_one, h]; rfl
theorem take_all {α : Type} {l : List α} {i : Nat} (h : l.length ≤ i) : l.take i = l := List.take_of_length_le h
theorem info_parts {P : Program} {t : TypeId} {z : Value} {size bytes : Nat} (h : (P.info? t).map (fun i => (i.zero, i.size, i.bytes)) = some (some z, size, bytes)) : ∃ i, P.info? t = some i ∧ i.zero = some z ∧ i.size = size ∧ i.bytes = bytes := by
  obtain ⟨i, hi, hz⟩ := Option.map_eq_some_iff.1 h
  simp only [Prod.mk.injEq] at hz
  exact ⟨i, hi, hz⟩
def cellsL (l : List Ed) : List Value := l.flatMap Ed.cells
theorem cellsL_length (l : List Ed) : (cellsL l).length = l.length * 3 := by
  induction l with
  | nil => rfl
  | cons x r ih => unfold cellsL at *; rw [List.flatMap_cons, List.length_append, ih, List.length_cons]; simp [Ed.cells]; omega
theorem cellsL_append (a b : List Ed) : cellsL (a ++ b) = cellsL a ++ cellsL b := by unfold cellsL; simp
theorem cellsL_snoc (l : List Ed) (x : Ed) : cellsL (l ++ [x]) = cellsL l ++ [.int .i64 x.f, .int .i64 x.t, .int .u64 x.a] := by rw [cellsL_append]; rfl
theorem cellsL_at {l : List Ed} {i : Nat} {x : Ed} (h : l[i]? = some x) : ∀ c, c < 3 → (cellsL l)[i * 3 + c]? = x.cells[c]? := by
  induction l generalizing i with
  | nil => simp at h
  | cons y r ih =>
    intro c hc
    have e : cellsL (y :: r) = y.cells ++ cellsL r := rfl
    have hl : y.cells.length = 3 := rfl
    rw [e]
    cases i with
    | zero =>
      simp at h
      subst h
      rw [List.getElem?_append_left (by rw [hl]; omega), Nat.zero_mul, Nat.zero_add]
    | succ k =>
      rw [List.getElem?_append_right (by rw [hl]; omega), hl, show (k + 1) * 3 + c - 3 = k * 3 + c by omega]
      exact ih (by simpa using h) c hc

/-- Three cells that hold a Change. -/
def At3 (w : World) (b o : Nat) (x : Ed) : Prop := w.cell? ⟨b, o, none⟩ = some (.int .i64 x.f) ∧ w.cell? ⟨b, o + 1, none⟩ = some (.int .i64 x.t) ∧ w.cell? ⟨b, o + 2, none⟩ = some (.int .u64 x.a)
theorem At3.lt {w : World} {b o : Nat} {x : Ed} (h : At3 w b o x) : b < w.heap.size := Lib.lt_of_cell h.1
theorem At3.below {w w' : World} {B b o : Nat} {x : Ed} (h : At3 w b o x) (hw : Below B w w') (hb : b < B) : At3 w' b o x :=
  ⟨(hw.cell (p := ⟨b, o, none⟩) hb).trans h.1, (hw.cell (p := ⟨b, o + 1, none⟩) hb).trans h.2.1, (hw.cell (p := ⟨b, o + 2, none⟩) hb).trans h.2.2⟩

/-- A slice of Changes, as it reads. -/
def Rd (w : World) (v : Value) (l : List Ed) : Prop := ∃ (ao : Option Addr) (cap : Nat), v = .slice ao l.length cap ∧ l.length ≤ cap ∧ cap ≤ 9223372036854775807 ∧ (∀ x ∈ l, x.Wf) ∧
  (l = [] ∨ ∃ b off, ao = some ⟨b, off, none⟩ ∧ ∀ i x, l[i]? = some x → At3 w b (off + i * 3) x)
theorem Rd.below {w w' : World} {v : Value} {l : List Ed} (h : Rd w v l) (hw : Below w.heap.size w w') : Rd w' v l := by
  obtain ⟨ao, cap, rfl, h1, h2, h3, h4⟩ := h
  refine ⟨ao, cap, rfl, h1, h2, h3, ?_⟩
  rcases h4 with h4 | ⟨b, off, ha, h4⟩
  · exact .inl h4
  · exact .inr ⟨b, off, ha, fun i x hx => (h4 i x hx).below hw (h4 i x hx).lt⟩
theorem Rd.len {w : World} {v : Value} {l : List Ed} (h : Rd w v l) : ∃ ao cap, v = .slice ao l.length cap ∧ l.length ≤ 9223372036854775807 := by
  obtain ⟨ao, cap, rfl, h1, h2, _⟩ := h
  exact ⟨ao, cap, rfl, by omega⟩
theorem Rd.wf {w : World} {v : Value} {l : List Ed} (h : Rd w v l) : ∀ x ∈ l, x.Wf := by obtain ⟨_, _, _, _, _, h, _⟩ := h; exact h
theorem Rd.at {w : World} {ao : Option Addr} {n cap : Nat} {l : List Ed} (h : Rd w (.slice ao n cap) l) {i : Nat} {x : Ed} (hx : l[i]? = some x) : ∃ b off, ao = some ⟨b, off, none⟩ ∧ At3 w b (off + i * 3) x := by
  obtain ⟨ao', cap', hv, _, _, _, h4⟩ := h
  simp at hv
  obtain ⟨rfl, rfl, rfl⟩ := hv
  rcases h4 with h4 | ⟨b, off, ha, h4⟩
  · subst h4; simp at hx
  · exact ⟨b, off, ha, h4 i x hx⟩
theorem Rd.nil (w : World) : Rd w (.slice none 0 0) [] := ⟨none, 0, rfl, by simp, by simp, by simp, .inl rfl⟩
theorem at_of {l : List Ed} {i : Nat} (h : i < l.length) : ∃ x, l[i]? = some x ∧ x ∈ l := ⟨l[i], List.getElem?_eq_getElem h, List.getElem_mem h⟩

/-- .. at a plain address, if it has one. -/
def Sl (w : World) (v : Value) (l : List Ed) : Prop := ∃ (ao : Option Addr) (cap : Nat), v = .slice ao l.length cap ∧ (ao = none ∧ l = [] ∨ ∃ b off, ao = some ⟨b, off, none⟩ ∧ ∀ i x, l[i]? = some x → At3 w b (off + i * 3) x) ∧ l.length ≤ cap ∧ cap ≤ 9223372036854775807 ∧ ∀ x ∈ l, x.Wf
theorem Sl.rd {w : World} {v : Value} {l : List Ed} (h : Sl w v l) : Rd w v l := by
  obtain ⟨ao, cap, rfl, h1, h2, h3, h4⟩ := h
  refine ⟨ao, cap, rfl, h2, h3, h4, ?_⟩
  rcases h1 with ⟨_, h1⟩ | h1
  · exact .inl h1
  · exact .inr h1
theorem Sl.below {w w' : World} {v : Value} {l : List Ed} (h : Sl w v l) (hw : Below w.heap.size w w') : Sl w' v l := by
  obtain ⟨ao, cap, rfl, h1, h2, h3, h4⟩ := h
  refine ⟨ao, cap, rfl, ?_, h2, h3, h4⟩
  rcases h1 with h1 | ⟨b, off, ha, h1⟩
  · exact .inl h1
  · exact .inr ⟨b, off, ha, fun i x hx => (h1 i x hx).below hw (h1 i x hx).lt⟩
theorem Sl.wf {w : World} {v : Value} {l : List Ed} (h : Sl w v l) : ∀ x ∈ l, x.Wf := h.rd.wf
theorem Sl.nil (w : World) : Sl w (.slice none 0 0) [] := ⟨none, 0, rfl, .inl ⟨rfl, rfl⟩, by simp, by simp, by simp⟩
theorem cells_of_at {w : World} {b off : Nat} {l : List Ed} (h : ∀ i x, l[i]? = some x → At3 w b (off + i * 3) x) : ∀ j u, (cellsL l)[j]? = some u → w.cell? ⟨b, off + j, none⟩ = some u := by
  intro j u hu
  have hj : j < l.length * 3 := by rw [← cellsL_length]; exact (List.getElem?_eq_some_iff.1 hu).1
  have hi : j / 3 < l.length := by omega
  obtain ⟨x, hx, _⟩ := at_of hi
  have h3 := h _ _ hx
  have hc := cellsL_at hx (j % 3) (Nat.mod_lt _ (by omega))
  rw [show j / 3 * 3 + j % 3 = j by omega, hu] at hc
  rcases (show j % 3 = 0 ∨ j % 3 = 1 ∨ j % 3 = 2 by omega) with h0 | h0 | h0
  · rw [h0] at hc
    obtain rfl := Option.some.inj hc
    have := h3.1
    rw [show off + j / 3 * 3 = off + j by omega] at this
    exact this
  · rw [h0] at hc
    obtain rfl := Option.some.inj hc
    have := h3.2.1
    rw [show off + j / 3 * 3 + 1 = off + j by omega] at this
    exact this
  · rw [h0] at hc
    obtain rfl := Option.some.inj hc
    have := h3.2.2
    rw [show off + j / 3 * 3 + 2 = off + j by omega] at this
    exact this
theorem cellsL_one (l : List Ed) : ∀ u ∈ cellsL l, u.oneCell' = true := by
  intro u hu
  unfold cellsL at hu
  obtain ⟨x, _, hx⟩ := List.mem_flatMap.1 hu
  simp [Ed.cells] at hx
  rcases hx with rfl | rfl | rfl <;> rfl

/-- Changes in memory of the call's own. -/
def Own (w : World) (base : Nat) (T : TypeId) (v : Value) (l : List Ed) : Prop := w.ownsRow base T 3 v l.length (cellsL l)
theorem Own.nil (w : World) (base : Nat) (T : TypeId) : Own w base T (.slice none 0 0) [] := World.ownsRow_nil _ _ _ _
theorem Own.form {w : World} {base : Nat} {T : TypeId} {v : Value} {l : List Ed} (h : Own w base T v l) : (l = [] ∧ v = .slice none 0 0) ∨ ∃ g cap, v = .slice (some ⟨g, 0, none⟩) l.length cap ∧ base ≤ g ∧ g < w.heap.size ∧ l.length ≤ cap ∧ cap ≤ 9223372036854775807 := by
  rcases h.2 with ⟨hv, hn⟩ | ⟨g, cap, cur, hv, hb, hg, hc, hm, _⟩
  · exact .inl ⟨List.length_eq_zero_iff.1 hn, hv⟩
  · exact .inr ⟨g, cap, hv, hb, (Array.getElem?_eq_some_iff.1 hg).1, hc, by unfold maxLen at hm; exact hm⟩
theorem Own.at {w : World} {base g n cap : Nat} {T : TypeId} {l : List Ed} (h : Own w base T (.slice (some ⟨g, 0, none⟩) n cap) l) {i : Nat} {x : Ed} (hx : l[i]? = some x) : At3 w g (i * 3) x := by
  have hc : ∀ c u, c < 3 → x.cells[c]? = some u → w.cell? ⟨g, i * 3 + c, none⟩ = some u := by
    intro c u hc hu
    have := World.ownsRow.cells h (g := g) rfl (i * 3 + c) u (by rw [cellsL_at hx c hc]; exact hu)
    rw [show ((⟨g, 0, none⟩ : Addr).add (i * 3 + c)) = ⟨g, i * 3 + c, none⟩ by unfold Addr.add; split <;> simp_all] at this
    exact this
  exact ⟨hc 0 _ (by omega) rfl, hc 1 _ (by omega) rfl, hc 2 _ (by omega) rfl⟩
theorem Own.free {w : World} {base g n cap : Nat} {T : TypeId} {l : List Ed} (h : Own w base T (.slice (some ⟨g, 0, none⟩) n cap) l) (o : Nat) : w.frozen? ⟨g, o, none⟩ = false := by
  rcases h.2 with ⟨hv, _⟩ | ⟨g', cap', cur, hv, _, hg, _⟩
  · simp at hv
  · simp at hv
    obtain ⟨rfl, _⟩ := hv
    simp [World.frozen?, hg]
theorem Own.rd {w : World} {base : Nat} {T : TypeId} {v : Value} {l : List Ed} (h : Own w base T v l) (hw : ∀ x ∈ l, x.Wf) : Rd w v l := by
  rcases h.form with ⟨rfl, rfl⟩ | ⟨g, cap, rfl, _, _, hc, hm⟩
  · exact Rd.nil w
  · exact ⟨some ⟨g, 0, none⟩, cap, rfl, hc, hm, hw, .inr ⟨g, 0, rfl, fun i x hx => by rw [Nat.zero_add]; exact h.at hx⟩⟩
theorem Own.sl {w : World} {base : Nat} {T : TypeId} {v : Value} {l : List Ed} (h : Own w base T v l) (hw : ∀ x ∈ l, x.Wf) : Sl w v l := by
  rcases h.form with ⟨rfl, rfl⟩ | ⟨g, cap, rfl, _, _, hc, hm⟩
  · exact Sl.nil w
  · exact ⟨some ⟨g, 0, none⟩, cap, rfl, .inr ⟨g, 0, rfl, fun i x hx => by rw [Nat.zero_add]; exact h.at hx⟩, hc, hm, hw⟩
theorem Own.below {w w' : World} {base : Nat} {T : TypeId} {v : Value} {l : List Ed} (h : Own w base T v l) (hw : Below w.heap.size w w') : Own w' base T v l := by
  refine ⟨h.1, ?_⟩
  rcases h.2 with h2 | ⟨g, cap, cur, rfl, hb, hg, rest⟩
  · exact .inl h2
  · exact .inr ⟨g, cap, cur, rfl, hb, (hw.block g (Array.getElem?_eq_some_iff.1 hg).1).trans hg, rest⟩
theorem Own.draw {w : World} {base : Nat} {T : TypeId} {v : Value} {l : List Ed} (h : Own w base T v l) (n : Nat) : Own (w.drewN n) base T v l := h
theorem Own.mono {w : World} {base base' : Nat} {T : TypeId} {v : Value} {l : List Ed} (h : Own w base T v l) (hb : base' ≤ base) : Own w base' T v l := by
  refine ⟨h.1, ?_⟩
  rcases h.2 with h2 | ⟨g, cap, cur, rfl, hg, rest⟩
  · exact .inl h2
  · exact .inr ⟨g, cap, cur, rfl, by omega, rest⟩

/-- A slice of whole numbers, as it reads. -/
def RdI (w : World) (v : Value) (l : List Int) : Prop := ∃ (ao : Option Addr) (cap : Nat), v = .slice ao l.length cap ∧ l.length ≤ cap ∧ cap ≤ 9223372036854775807 ∧ (∀ x ∈ l, -9223372036854775808 ≤ x ∧ x ≤ 9223372036854775807) ∧
  (l = [] ∨ ∃ b off, ao = some ⟨b, off, none⟩ ∧ ∀ (i : Nat) (x : Int), l[i]? = some x → w.cell? ⟨b, off + i, none⟩ = some (.int .i64 x))
theorem RdI.below {w w' : World} {v : Value} {l : List Int} (h : RdI w v l) (hw : Below w.heap.size w w') : RdI w' v l := by
  obtain ⟨ao, cap, rfl, h1, h2, h3, h4⟩ := h
  refine ⟨ao, cap, rfl, h1, h2, h3, ?_⟩
  rcases h4 with h4 | ⟨b, off, ha, h4⟩
  · exact .inl h4
  · exact .inr ⟨b, off, ha, fun i x hx => (hw.cell (p := ⟨b, off + i, none⟩) (Lib.lt_of_cell (h4 i x hx))).trans (h4 i x hx)⟩
theorem RdI.wf {w : World} {v : Value} {l : List Int} (h : RdI w v l) : ∀ x ∈ l, -9223372036854775808 ≤ x ∧ x ≤ 9223372036854775807 := by obtain ⟨_, _, _, _, _, h, _⟩ := h; exact h
theorem at_ofI {l : List Int} {i : Nat} (h : i < l.length) : ∃ x, l[i]? = some x ∧ x ∈ l := ⟨l[i], List.getElem?_eq_getElem h, List.getElem_mem h⟩
theorem RdI.take {w : World} {ao : Option Addr} {n cap : Nat} {l : List Int} (h : RdI w (.slice ao n cap) l) (k : Nat) (hk : k ≤ l.length) (cap' : Nat) (hc : k ≤ cap') (hc' : cap' ≤ 9223372036854775807) : RdI w (.slice ao k cap') (l.take k) := by
  obtain ⟨ao', cap2, hv, h1, h2, h3, h4⟩ := h
  simp only [Value.slice.injEq] at hv
  obtain ⟨rfl, rfl, rfl⟩ := hv
  refine ⟨ao, cap', by rw [List.length_take, Nat.min_eq_left hk], by rw [List.length_take]; omega, hc', fun x hx => h3 x (List.mem_of_mem_take hx), ?_⟩
  rcases h4 with h4 | ⟨b, off, ha, h4⟩
  · subst h4; simp
  · refine .inr ⟨b, off, ha, fun i x hx => ?_⟩
    have hi : i < k := by have := (List.getElem?_eq_some_iff.1 hx).1; rw [List.length_take] at this; omega
    rw [List.getElem?_take_of_lt hi] at hx
    exact h4 i x hx
theorem Rd.take {w : World} {ao : Option Addr} {n cap : Nat} {l : List Ed} (h : Rd w (.slice ao n cap) l) (k : Nat) (hk : k ≤ l.length) (cap' : Nat) (hc : k ≤ cap') (hc' : cap' ≤ 9223372036854775807) : Rd w (.slice ao k cap') (l.take k) := by
  obtain ⟨ao', cap2, hv, h1, h2, h3, h4⟩ := h
  simp only [Value.slice.injEq] at hv
  obtain ⟨rfl, rfl, rfl⟩ := hv
  refine ⟨ao, cap', by rw [List.length_take, Nat.min_eq_left hk], by rw [List.length_take]; omega, hc', fun x hx => h3 x (List.mem_of_mem_take hx), ?_⟩
  rcases h4 with h4 | ⟨b, off, ha, h4⟩
  · subst h4; simp
  · refine .inr ⟨b, off, ha, fun i x hx => ?_⟩
    have hi : i < k := by have := (List.getElem?_eq_some_iff.1 hx).1; rw [List.length_take] at this; omega
    rw [List.getElem?_take_of_lt hi] at hx
    exact h4 i x hx

/-! ### rows of numbers, one behind the other -/
/-- n rows of n numbers each, at rows' blocks r. -/
structure MatF (w : World) (base g : Nat) (r : Nat → Nat) (n : Nat) (M : Nat → Nat → Int) : Prop where
  top : w.rowIs g 127 n (fun i => .slice (some ⟨r i, 0, none⟩) n n)
  row : ∀ i, i < n → w.rowIs (r i) 22 n (fun j => .int .u64 (M i j))
  inj : ∀ i i', i < n → i' < n → r i = r i' → i = i'
  far : ∀ i, i < n → r i ≠ g
  lo : base ≤ g
  los : ∀ i, i < n → base ≤ r i
theorem MatF.below {w w' : World} {base g : Nat} {r : Nat → Nat} {n : Nat} {M : Nat → Nat → Int} (h : MatF w base g r n M) (hw : Below w.heap.size w w') : MatF w' base g r n M :=
  ⟨h.top.of_block (hw.block _ h.top.lt), fun i hi => (h.row i hi).of_block (hw.block _ (h.row i hi).lt), h.inj, h.far, h.lo, h.los⟩
theorem MatF.base {w : World} {base base' g : Nat} {r : Nat → Nat} {n : Nat} {M : Nat → Nat → Int} (h : MatF w base g r n M) (hb : base' ≤ base) : MatF w base' g r n M :=
  ⟨h.top, h.row, h.inj, h.far, Nat.le_trans hb h.lo, fun i hi => Nat.le_trans hb (h.los i hi)⟩
def upd (M : Nat → Nat → Int) (a b : Nat) (v : Int) : Nat → Nat → Int := fun i j => if i = a ∧ j = b then v else M i j
theorem MatF.set {w : World} {base g : Nat} {r : Nat → Nat} {n : Nat} {M : Nat → Nat → Int} (h : MatF w base g r n M) {a b : Nat} (ha : a < n) (hb : b < n) (v : Int) : MatF (w.setCell ⟨r a, b, none⟩ (.int .u64 v)) base g r n (upd M a b v) := by
  refine ⟨h.top.setOther (Ne.symm (h.far a ha)) _, fun i hi => ?_, h.inj, h.far, h.lo, h.los⟩
  by_cases e : i = a
  · subst e
    refine ((h.row i hi).set b (.int .u64 v)).congr fun j hj => ?_
    unfold upd
    by_cases ej : j = b
    · rw [if_pos ej, if_pos ⟨rfl, ej⟩]
    · rw [if_neg ej, if_neg (fun h => ej h.2)]
  · refine ((h.row i hi).setOther (fun er => e (h.inj i a hi ha er)) _).congr fun j hj => ?_
    unfold upd
    rw [if_neg (fun h => e h.1)]
theorem MatF.eq {w : World} {base g : Nat} {r : Nat → Nat} {n : Nat} {M M' : Nat → Nat → Int} (h : MatF w base g r n M) (e : ∀ i j, i < n → j < n → M i j = M' i j) : MatF w base g r n M' :=
  ⟨h.top, fun i hi => (h.row i hi).congr fun j hj => by rw [e i j hi hj], h.inj, h.far, h.lo, h.los⟩
/-- .. that the call made. -/
def Mat (w : World) (base : Nat) (v : Value) (n : Nat) (M : Nat → Nat → Int) : Prop := ∃ g r, v = .slice (some ⟨g, 0, none⟩) n n ∧ MatF w base g r n M
theorem Mat.below {w w' : World} {base : Nat} {v : Value} {n : Nat} {M : Nat → Nat → Int} (h : Mat w base v n M) (hw : Below w.heap.size w w') : Mat w' base v n M := by
  obtain ⟨g, r, e, h⟩ := h
  exact ⟨g, r, e, h.below hw⟩
theorem Mat.base {w : World} {base base' : Nat} {v : Value} {n : Nat} {M : Nat → Nat → Int} (h : Mat w base v n M) (hb : base' ≤ base) : Mat w base' v n M := by
  obtain ⟨g, r, e, h⟩ := h
  exact ⟨g, r, e, h.base hb⟩
theorem infoRow : (Tryz.prog.info? 127).map (fun i => (i.zero, i.size, i.bytes)) = some (some (.slice none 0 0), 1, 24) := by kernel_rfl
theorem infoU : (Tryz.prog.info? 22).map (fun i => (i.zero, i.size, i.bytes)) = some (some (.int .u64 0), 1, 8) := by kernel_rfl
end Go.Proofs.YtdbaacalfbbdiaaGreatDoor.Gr
