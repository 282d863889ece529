/-
  PACKAGE batch, MEMORY: a slice of Changes as it reads (Rd); one that the call made itself (Own): three cells each.
  append onto memory of the call's own, the source nil, empty or not, its slice type of another name.
  PACKAGE claim: a Table of places for handles.
-/
import Derived.Test.YtdllgeanmlmmfaaGreatDoorBatchMath
import Derived.Laws.AppendOwn
import Derived.Deep.AppendLies
import Derived.Below
import Derived.OneCell
import Derived.Lib.Walk
import Derived.Lib.Hide
import Derived.Lib.AtoiErrMem
import Derived.Deep.Draws
import Derived.Maps.AppendAt
import Derived.RegionTactic
import Derived.OwnWalk
import Derived.Test.YtdllgeanmlmmfaaGreatDoorJoined1
import Derived.Test.YtdllgeanmlmmfaaGreatDoorShelf
import Derived.Shelf.SlicesE.Clone
import Derived.WalkKit
import Derived.WalkLawsBesides
import Derived.WalkSpells
import Derived.WalkSmall
import Derived.StillTactics
import Derived.StillTailTactics
import Derived.Outline
namespace Go.Proofs.YtdllgeanmlmmfaaGreatDoor.Batch
open Go.RowKit
set_option linter.unusedVariables false

def cellsL (l : List Ch) : List Value := l.flatMap Ch.cells
theorem cellsL_length (l : List Ch) : (cellsL l).length = l.length * 3 := by
  induction l with
  | nil => rfl
  | cons x r ih => unfold cellsL at *; rw [List.flatMap_cons, List.length_append, ih, List.length_cons]; simp [Ch.cells]; omega
theorem cellsL_append (a b : List Ch) : cellsL (a ++ b) = cellsL a ++ cellsL b := by unfold cellsL; simp
theorem cellsL_snoc (l : List Ch) (x : Ch) : cellsL (l ++ [x]) = cellsL l ++ [.int .i64 x.p, .int .u64 x.t, .int .i64 x.d] := by rw [cellsL_append]; rfl
theorem cellsL_at {l : List Ch} {i : Nat} {x : Ch} (h : l[i]? = some x) : ∀ c, c < 3 → (cellsL l)[i * 3 + c]? = x.cells[c]? := by
  induction l generalizing i with
  | nil => simp at h
  | cons y r ih =>
    intro c hc
    have e : cellsL (y :: r) = y.cells ++ cellsL r := rfl
    have hl : y.cells.length = 3 := rfl
    rw [e]
    cases i with
    | zero =>
      simp at h
      subst h
      rw [List.getElem?_append_left (by rw [hl]; omega), Nat.zero_mul, Nat.zero_add]
    | succ k =>
      rw [List.getElem?_append_right (by rw [hl]; omega), hl, show (k + 1) * 3 + c - 3 = k * 3 + c by omega]
      exact ih (by simpa using h) c hc

/-- Three cells that hold a Change. -/
def At3 (w : World) (b o : Nat) (x : Ch) : Prop := w.cell? ⟨b, o, none⟩ = some (.int .i64 x.p) ∧ w.cell? ⟨b, o + 1, none⟩ = some (.int .u64 x.t) ∧ w.cell? ⟨b, o + 2, none⟩ = some (.int .i64 x.d)
theorem At3.lt {w : World} {b o : Nat} {x : Ch} (h : At3 w b o x) : b < w.heap.size := Lib.lt_of_cell h.1
theorem At3.below {w w' : World} {B b o : Nat} {x : Ch} (h : At3 w b o x) (hw : Below B w w') (hb : b < B) : At3 w' b o x :=
  ⟨(hw.cell (p := ⟨b, o, none⟩) hb).trans h.1, (hw.cell (p := ⟨b, o + 1, none⟩) hb).trans h.2.1, (hw.cell (p := ⟨b, o + 2, none⟩) hb).trans h.2.2⟩

/-- A slice of Changes, as it reads. -/
def Rd (w : World) (v : Value) (l : List Ch) : Prop := ∃ (ao : Option Addr) (cap : Nat), v = .slice ao l.length cap ∧ l.length ≤ cap ∧ cap ≤ 9223372036854775807 ∧ (∀ x ∈ l, x.Wf) ∧
  (l = [] ∨ ∃ b off, ao = some ⟨b, off, none⟩ ∧ ∀ i x, l[i]? = some x → At3 w b (off + i * 3) x)
theorem Rd.below {w w' : World} {v : Value} {l : List Ch} (h : Rd w v l) (hw : Below w.heap.size w w') : Rd w' v l := by
  obtain ⟨ao, cap, rfl, h1, h2, h3, h4⟩ := h
  refine ⟨ao, cap, rfl, h1, h2, h3, ?_⟩
  rcases h4 with h4 | ⟨b, off, ha, h4⟩
  · exact .inl h4
  · exact .inr ⟨b, off, ha, fun i x hx => (h4 i x hx).below hw (h4 i x hx).lt⟩
theorem Rd.len {w : World} {v : Value} {l : List Ch} (h : Rd w v l) : ∃ ao cap, v = .slice ao l.length cap ∧ l.length ≤ 9223372036854775807 := by
  obtain ⟨ao, cap, rfl, h1, h2, _⟩ := h
  exact ⟨ao, cap, rfl, by omega⟩
theorem Rd.wf {w : World} {v : Value} {l : List Ch} (h : Rd w v l) : ∀ x ∈ l, x.Wf := by obtain ⟨_, _, _, _, _, h, _⟩ := h; exact h
theorem Rd.at {w : World} {ao : Option Addr} {n cap : Nat} {l : List Ch} (h : Rd w (.slice ao n cap) l) {i : Nat} {x : Ch} (hx : l[i]? = some x) : ∃ b off, ao = some ⟨b, off, none⟩ ∧ At3 w b (off + i * 3) x := by
  obtain ⟨ao', cap', hv, _, _, _, h4⟩ := h
  simp at hv
  obtain ⟨rfl, rfl, rfl⟩ := hv
  rcases h4 with h4 | ⟨b, off, ha, h4⟩
  · subst h4; simp at hx
  · exact ⟨b, off, ha, h4 i x hx⟩
theorem Rd.nil (w : World) : Rd w (.slice none 0 0) [] := ⟨none, 0, rfl, by simp, by simp, by simp, .inl rfl⟩
theorem at_of {l : List Ch} {i : Nat} (h : i < l.length) : ∃ x, l[i]? = some x ∧ x ∈ l := ⟨l[i], List.getElem?_eq_getElem h, List.getElem_mem h⟩

/-- .. at a plain address, if it has one. -/
def Sl (w : World) (v : Value) (l : List Ch) : Prop := ∃ (ao : Option Addr) (cap : Nat), v = .slice ao l.length cap ∧ (ao = none ∧ l = [] ∨ ∃ b off, ao = some ⟨b, off, none⟩ ∧ ∀ i x, l[i]? = some x → At3 w b (off + i * 3) x) ∧ l.length ≤ cap ∧ cap ≤ 9223372036854775807 ∧ ∀ x ∈ l, x.Wf
theorem Sl.rd {w : World} {v : Value} {l : List Ch} (h : Sl w v l) : Rd w v l := by
  obtain ⟨ao, cap, rfl, h1, h2, h3, h4⟩ := h
  refine ⟨ao, cap, rfl, h2, h3, h4, ?_⟩
  rcases h1 with ⟨_, h1⟩ | h1
  · exact .inl h1
  · exact .inr h1
theorem Sl.below {w w' : World} {v : Value} {l : List Ch} (h : Sl w v l) (hw : Below w.heap.size w w') : Sl w' v l := by
  obtain ⟨ao, cap, rfl, h1, h2, h3, h4⟩ := h
  refine ⟨ao, cap, rfl, ?_, h2, h3, h4⟩
  rcases h1 with h1 | ⟨b, off, ha, h1⟩
  · exact .inl h1
  · exact .inr ⟨b, off, ha, fun i x hx => (h1 i x hx).below hw (h1 i x hx).lt⟩
theorem Sl.wf {w : World} {v : Value} {l : List Ch} (h : Sl w v l) : ∀ x ∈ l, x.Wf := h.rd.wf
theorem Sl.nil (w : World) : Sl w (.slice none 0 0) [] := ⟨none, 0, rfl, .inl ⟨rfl, rfl⟩, by simp, by simp, by simp⟩
theorem cells_of_at {w : World} {b off : Nat} {l : List Ch} (h : ∀ i x, l[i]? = some x → At3 w b (off + i * 3) x) : ∀ j u, (cellsL l)[j]? = some u → w.cell? ⟨b, off + j, none⟩ = some u := by
  intro j u hu
  have hj : j < l.length * 3 := by rw [← cellsL_length]; exact (List.getElem?_eq_some_iff.1 hu).1
  have hi : j / 3 < l.length := by omega
  obtain ⟨x, hx, _⟩ := at_of hi
  have h3 := h _ _ hx
  have hc := cellsL_at hx (j % 3) (Nat.mod_lt _ (by omega))
  rw [show j / 3 * 3 + j % 3 = j by omega, hu] at hc
  rcases (show j % 3 = 0 ∨ j % 3 = 1 ∨ j % 3 = 2 by omega) with h0 | h0 | h0
  · rw [h0] at hc
    obtain rfl := Option.some.inj hc
    have := h3.1
    rw [show off + j / 3 * 3 = off + j by omega] at this
    exact this
  · rw [h0] at hc
    obtain rfl := Option.some.inj hc
    have := h3.2.1
    rw [show off + j / 3 * 3 + 1 = off + j by omega] at this
    exact this
  · rw [h0] at hc
    obtain rfl := Option.some.inj hc
    have := h3.2.2
    rw [show off + j / 3 * 3 + 2 = off + j by omega] at this
    exact this
theorem cellsL_one (l : List Ch) : ∀ u ∈ cellsL l, u.oneCell' = true := by
  intro u hu
  unfold cellsL at hu
  obtain ⟨x, _, hx⟩ := List.mem_flatMap.1 hu
  simp [Ch.cells] at hx
  rcases hx with rfl | rfl | rfl <;> rfl

/-- Changes in memory of the call's own. -/
def Own (w : World) (base : Nat) (T : TypeId) (v : Value) (l : List Ch) : Prop := w.ownsRow base T 3 v l.length (cellsL l)
theorem Own.nil (w : World) (base : Nat) (T : TypeId) : Own w base T (.slice none 0 0) [] := World.ownsRow_nil _ _ _ _
theorem Own.form {w : World} {base : Nat} {T : TypeId} {v : Value} {l : List Ch} (h : Own w base T v l) : (l = [] ∧ v = .slice none 0 0) ∨ ∃ g cap, v = .slice (some ⟨g, 0, none⟩) l.length cap ∧ base ≤ g ∧ g < w.heap.size ∧ l.length ≤ cap ∧ cap ≤ 9223372036854775807 := by
  rcases h.2 with ⟨hv, hn⟩ | ⟨g, cap, cur, hv, hb, hg, hc, hm, _⟩
  · exact .inl ⟨List.length_eq_zero_iff.1 hn, hv⟩
  · exact .inr ⟨g, cap, hv, hb, (Array.getElem?_eq_some_iff.1 hg).1, hc, by unfold maxLen at hm; exact hm⟩
theorem Own.at {w : World} {base g n cap : Nat} {T : TypeId} {l : List Ch} (h : Own w base T (.slice (some ⟨g, 0, none⟩) n cap) l) {i : Nat} {x : Ch} (hx : l[i]? = some x) : At3 w g (i * 3) x := by
  have hc : ∀ c u, c < 3 → x.cells[c]? = some u → w.cell? ⟨g, i * 3 + c, none⟩ = some u := by
    intro c u hc hu
    have := World.ownsRow.cells h (g := g) rfl (i * 3 + c) u (by rw [cellsL_at hx c hc]; exact hu)
    rw [show ((⟨g, 0, none⟩ : Addr).add (i * 3 + c)) = ⟨g, i * 3 + c, none⟩ by unfold Addr.add; split <;> simp_all] at this
    exact this
  exact ⟨hc 0 _ (by omega) rfl, hc 1 _ (by omega) rfl, hc 2 _ (by omega) rfl⟩
theorem Own.free {w : World} {base g n cap : Nat} {T : TypeId} {l : List Ch} (h : Own w base T (.slice (some ⟨g, 0, none⟩) n cap) l) (o : Nat) : w.frozen? ⟨g, o, none⟩ = false := by
  rcases h.2 with ⟨hv, _⟩ | ⟨g', cap', cur, hv, _, hg, _⟩
  · simp at hv
  · simp at hv
    obtain ⟨rfl, _⟩ := hv
    simp [World.frozen?, hg]
theorem Own.rd {w : World} {base : Nat} {T : TypeId} {v : Value} {l : List Ch} (h : Own w base T v l) (hw : ∀ x ∈ l, x.Wf) : Rd w v l := by
  rcases h.form with ⟨rfl, rfl⟩ | ⟨g, cap, rfl, _, _, hc, hm⟩
  · exact Rd.nil w
  · exact ⟨some ⟨g, 0, none⟩, cap, rfl, hc, hm, hw, .inr ⟨g, 0, rfl, fun i x hx => by rw [Nat.zero_add]; exact h.at hx⟩⟩
theorem Own.sl {w : World} {base : Nat} {T : TypeId} {v : Value} {l : List Ch} (h : Own w base T v l) (hw : ∀ x ∈ l, x.Wf) : Sl w v l := by
  rcases h.form with ⟨rfl, rfl⟩ | ⟨g, cap, rfl, _, _, hc, hm⟩
  · exact Sl.nil w
  · exact ⟨some ⟨g, 0, none⟩, cap, rfl, .inr ⟨g, 0, rfl, fun i x hx => by rw [Nat.zero_add]; exact h.at hx⟩, hc, hm, hw⟩
theorem Own.below {w w' : World} {base : Nat} {T : TypeId} {v : Value} {l : List Ch} (h : Own w base T v l) (hw : Below w.heap.size w w') : Own w' base T v l := by
  refine ⟨h.1, ?_⟩
  rcases h.2 with h2 | ⟨g, cap, cur, rfl, hb, hg, rest⟩
  · exact .inl h2
  · exact .inr ⟨g, cap, cur, rfl, hb, (hw.block g (Array.getElem?_eq_some_iff.1 hg).1).trans hg, rest⟩
theorem Own.draw {w : World} {base : Nat} {T : TypeId} {v : Value} {l : List Ch} (h : Own w base T v l) (n : Nat) : Own (w.drewN n) base T v l := h
theorem Own.mono {w : World} {base base' : Nat} {T : TypeId} {v : Value} {l : List Ch} (h : Own w base T v l) (hb : base' ≤ base) : Own w base' T v l := by
  refine ⟨h.1, ?_⟩
  rcases h.2 with h2 | ⟨g, cap, cur, rfl, hg, rest⟩
  · exact .inl h2
  · exact .inr ⟨g, cap, cur, rfl, by omega, rest⟩
theorem cellsL_set {l : List Ch} {i : Nat} {x y : Ch} (h : l[i]? = some x) : cellsL (l.set i y) = (((cellsL l).set (i * 3) (.int .i64 y.p)).set (i * 3 + 1) (.int .u64 y.t)).set (i * 3 + 2) (.int .i64 y.d) := by
  induction l generalizing i with
  | nil => simp at h
  | cons z r ih =>
    cases i with
    | zero => rfl
    | succ k =>
      have e : ∀ q, cellsL (z :: q) = .int .i64 z.p :: .int .u64 z.t :: .int .i64 z.d :: cellsL q := fun _ => rfl
      rw [List.set_cons_succ, e, e, ih (by simpa using h), show (k + 1) * 3 = k * 3 + 1 + 1 + 1 by omega]
      rfl
theorem cellsL_setD {l : List Ch} {i : Nat} {x : Ch} (d : Int) (h : l[i]? = some x) : cellsL (l.set i ⟨x.p, x.t, d⟩) = (cellsL l).set (i * 3 + 2) (.int .i64 d) := by
  rw [cellsL_set h]
  have h0 := cellsL_at h 0 (by omega)
  have h1 := cellsL_at h 1 (by omega)
  simp only [Ch.cells, Nat.add_zero] at h0 h1
  have s0 : (cellsL l).set (i * 3) (.int .i64 x.p) = cellsL l := by
    obtain ⟨hl, he⟩ := List.getElem?_eq_some_iff.1 (show (cellsL l)[i * 3]? = some (.int .i64 x.p) from h0)
    rw [← he, List.set_getElem_self]
  have s1 : (cellsL l).set (i * 3 + 1) (.int .u64 x.t) = cellsL l := by
    obtain ⟨hl, he⟩ := List.getElem?_eq_some_iff.1 (show (cellsL l)[i * 3 + 1]? = some (.int .u64 x.t) from h1)
    rw [← he, List.set_getElem_self]
  simp only [s0, s1]
theorem own_set {w : World} {base g n cap m : Nat} {T : TypeId} {size : Nat} {xs : List Value} (h : w.ownsRow base T size (.slice (some ⟨g, 0, none⟩) m cap) n xs) {j : Nat} (hj : j < n * size) (u : Value) :
    (w.setCell ⟨g, j, none⟩ u).ownsRow base T size (.slice (some ⟨g, 0, none⟩) m cap) n (xs.set j u) := by
  refine ⟨by rw [List.length_set]; exact h.1, ?_⟩
  rcases h.2 with ⟨hv, _⟩ | ⟨g', cap', cur, hv, hb, hg, hn, hc, hs, ht⟩
  · simp at hv
  · simp at hv
    obtain ⟨rfl, rfl, rfl⟩ := hv
    refine .inr ⟨g, cap, cur.setIfInBounds j u, rfl, hb, heap_setCell_same w g j cur T u hg, hn, hc, by simp [hs], ?_⟩
    rw [Array.toList_setIfInBounds, List.take_set, ht]
theorem Own.setD {w : World} {base g n cap : Nat} {T : TypeId} {l : List Ch} (h : Own w base T (.slice (some ⟨g, 0, none⟩) n cap) l) {i : Nat} {x : Ch} (hx : l[i]? = some x) (d : Int) :
    Own (w.setCell ⟨g, i * 3 + 2, none⟩ (.int .i64 d)) base T (.slice (some ⟨g, 0, none⟩) n cap) (l.set i ⟨x.p, x.t, d⟩) := by
  have hl : i < l.length := (List.getElem?_eq_some_iff.1 hx).1
  unfold Own
  rw [cellsL_setD d hx, List.length_set]
  exact own_set h (by omega) _
theorem Own.put {w : World} {base g n cap : Nat} {T : TypeId} {l : List Ch} (h : Own w base T (.slice (some ⟨g, 0, none⟩) n cap) l) {i : Nat} {x : Ch} (hx : l[i]? = some x) (y : Ch) :
    Own (((w.setCell ⟨g, i * 3, none⟩ (.int .i64 y.p)).setCell ⟨g, i * 3 + 1, none⟩ (.int .u64 y.t)).setCell ⟨g, i * 3 + 2, none⟩ (.int .i64 y.d)) base T (.slice (some ⟨g, 0, none⟩) n cap) (l.set i y) := by
  have hl : i < l.length := (List.getElem?_eq_some_iff.1 hx).1
  unfold Own
  rw [cellsL_set hx, List.length_set]
  exact own_set (own_set (own_set h (by omega) _) (by omega) _) (by omega) _
theorem setD_list {l : List Ch} {i : Nat} {x : Ch} {d : Int} : (l.set i ⟨x.p, x.t, d⟩).length = l.length := by simp
end Go.Proofs.YtdllgeanmlmmfaaGreatDoor.Batch
namespace Go.Proofs.YtdllgeanmlmmfaaGreatDoor.Batch
open Go.RowKit
set_option linter.unusedVariables false

section
variable {P : Program} (w : World)
theorem run_append_types (t t2 ty e e2 : TypeId) (ht : P.underlying t = some (.slice e)) (ht2 : P.underlying t2 = some (.slice e2)) (A B : Option Addr) (n m c d : Nat) :
    (Builtin.append_ #[t, t2] ty #[.slice A n c, .slice B m d]).run P w = (Builtin.append_ #[t, t] ty #[.slice A n c, .slice B m d]).run P w := by
  simp [Builtin.append_, run_underlying ht, run_underlying ht2]
theorem run_append_of_nil (base : Nat) (t ty e : TypeId) (i : TypeInfo) (size : Nat) (ht : P.underlying t = some (.slice e)) (hi : P.info? e = some i)
    (v : Value) (n : Nat) (xs : List Value) (hown : w.ownsRow base e size v n xs) (c : Nat) : (Builtin.append_ #[t, t] ty #[v, .slice none 0 c]).run P w = .ok v w := by
  rcases hown.2 with ⟨rfl, rfl⟩ | ⟨g, cap, cur, rfl, _, _, hnc, _⟩
  · simp [Builtin.append_, run_underlying ht, sizeOf, typeInfo, hi, Builtin.lenOf, Builtin.firstCells]
  · simp [Builtin.append_, run_underlying ht, sizeOf, typeInfo, hi, Builtin.lenOf, Builtin.firstCells, hnc, storeCells]
/-- The source of an append: nothing, or cells that lie at an address. -/
def Src (w : World) (A : Option Addr) (m : Nat) (news : List Value) : Prop := (A = none ∧ m = 0 ∧ news = []) ∨ ∃ ad, A = some ad ∧ ∀ j u, news[j]? = some u → w.cell? (ad.add j) = some u
theorem run_append_any (base : Nat) (t t2 ty e e2 : TypeId) (i : TypeInfo) (z : Value) (size bytes : Nat) (ht : P.underlying t = some (.slice e)) (ht2 : P.underlying t2 = some (.slice e2)) (hi : P.info? e = some i) (hz : i.zero = some z)
    (hsize : i.size = size) (hby : i.bytes = bytes) (hzs : z.cells.size = size) (hsz : 0 < size)
    (v : Value) (n : Nat) (xs : List Value) (hown : w.ownsRow base e size v n xs)
    (A : Option Addr) (m c : Nat) (news : List Value) (hl : news.length = m * size) (hr : Src w A m news) (h1 : ∀ u ∈ news, u.oneCell' = true)
    (h63 : n + m ≤ maxLen) (hbytes : (n + m) * bytes ≤ 140737488355328) (hbase : base ≤ w.heap.size) :
    ∃ v' w', (Builtin.append_ #[t, t2] ty #[v, .slice A m c]).run P w = .ok v' w' ∧ w'.ownsRow base e size v' (n + m) (xs ++ news) ∧ w.grownBy w' v.ownBlock ∧
      (v'.ownBlock = v.ownBlock ∨ v'.ownBlock = some w.heap.size) := by
  have hform : ∃ vo vc, v = .slice vo n vc := by
    rcases hown.2 with ⟨hv, h0⟩ | ⟨g, cap, cur, hv, _⟩
    · exact ⟨none, 0, by rw [hv, h0]⟩
    · exact ⟨_, _, hv⟩
  obtain ⟨vo, vc, hvf⟩ := hform
  rw [show (#[v, .slice A m c] : Array Value) = #[.slice vo n vc, .slice A m c] by rw [hvf], run_append_types w t t2 ty e e2 ht ht2, ← hvf]
  rcases hr with ⟨rfl, rfl, rfl⟩ | ⟨ad, rfl, hc⟩
  · exact ⟨_, w, run_append_of_nil w base t ty e i size ht hi _ n xs hown c, by simpa using hown, World.grownBy.refl w _, .inl rfl⟩
  · obtain ⟨v', w', hrun, h2, h3, _, h5⟩ := run_append_own_at (P := P) w base t ty e i z size bytes ht hi hz hsize hby hzs hsz _ n xs hown ad m c news hl hc h1 h63 hbytes hbase
    exact ⟨v', w', hrun, h2, h3, h5⟩
theorem wp_append_any {o : Oper} {a : Act} {K : Act → World → Prop} {Q : Exit → Act → World → Prop} (s x : Operand) (t t2 : TypeId)
    (ho : o.op = .call { callee := .builtin .append, args := #[s, x], argTypes := #[t, t2] })
    (base : Nat) (e e2 : TypeId) (i : TypeInfo) (z : Value) (size bytes : Nat) (ht : P.underlying t = some (.slice e)) (ht2 : P.underlying t2 = some (.slice e2)) (hi : P.info? e = some i) (hz : i.zero = some z)
    (hsize : i.size = size) (hby : i.bytes = bytes) (hzs : z.cells.size = size) (hsz : 0 < size)
    (v : Value) (n : Nat) (xs : List Value) (hs : a.eval s = v) (hown : w.ownsRow base e size v n xs)
    (A : Option Addr) (m c : Nat) (news : List Value) (hx : a.eval x = .slice A m c) (hl : news.length = m * size) (hr : Src w A m news) (h1 : ∀ u ∈ news, u.oneCell' = true)
    (h63 : n + m ≤ maxLen) (hbytes : (n + m) * bytes ≤ 140737488355328) (hbase : base ≤ w.heap.size)
    (h : ∀ v' w', w'.ownsRow base e size v' (n + m) (xs ++ news) → w.grownBy w' v.ownBlock → (v'.ownBlock = v.ownBlock ∨ v'.ownBlock = some w.heap.size) → K (a.put o.dst v') w') : o.wp P a w K Q := by
  obtain ⟨v', w', hrun, h2, h3, h4⟩ := run_append_any (P := P) w base t t2 o.type e e2 i z size bytes ht ht2 hi hz hsize hby hzs hsz v n xs hown A m c news hl hr h1 h63 hbytes hbase
  unfold Oper.wp execOp
  simp only [ho, resolve, invoke, builtin, Sem.run_bind, Sem.run_pure, Result.andThen_ok, List.map_toArray, List.map_cons, List.map_nil, hs, hx, hrun]
  exact h v' w' h2 h3 h4
theorem wpList_append_any {ops : Array Oper} {rest : List Oper} {o : Oper} {a : Act} {Q : Exit → Act → World → Prop} (hgd : o.guard = none) (s x : Operand) (t t2 : TypeId)
    (ho : o.op = .call { callee := .builtin .append, args := #[s, x], argTypes := #[t, t2] })
    (base : Nat) (e e2 : TypeId) (i : TypeInfo) (z : Value) (size bytes : Nat) (ht : P.underlying t = some (.slice e)) (ht2 : P.underlying t2 = some (.slice e2)) (hi : P.info? e = some i) (hz : i.zero = some z)
    (hsize : i.size = size) (hby : i.bytes = bytes) (hzs : z.cells.size = size) (hsz : 0 < size)
    (v : Value) (n : Nat) (xs : List Value) (hs : a.eval s = v) (hown : w.ownsRow base e size v n xs)
    (A : Option Addr) (m c : Nat) (news : List Value) (hx : a.eval x = .slice A m c) (hl : news.length = m * size) (hr : Src w A m news) (h1 : ∀ u ∈ news, u.oneCell' = true)
    (h63 : n + m ≤ maxLen) (hbytes : (n + m) * bytes ≤ 140737488355328) (hbase : base ≤ w.heap.size)
    (h : ∀ v' w', w'.ownsRow base e size v' (n + m) (xs ++ news) → w.grownBy w' v.ownBlock → (v'.ownBlock = v.ownBlock ∨ v'.ownBlock = some w.heap.size) → wpList P ops Q rest (a.put o.dst v') w') : wpList P ops Q (o :: rest) a w :=
  wpList_plain hgd fun _ hK => wp_append_any w s x t t2 ho base e e2 i z size bytes ht ht2 hi hz hsize hby hzs hsz v n xs hs hown A m c news hx hl hr h1 h63 hbytes hbase fun v' w' h2 h3 h4 => hK _ _ (h v' w' h2 h3 h4)
end
theorem Sl.src {w : World} {ao : Option Addr} {n cap : Nat} {l : List Ch} (h : Sl w (.slice ao n cap) l) : n = l.length ∧ Src w ao l.length (cellsL l) := by
  obtain ⟨ao', cap', hv, h1, _⟩ := h
  simp at hv
  obtain ⟨rfl, rfl, rfl⟩ := hv
  refine ⟨rfl, ?_⟩
  rcases h1 with ⟨rfl, rfl⟩ | ⟨b, off, rfl, h1⟩
  · exact .inl ⟨rfl, rfl, rfl⟩
  · refine .inr ⟨_, rfl, fun j u hu => ?_⟩
    rw [show ((⟨b, off, none⟩ : Addr).add j) = ⟨b, off + j, none⟩ by unfold Addr.add; split <;> simp_all]
    exact cells_of_at h1 j u hu
end Go.Proofs.YtdllgeanmlmmfaaGreatDoor.Batch
namespace Go.Proofs.YtdllgeanmlmmfaaGreatDoor.Tb
open Go.RowKit Rw Go.Shelf Go.Lib
set_option linter.unusedVariables false

/-- A place: its Gen, is it taken. -/
def slK : Kd (Int × Bool) where
  k := 2
  cells x := [.int .i64 x.1, .bool x.2]
  wf x := -9223372036854775808 ≤ x.1 ∧ x.1 ≤ 9223372036854775807
  len _ := rfl
  one x u hu := by simp at hu; rcases hu with rfl | rfl <;> rfl
theorem slK_k : slK.k = 2 := rfl
theorem at2 {w : World} {b o : Nat} {g : Int} {u : Bool} (h : AtK slK w b o (g, u)) : w.cell? ⟨b, o, none⟩ = some (.int .i64 g) ∧ w.cell? ⟨b, o + 1, none⟩ = some (.bool u) :=
  ⟨h 0 _ (by decide) rfl, h 1 _ (by decide) rfl⟩
theorem infoSl : (Tryz.prog.info? 173).map (fun i => (i.zero, i.size, i.bytes)) = some (some (.agg #[.int .i64 0, .bool false]), 2, 16) := by kernel_rfl
theorem info_parts {P : Program} {t : TypeId} {z : Value} {size bytes : Nat} (h : (P.info? t).map (fun i => (i.zero, i.size, i.bytes)) = some (some z, size, bytes)) : ∃ i, P.info? t = some i ∧ i.zero = some z ∧ i.size = size ∧ i.bytes = bytes := by
  obtain ⟨i, hi, hz⟩ := Option.map_eq_some_iff.1 h
  simp only [Prod.mk.injEq] at hz
  exact ⟨i, hi, hz⟩
theorem cloneT_any {w : World} {v : Value} {l : List (Int × Bool)} (h : Sl slK w v l) (hl : l.length ≤ 100000) :
    Calls Tryz.prog 92 #[v] w fun e w' => ∃ v', e = .returned v' ∧ Own slK w' w.heap.size 173 v' l ∧ Below w.heap.size w w' := by
  have hh := h
  obtain ⟨ao, cap, rfl, h1, _⟩ := h
  obtain ⟨i0, hi, hz0, hz1, hz2⟩ := info_parts infoSl
  rcases h1 with ⟨rfl, rfl⟩ | ⟨b, off, _, rfl, h1⟩
  · exact (AnyE.slices_Clone_nil Tryz.cloneT 0 cap w).mono fun e w' ⟨he, hw⟩ => ⟨_, he, by rw [hw]; exact Own.nil _ _ _, by rw [hw]; exact Below.refl _ _⟩
  · exact (AnyE.slices_Clone Tryz.cloneT i0 (.agg #[.int .i64 0, .bool false]) 2 16 hi hz0 hz1 hz2 rfl (by omega) Tryz.sizeOf173 b off l.length cap (slK.flat l) w (flat_length l) (by unfold maxLen; omega) (by omega) (hh.cells (by decide)) (flat_one l)).mono
      fun e w' ⟨v', he, ho, _, hb⟩ => ⟨v', he, ho, hb⟩
/-- No place is taken. -/
def freshL : List (Int × Bool) := List.replicate 64 (0, false)
set_option maxRecDepth 1000000 in
set_option maxHeartbeats 4000000 in
theorem fresh_any (w : World) : Calls Tryz.prog 29 #[] w fun e w' => ∃ v, e = .returned v ∧ Own slK w' w.heap.size 173 v freshL ∧ Below w.heap.size w w' := by
  obtain ⟨i0, hi, hz0, hz1, hz2⟩ := info_parts infoSl
  obtain ⟨w1, hrun, hown, hg⟩ := run_makeSlice_full (P := Tryz.prog) w w.heap.size 80 173 i0 (.agg #[.int .i64 0, .bool false]) 2 Tryz.underlying80 hi hz0 hz1 .i64 .i64 64 (by decide) (by rw [hz2]; decide) (by decide) (Nat.le_refl _)
  have hrun' : (Instr.makeSlice 80 (.int .i64 64) (.int .i64 64)).run Tryz.prog w = .ok (.slice (some ⟨w.heap.size, 0, none⟩) 64 64) w1 := hrun
  have hcs : (madeCells (Value.agg #[Value.int IntKind.i64 0, Value.bool false]).cells (64 * 2)).toList = slK.flat freshL := by kernel_rfl
  have hO : Own slK w1 w.heap.size 173 (.slice (some ⟨w.heap.size, 0, none⟩) 64 64) freshL := by unfold Own; rw [← hcs]; exact hown
  have HO := Lib.hid hO
  have HB := Lib.hid ((Below.refl w.heap.size w).grown hg (Nat.le_refl _) (fun k e => by cases e))
  clear hrun hown hg hO hi hz0 hz1 hz2
  go_enter Tryz.func29, Tryz.ntmps29
  go_wp2
  go_ret
  exact ⟨_, rfl, HO.out, HB.out⟩
theorem take1_any (g : Int) (u : Bool) (w : World) : Calls Tryz.prog 91 #[.agg #[.int .i64 g, .bool u]] w fun e w' => e = .returned (.bool (!u)) ∧ Below w.heap.size w w' := by
  have hb : Below w.heap.size w (w.alloc (.cells #[.int .i64 g, .bool u] 173)) := (Below.refl _ _).alloc (Nat.le_refl _) _
  have HB := Lib.hid hb
  clear hb
  cases u
  all_goals
    go_enter Tryz.func91, Tryz.ntmps91
    go_wp2
    go_ret
    exact ⟨rfl, HB.out⟩
end Go.Proofs.YtdllgeanmlmmfaaGreatDoor.Tb
