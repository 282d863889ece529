/-
  MEMORY: a slice of structs of k cells each, as it reads (Rd, Sl); one that the call made itself (Own). Over any kind of element.
-/
import Derived.Test.YtdbaacalfbbdiaaGreatDoorRows
import Derived.Laws.AppendOwn
import Derived.Deep.AppendLies
import Derived.Below
import Derived.OneCell
import Derived.Lib.Walk
import Derived.Lib.Hide
import Derived.Lib.AtoiErrMem
import Derived.Deep.Draws
import Derived.KernelRfl
namespace Go.Proofs.YtdbaacalfbbdiaaGreatDoor.Rw
open Go.RowKit
set_option linter.unusedVariables false

/-- A kind of element: its cells, what a program may hold. -/
structure Kd (α : Type) where
  k : Nat
  cells : α → List Value
  wf : α → Prop
  len : ∀ x, (cells x).length = k
  one : ∀ x, ∀ u ∈ cells x, u.oneCell' = true
variable {α : Type} {S : Kd α}

def Kd.flat (S : Kd α) (l : List α) : List Value := l.flatMap S.cells
theorem flat_length (l : List α) : (S.flat l).length = l.length * S.k := by
  induction l with
  | nil => simp [Kd.flat]
  | cons x r ih => unfold Kd.flat at *; rw [List.flatMap_cons, List.length_append, ih, List.length_cons, S.len, Nat.succ_mul]; omega
theorem flat_append (a b : List α) : S.flat (a ++ b) = S.flat a ++ S.flat b := by unfold Kd.flat; simp
theorem flat_snoc (l : List α) (x : α) : S.flat (l ++ [x]) = S.flat l ++ S.cells x := by rw [flat_append]; simp [Kd.flat]
theorem flat_at {l : List α} {i : Nat} {x : α} (h : l[i]? = some x) : ∀ c, c < S.k → (S.flat l)[i * S.k + c]? = (S.cells x)[c]? := by
  induction l generalizing i with
  | nil => simp at h
  | cons y r ih =>
    intro c hc
    have e : S.flat (y :: r) = S.cells y ++ S.flat r := rfl
    have hl := S.len y
    rw [e]
    cases i with
    | zero =>
      simp at h
      subst h
      rw [List.getElem?_append_left (by rw [hl]; omega), Nat.zero_mul, Nat.zero_add]
    | succ j =>
      rw [List.getElem?_append_right (by rw [hl, Nat.succ_mul]; omega), hl, show (j + 1) * S.k + c - S.k = j * S.k + c by rw [Nat.succ_mul]; omega]
      exact ih (by simpa using h) c hc
theorem flat_one (l : List α) : ∀ u ∈ S.flat l, u.oneCell' = true := by
  intro u hu
  unfold Kd.flat at hu
  obtain ⟨x, _, hx⟩ := List.mem_flatMap.1 hu
  exact S.one x u hx

/-- k cells that hold an element. -/
def AtK (S : Kd α) (w : World) (b o : Nat) (x : α) : Prop := ∀ c u, c < S.k → (S.cells x)[c]? = some u → w.cell? ⟨b, o + c, none⟩ = some u
theorem AtK.below {w w' : World} {B b o : Nat} {x : α} (h : AtK S w b o x) (hw : Below B w w') (hb : b < B) : AtK S w' b o x :=
  fun c u hc hu => (hw.cell (p := ⟨b, o + c, none⟩) hb).trans (h c u hc hu)
theorem AtK.lt {w : World} {b o : Nat} {x : α} (hk : 0 < S.k) (h : AtK S w b o x) : b < w.heap.size :=
  Lib.lt_of_cell (h 0 _ hk (List.getElem?_eq_getElem (by rw [S.len]; exact hk)))

/-- A slice of these, as it reads, at a plain address if it has one. -/
def Sl (S : Kd α) (w : World) (v : Value) (l : List α) : Prop := ∃ (ao : Option Addr) (cap : Nat), v = .slice ao l.length cap ∧ (ao = none ∧ l = [] ∨ ∃ b off, b < w.heap.size ∧ ao = some ⟨b, off, none⟩ ∧ ∀ i x, l[i]? = some x → AtK S w b (off + i * S.k) x) ∧ l.length ≤ cap ∧ cap ≤ 9223372036854775807 ∧ ∀ x ∈ l, S.wf x
theorem Sl.below {w w' : World} {v : Value} {l : List α} (h : Sl S w v l) (hw : Below w.heap.size w w') : Sl S w' v l := by
  obtain ⟨ao, cap, rfl, h1, h2, h3, h4⟩ := h
  refine ⟨ao, cap, rfl, ?_, h2, h3, h4⟩
  rcases h1 with h1 | ⟨b, off, hb, ha, h1⟩
  · exact .inl h1
  · exact .inr ⟨b, off, Nat.lt_of_lt_of_le hb hw.size, ha, fun i x hx => (h1 i x hx).below hw hb⟩
theorem Sl.nil (w : World) : Sl S w (.slice none 0 0) [] := ⟨none, 0, rfl, .inl ⟨rfl, rfl⟩, by simp, by simp, by simp⟩
theorem Sl.wf {w : World} {v : Value} {l : List α} (h : Sl S w v l) : ∀ x ∈ l, S.wf x := by obtain ⟨_, _, _, _, _, _, h⟩ := h; exact h
theorem Sl.form {w : World} {v : Value} {l : List α} (h : Sl S w v l) : ∃ ao cap, v = .slice ao l.length cap ∧ l.length ≤ cap ∧ cap ≤ 9223372036854775807 := by obtain ⟨ao, cap, h, _, h1, h2, _⟩ := h; exact ⟨ao, cap, h, h1, h2⟩
theorem Sl.at {w : World} {ao : Option Addr} {n cap : Nat} {l : List α} (h : Sl S w (.slice ao n cap) l) {i : Nat} {x : α} (hx : l[i]? = some x) : ∃ b off, ao = some ⟨b, off, none⟩ ∧ b < w.heap.size ∧ AtK S w b (off + i * S.k) x := by
  obtain ⟨ao', cap', hv, h4, _⟩ := h
  simp at hv
  obtain ⟨rfl, rfl, rfl⟩ := hv
  rcases h4 with ⟨_, h4⟩ | ⟨b, off, hb, ha, h4⟩
  · subst h4; simp at hx
  · exact ⟨b, off, ha, hb, h4 i x hx⟩
theorem Sl.cells {w : World} {b off n cap : Nat} {l : List α} (h : Sl S w (.slice (some ⟨b, off, none⟩) n cap) l) (hk : 0 < S.k) : ∀ j u, (S.flat l)[j]? = some u → w.cell? ⟨b, off + j, none⟩ = some u := by
  intro j u hu
  have hj : j < l.length * S.k := by rw [← flat_length]; exact (List.getElem?_eq_some_iff.1 hu).1
  have hi : j / S.k < l.length := (Nat.div_lt_iff_lt_mul hk).2 hj
  have hx : l[j / S.k]? = some l[j / S.k] := List.getElem?_eq_getElem hi
  obtain ⟨b', off', he, _, h3⟩ := h.at hx
  simp at he
  obtain ⟨rfl, rfl⟩ := he
  have hc := flat_at (S := S) hx (j % S.k) (Nat.mod_lt _ hk)
  have hjj : j / S.k * S.k + j % S.k = j := by rw [Nat.mul_comm]; exact Nat.div_add_mod j S.k
  rw [hjj, hu] at hc
  have := h3 (j % S.k) u (Nat.mod_lt _ hk) hc.symm
  rw [Nat.add_assoc, hjj] at this
  exact this

/-- .. in memory of the call's own. -/
def Own (S : Kd α) (w : World) (base : Nat) (T : TypeId) (v : Value) (l : List α) : Prop := w.ownsRow base T S.k v l.length (S.flat l)
theorem Own.nil (w : World) (base : Nat) (T : TypeId) : Own S w base T (.slice none 0 0) [] := World.ownsRow_nil _ _ _ _
theorem Own.form {w : World} {base : Nat} {T : TypeId} {v : Value} {l : List α} (h : Own S w base T v l) : (l = [] ∧ v = .slice none 0 0) ∨ ∃ g cap, v = .slice (some ⟨g, 0, none⟩) l.length cap ∧ base ≤ g ∧ g < w.heap.size ∧ l.length ≤ cap ∧ cap ≤ 9223372036854775807 := by
  rcases h.2 with ⟨hv, hn⟩ | ⟨g, cap, cur, hv, hb, hg, hc, hm, _⟩
  · exact .inl ⟨List.length_eq_zero_iff.1 hn, hv⟩
  · exact .inr ⟨g, cap, hv, hb, (Array.getElem?_eq_some_iff.1 hg).1, hc, by unfold maxLen at hm; exact hm⟩
theorem Own.form2 {w : World} {base : Nat} {T : TypeId} {v : Value} {l : List α} (h : Own S w base T v l) : ∃ ao cap, v = .slice ao l.length cap := by
  rcases h.2 with ⟨h, h0⟩ | ⟨g, cap, cur, h, _⟩
  · exact ⟨none, 0, by rw [h, h0]⟩
  · exact ⟨_, _, h⟩
theorem Own.at {w : World} {base g n cap : Nat} {T : TypeId} {l : List α} (h : Own S w base T (.slice (some ⟨g, 0, none⟩) n cap) l) {i : Nat} {x : α} (hx : l[i]? = some x) : AtK S w g (i * S.k) x := by
  intro c u hc hu
  have := World.ownsRow.cells h (g := g) rfl (i * S.k + c) u (by rw [flat_at hx c hc]; exact hu)
  rw [show ((⟨g, 0, none⟩ : Addr).add (i * S.k + c)) = ⟨g, i * S.k + c, none⟩ by unfold Addr.add; split <;> simp_all] at this
  exact this
theorem Own.free {w : World} {base g n cap : Nat} {T : TypeId} {l : List α} (h : Own S w base T (.slice (some ⟨g, 0, none⟩) n cap) l) (o : Nat) : w.frozen? ⟨g, o, none⟩ = false := by
  rcases h.2 with ⟨hv, _⟩ | ⟨g', cap', cur, hv, _, hg, _⟩
  · simp at hv
  · simp at hv
    obtain ⟨rfl, _⟩ := hv
    simp [World.frozen?, hg]
theorem Own.sl {w : World} {base : Nat} {T : TypeId} {v : Value} {l : List α} (h : Own S w base T v l) (hw : ∀ x ∈ l, S.wf x) : Sl S w v l := by
  rcases h.form with ⟨rfl, rfl⟩ | ⟨g, cap, rfl, _, hg, hc, hm⟩
  · exact Sl.nil w
  · exact ⟨some ⟨g, 0, none⟩, cap, rfl, .inr ⟨g, 0, hg, rfl, fun i x hx => by rw [Nat.zero_add]; exact h.at hx⟩, hc, hm, hw⟩
theorem Own.below {w w' : World} {base : Nat} {T : TypeId} {v : Value} {l : List α} (h : Own S w base T v l) (hw : Below w.heap.size w w') : Own S w' base T v l := by
  refine ⟨h.1, ?_⟩
  rcases h.2 with h2 | ⟨g, cap, cur, rfl, hb, hg, rest⟩
  · exact .inl h2
  · exact .inr ⟨g, cap, cur, rfl, hb, (hw.block g (Array.getElem?_eq_some_iff.1 hg).1).trans hg, rest⟩
theorem Own.draw {w : World} {base : Nat} {T : TypeId} {v : Value} {l : List α} (h : Own S w base T v l) (n : Nat) : Own S (w.drewN n) base T v l := h
theorem Own.mono {w : World} {base base' : Nat} {T : TypeId} {v : Value} {l : List α} (h : Own S w base T v l) (hb : base' ≤ base) : Own S w base' T v l := by
  refine ⟨h.1, ?_⟩
  rcases h.2 with h2 | ⟨g, cap, cur, rfl, hg, rest⟩
  · exact .inl h2
  · exact .inr ⟨g, cap, cur, rfl, by omega, rest⟩
/-- One cell is laid anew. -/
theorem row_set {w : World} {base g n cap m : Nat} {T : TypeId} {size : Nat} {xs : List Value} (h : w.ownsRow base T size (.slice (some ⟨g, 0, none⟩) m cap) n xs) {j : Nat} (hj : j < n * size) (u : Value) :
    (w.setCell ⟨g, j, none⟩ u).ownsRow base T size (.slice (some ⟨g, 0, none⟩) m cap) n (xs.set j u) := by
  refine ⟨by rw [List.length_set]; exact h.1, ?_⟩
  rcases h.2 with ⟨hv, _⟩ | ⟨g', cap', cur, hv, hb, hg, hn, hc, hs, ht⟩
  · simp at hv
  · simp at hv
    obtain ⟨rfl, rfl, rfl⟩ := hv
    refine .inr ⟨g, cap, cur.setIfInBounds j u, rfl, hb, heap_setCell_same w g j cur T u hg, hn, hc, by simp [hs], ?_⟩
    rw [Array.toList_setIfInBounds, List.take_set, ht]
/-- The cells of a list of which one element is another one. -/
theorem flat_set {l : List α} {i : Nat} {x y : α} (h : l[i]? = some x) : S.flat (l.set i y) = (S.flat l).take (i * S.k) ++ S.cells y ++ (S.flat l).drop ((i + 1) * S.k) := by
  induction l generalizing i with
  | nil => simp at h
  | cons z r ih =>
    have e : ∀ (z : α) q, S.flat (z :: q) = S.cells z ++ S.flat q := fun _ _ => rfl
    cases i with
    | zero =>
      rw [List.set_cons_zero, e, e, Nat.zero_mul, List.take_zero, List.nil_append, Nat.zero_add, Nat.one_mul]
      rw [List.drop_append, ← S.len z, List.drop_length, Nat.sub_self, List.drop_zero, List.nil_append]
    | succ j =>
      rw [List.set_cons_succ, e, e, ih (by simpa using h)]
      have h1 : (S.cells z).length ≤ (j + 1) * S.k := by rw [S.len, Nat.succ_mul]; omega
      have h2 : (S.cells z).length ≤ (j + 1 + 1) * S.k := by rw [S.len, Nat.succ_mul (j + 1), Nat.succ_mul]; omega
      have h3 : (j + 1) * S.k - (S.cells z).length = j * S.k := by rw [S.len, Nat.succ_mul]; omega
      have h4 : (j + 1 + 1) * S.k - (S.cells z).length = (j + 1) * S.k := by rw [S.len, Nat.succ_mul (j + 1)]; omega
      rw [List.take_append, List.take_of_length_le h1, h3, List.drop_append, List.drop_of_length_le h2, h4]
      simp
end Go.Proofs.YtdbaacalfbbdiaaGreatDoor.Rw
