/-
  YtlkljeedlkbkgaaGreatDoorRowMem
  YtlkljeedlkbkgaaGreatDoorRowMem2
  YtlkljeedlkbkgaaGreatDoorClDelete
-/
import Derived.Test.YtlkljeedlkbkgaaGreatDoorRows
import Derived.Laws.AppendOwn
import Derived.Deep.AppendLies
import Derived.Below
import Derived.OneCell
import Derived.Lib.Walk
import Derived.Lib.Hide
import Derived.Lib.AtoiErrMem
import Derived.Deep.Draws
import Derived.KernelRfl
import Derived.Laws.IdiomCopy
import Derived.Deep.Upon
import Derived.Lib.SliceRun
import Derived.Deep.RegionLaw
import Derived.Test.YtlkljeedlkbkgaaGreatDoorJoined12
import Derived.Deep.Cut
namespace Go.Proofs.YtlkljeedlkbkgaaGreatDoor.Rw
open Go.RowKit
set_option linter.unusedVariables false
structure Kd (α : Type) where
  k : Nat
  cells : α → List Value
  wf : α → Prop
  len : ∀ x, (cells x).length = k
  one : ∀ x, ∀ u ∈ cells x, u.oneCell' = true
variable {α : Type} {S : Kd α}
def Kd.flat (S : Kd α) (l : List α) : List Value := l.flatMap S.cells
theorem flat_length (l : List α) : (S.flat l).length = l.length * S.k := by
  induction l with
  | nil => simp [Kd.flat]
  | cons x r ih => unfold Kd.flat at *; rw [List.flatMap_cons, List.length_append, ih, List.length_cons, S.len, Nat.succ_mul]; omega
theorem flat_at {l : List α} {i : Nat} {x : α} (h : l[i]? = some x) : ∀ c, c < S.k → (S.flat l)[i * S.k + c]? = (S.cells x)[c]? := by
  induction l generalizing i with
  | nil => simp at h
  | cons y r ih =>
    intro c hc
    have e : S.flat (y :: r) = S.cells y ++ S.flat r := rfl
    have hl := S.len y
    rw [e]
    cases i with
    | zero =>
      simp at h
      subst h
      rw [List.getElem?_append_left (by rw [hl]; omega), Nat.zero_mul, Nat.zero_add]
    | succ j =>
      rw [List.getElem?_append_right (by rw [hl, Nat.succ_mul]; omega), hl, show (j + 1) * S.k + c - S.k = j * S.k + c by rw [Nat.succ_mul]; omega]
      exact ih (by simpa using h) c hc
theorem flat_one (l : List α) : ∀ u ∈ S.flat l, u.oneCell' = true := by
  intro u hu
  unfold Kd.flat at hu
  obtain ⟨x, _, hx⟩ := List.mem_flatMap.1 hu
  exact S.one x u hx
def AtK (S : Kd α) (w : World) (b o : Nat) (x : α) : Prop := ∀ c u, c < S.k → (S.cells x)[c]? = some u → w.cell? ⟨b, o + c, none⟩ = some u
theorem AtK.below {w w' : World} {B b o : Nat} {x : α} (h : AtK S w b o x) (hw : Below B w w') (hb : b < B) : AtK S w' b o x :=
  fun c u hc hu => (hw.cell (p := ⟨b, o + c, none⟩) hb).trans (h c u hc hu)
def Sl (S : Kd α) (w : World) (v : Value) (l : List α) : Prop := ∃ (ao : Option Addr) (cap : Nat), v = .slice ao l.length cap ∧ (ao = none ∧ l = [] ∨ ∃ b off, b < w.heap.size ∧ ao = some ⟨b, off, none⟩ ∧ ∀ i x, l[i]? = some x → AtK S w b (off + i * S.k) x) ∧ l.length ≤ cap ∧ cap ≤ 9223372036854775807 ∧ ∀ x ∈ l, S.wf x
theorem Sl.below {w w' : World} {v : Value} {l : List α} (h : Sl S w v l) (hw : Below w.heap.size w w') : Sl S w' v l := by
  obtain ⟨ao, cap, rfl, h1, h2, h3, h4⟩ := h
  refine ⟨ao, cap, rfl, ?_, h2, h3, h4⟩
  rcases h1 with h1 | ⟨b, off, hb, ha, h1⟩
  · exact .inl h1
  · exact .inr ⟨b, off, Nat.lt_of_lt_of_le hb hw.size, ha, fun i x hx => (h1 i x hx).below hw hb⟩
theorem Sl.nil (w : World) : Sl S w (.slice none 0 0) [] := ⟨none, 0, rfl, .inl ⟨rfl, rfl⟩, by simp, by simp, by simp⟩
theorem Sl.wf {w : World} {v : Value} {l : List α} (h : Sl S w v l) : ∀ x ∈ l, S.wf x := by obtain ⟨_, _, _, _, _, _, h⟩ := h; exact h
theorem Sl.form {w : World} {v : Value} {l : List α} (h : Sl S w v l) : ∃ ao cap, v = .slice ao l.length cap ∧ l.length ≤ cap ∧ cap ≤ 9223372036854775807 := by obtain ⟨ao, cap, h, _, h1, h2, _⟩ := h; exact ⟨ao, cap, h, h1, h2⟩
theorem Sl.at {w : World} {ao : Option Addr} {n cap : Nat} {l : List α} (h : Sl S w (.slice ao n cap) l) {i : Nat} {x : α} (hx : l[i]? = some x) : ∃ b off, ao = some ⟨b, off, none⟩ ∧ b < w.heap.size ∧ AtK S w b (off + i * S.k) x := by
  obtain ⟨ao', cap', hv, h4, _⟩ := h
  simp at hv
  obtain ⟨rfl, rfl, rfl⟩ := hv
  rcases h4 with ⟨_, h4⟩ | ⟨b, off, hb, ha, h4⟩
  · subst h4; simp at hx
  · exact ⟨b, off, ha, hb, h4 i x hx⟩
theorem Sl.cells {w : World} {b off n cap : Nat} {l : List α} (h : Sl S w (.slice (some ⟨b, off, none⟩) n cap) l) (hk : 0 < S.k) : ∀ j u, (S.flat l)[j]? = some u → w.cell? ⟨b, off + j, none⟩ = some u := by
  intro j u hu
  have hj : j < l.length * S.k := by rw [← flat_length]; exact (List.getElem?_eq_some_iff.1 hu).1
  have hi : j / S.k < l.length := (Nat.div_lt_iff_lt_mul hk).2 hj
  have hx : l[j / S.k]? = some l[j / S.k] := List.getElem?_eq_getElem hi
  obtain ⟨b', off', he, _, h3⟩ := h.at hx
  simp at he
  obtain ⟨rfl, rfl⟩ := he
  have hc := flat_at (S := S) hx (j % S.k) (Nat.mod_lt _ hk)
  have hjj : j / S.k * S.k + j % S.k = j := by rw [Nat.mul_comm]; exact Nat.div_add_mod j S.k
  rw [hjj, hu] at hc
  have := h3 (j % S.k) u (Nat.mod_lt _ hk) hc.symm
  rw [Nat.add_assoc, hjj] at this
  exact this
def Own (S : Kd α) (w : World) (base : Nat) (T : TypeId) (v : Value) (l : List α) : Prop := w.ownsRow base T S.k v l.length (S.flat l)
theorem Own.nil (w : World) (base : Nat) (T : TypeId) : Own S w base T (.slice none 0 0) [] := World.ownsRow_nil _ _ _ _
theorem Own.form {w : World} {base : Nat} {T : TypeId} {v : Value} {l : List α} (h : Own S w base T v l) : (l = [] ∧ v = .slice none 0 0) ∨ ∃ g cap, v = .slice (some ⟨g, 0, none⟩) l.length cap ∧ base ≤ g ∧ g < w.heap.size ∧ l.length ≤ cap ∧ cap ≤ 9223372036854775807 := by
  rcases h.2 with ⟨hv, hn⟩ | ⟨g, cap, cur, hv, hb, hg, hc, hm, _⟩
  · exact .inl ⟨List.length_eq_zero_iff.1 hn, hv⟩
  · exact .inr ⟨g, cap, hv, hb, (Array.getElem?_eq_some_iff.1 hg).1, hc, by unfold maxLen at hm; exact hm⟩
theorem Own.at {w : World} {base g n cap : Nat} {T : TypeId} {l : List α} (h : Own S w base T (.slice (some ⟨g, 0, none⟩) n cap) l) {i : Nat} {x : α} (hx : l[i]? = some x) : AtK S w g (i * S.k) x := by
  intro c u hc hu
  have := World.ownsRow.cells h (g := g) rfl (i * S.k + c) u (by rw [flat_at hx c hc]; exact hu)
  rw [show ((⟨g, 0, none⟩ : Addr).add (i * S.k + c)) = ⟨g, i * S.k + c, none⟩ by unfold Addr.add; split <;> simp_all] at this
  exact this
theorem Own.free {w : World} {base g n cap : Nat} {T : TypeId} {l : List α} (h : Own S w base T (.slice (some ⟨g, 0, none⟩) n cap) l) (o : Nat) : w.frozen? ⟨g, o, none⟩ = false := by
  rcases h.2 with ⟨hv, _⟩ | ⟨g', cap', cur, hv, _, hg, _⟩
  · simp at hv
  · simp at hv
    obtain ⟨rfl, _⟩ := hv
    simp [World.frozen?, hg]
theorem Own.sl {w : World} {base : Nat} {T : TypeId} {v : Value} {l : List α} (h : Own S w base T v l) (hw : ∀ x ∈ l, S.wf x) : Sl S w v l := by
  rcases h.form with ⟨rfl, rfl⟩ | ⟨g, cap, rfl, _, hg, hc, hm⟩
  · exact Sl.nil w
  · exact ⟨some ⟨g, 0, none⟩, cap, rfl, .inr ⟨g, 0, hg, rfl, fun i x hx => by rw [Nat.zero_add]; exact h.at hx⟩, hc, hm, hw⟩
theorem Own.below {w w' : World} {base : Nat} {T : TypeId} {v : Value} {l : List α} (h : Own S w base T v l) (hw : Below w.heap.size w w') : Own S w' base T v l := by
  refine ⟨h.1, ?_⟩
  rcases h.2 with h2 | ⟨g, cap, cur, rfl, hb, hg, rest⟩
  · exact .inl h2
  · exact .inr ⟨g, cap, cur, rfl, hb, (hw.block g (Array.getElem?_eq_some_iff.1 hg).1).trans hg, rest⟩
theorem Own.draw {w : World} {base : Nat} {T : TypeId} {v : Value} {l : List α} (h : Own S w base T v l) (n : Nat) : Own S (w.drewN n) base T v l := h
theorem Own.mono {w : World} {base base' : Nat} {T : TypeId} {v : Value} {l : List α} (h : Own S w base T v l) (hb : base' ≤ base) : Own S w base' T v l := by
  refine ⟨h.1, ?_⟩
  rcases h.2 with h2 | ⟨g, cap, cur, rfl, hg, rest⟩
  · exact .inl h2
  · exact .inr ⟨g, cap, cur, rfl, by omega, rest⟩
theorem row_set {w : World} {base g n cap m : Nat} {T : TypeId} {size : Nat} {xs : List Value} (h : w.ownsRow base T size (.slice (some ⟨g, 0, none⟩) m cap) n xs) {j : Nat} (hj : j < n * size) (u : Value) :
    (w.setCell ⟨g, j, none⟩ u).ownsRow base T size (.slice (some ⟨g, 0, none⟩) m cap) n (xs.set j u) := by
  refine ⟨by rw [List.length_set]; exact h.1, ?_⟩
  rcases h.2 with ⟨hv, _⟩ | ⟨g', cap', cur, hv, hb, hg, hn, hc, hs, ht⟩
  · simp at hv
  · simp at hv
    obtain ⟨rfl, rfl, rfl⟩ := hv
    refine .inr ⟨g, cap, cur.setIfInBounds j u, rfl, hb, heap_setCell_same w g j cur T u hg, hn, hc, by simp [hs], ?_⟩
    rw [Array.toList_setIfInBounds, List.take_set, ht]
end Go.Proofs.YtlkljeedlkbkgaaGreatDoor.Rw
namespace Go.Proofs.YtlkljeedlkbkgaaGreatDoor.Rw
open Go.RowKit Go.Lib
set_option linter.unusedVariables false
theorem row_setCells {base g n cap m : Nat} {T : TypeId} {size : Nat} : ∀ (vs : List Value) (o : Nat) (w : World) (xs : List Value), w.ownsRow base T size (.slice (some ⟨g, 0, none⟩) m cap) n xs → o + vs.length ≤ n * size →
    (w.setCells g o vs).ownsRow base T size (.slice (some ⟨g, 0, none⟩) m cap) n (xs.take o ++ vs ++ xs.drop (o + vs.length))
  | [], o, w, xs, h, _ => by simpa [World.setCells] using h
  | v :: r, o, w, xs, h, ho => by
    have hl : xs.length = n * size := h.1
    rw [List.length_cons] at ho
    have h1 := row_set h (j := o) (by omega) v
    have h2 := row_setCells r (o + 1) _ _ h1 (by omega)
    show ((w.setCell ⟨g, o, none⟩ v).setCells g (o + 1) r).ownsRow _ _ _ _ _ _
    have e : xs.take o ++ (v :: r) ++ xs.drop (o + (r.length + 1)) = (xs.set o v).take (o + 1) ++ r ++ (xs.set o v).drop (o + 1 + r.length) := by
      have ho' : o < xs.length := by omega
      obtain ⟨A, y, C, hx, hA⟩ : ∃ A y C, xs = A ++ y :: C ∧ A.length = o := ⟨xs.take o, xs[o], xs.drop (o + 1), by rw [← List.drop_eq_getElem_cons ho', List.take_append_drop], by rw [List.length_take]; omega⟩
      subst hx hA
      have e1 : (A ++ y :: C).set A.length v = A ++ v :: C := by simp
      have e2 : (A ++ v :: C).take (A.length + 1) = A ++ [v] := by rw [List.take_append, List.take_of_length_le (by omega), show A.length + 1 - A.length = 1 by omega]; rfl
      have e3 : (A ++ v :: C).drop (A.length + 1 + r.length) = C.drop r.length := by
        rw [show A.length + 1 + r.length = A.length + (r.length + 1) by omega, List.drop_length_add_append, List.drop_succ_cons]
      have e4 : (A ++ y :: C).drop (A.length + (r.length + 1)) = C.drop r.length := by rw [List.drop_length_add_append, List.drop_succ_cons]
      have e5 : (A ++ y :: C).take A.length = A := by simp
      rw [e1, e2, e3, e4, e5]
      simp
    rw [List.length_cons, e]
    exact h2
theorem row_cut {w : World} {base g n cap k : Nat} {T : TypeId} {size : Nat} {xs : List Value} (h : w.ownsRow base T size (.slice (some ⟨g, 0, none⟩) n cap) n xs) (hk : k ≤ n) :
    w.ownsRow base T size (.slice (some ⟨g, 0, none⟩) k cap) k (xs.take (k * size)) := by
  have hl : xs.length = n * size := h.1
  have hks : k * size ≤ n * size := Nat.mul_le_mul_right _ hk
  refine ⟨by rw [List.length_take, hl]; omega, ?_⟩
  rcases h.2 with ⟨hv, _⟩ | ⟨g', cap', cur, hv, hb, hg, hn, hc, hs, ht⟩
  · simp at hv
  · simp at hv
    obtain ⟨rfl, rfl⟩ := hv
    refine .inr ⟨g, cap, cur, rfl, hb, hg, by omega, hc, hs, ?_⟩
    rw [← ht, List.take_take, Nat.min_eq_left hks]
theorem below_setCells {B : Nat} {a : World} {g : Nat} (hg : B ≤ g) : ∀ (vs : List Value) (o : Nat) (w : World), Below B a w → Below B a (w.setCells g o vs)
  | [], _, _, h => h
  | v :: r, o, w, h => below_setCells hg r (o + 1) _ (h.setCell (p := ⟨g, o, none⟩) hg v)
theorem run_clear_any {P : Program} (w : World) (t e ty : TypeId) (z : Value) (ht : P.underlying t = some (.slice e)) (hv : ∀ w, (zeroValue e).run P w = .ok z w) (b o n c : Nat) (hn : 0 < n) (h1 : ∀ v ∈ (Builtin.zeroCells z.cells n).toList, v.oneCell' = true)
    (hc : ∀ j, j < (Builtin.zeroCells z.cells n).toList.length → (w.cell? ⟨b, o + j, none⟩).isSome = true) (hf : ∀ j, j < (Builtin.zeroCells z.cells n).toList.length → w.frozen? ⟨b, o + j, none⟩ = false) :
    (Builtin.clear_ #[t] ty #[.slice (some ⟨b, o, none⟩) n c]).run P w = .ok (.tuple #[]) (w.setCells b o (Builtin.zeroCells z.cells n).toList) := by
  have hst := run_storeCells_cells (P := P) b o (Builtin.zeroCells z.cells n).toList 0 w (by simpa using hc) (by simpa using hf) h1
  simp only [Nat.add_zero] at hst
  obtain ⟨m, rfl⟩ : ∃ m, n = m + 1 := ⟨n - 1, by omega⟩
  simp [Builtin.clear_, run_underlying ht, hv, hst]
end Go.Proofs.YtlkljeedlkbkgaaGreatDoor.Rw
namespace Go.Proofs.YtlkljeedlkbkgaaGreatDoor.Cl
open Go.RowKit Gr Go.Lib
set_option linter.unusedVariables false
theorem sizeC {g : Nat} : ∀ (vs : List Value) (o : Nat) (w : World), (w.setCells g o vs).heap.size = w.heap.size
  | [], _, _ => rfl
  | v :: r, o, w => by rw [World.setCells, sizeC r]; simp [World.setCell]
def OnlyB (g : Nat) (w w' : World) : Prop := (∀ B, B ≤ g → Below B w w') ∧ (∀ k, k ≠ g → k < w.heap.size → w'.heap[k]? = w.heap[k]?)
theorem OnlyB.drew (g : Nat) (w : World) (n : Nat) : OnlyB g w (w.drewN n) := ⟨fun B _ => below_drewN (Below.refl B w) n, fun k _ _ => rfl⟩
theorem OnlyB.cells {g : Nat} {w w' : World} (h : OnlyB g w w') (hs : w.heap.size ≤ w'.heap.size) (o : Nat) (vs : List Value) : OnlyB g w (w'.setCells g o vs) :=
  ⟨fun B hB => Rw.below_setCells hB vs o _ (h.1 B hB), fun k hk hl => (World.heap_setCells_other w' g o vs (by omega) hk).trans (h.2 k hk hl)⟩
theorem zeroH (n : Nat) (hn : n = 1) : (Builtin.zeroCells (Value.agg #[.int .i64 0, .int .i64 0, .int .u64 0]).cells n).toList = [.int .i64 0, .int .i64 0, .int .u64 0] := by subst hn; kernel_rfl
theorem zeroHand : ∀ w, (zeroValue 40).run Tryz.prog w = .ok (.agg #[.int .i64 0, .int .i64 0, .int .u64 0]) w := Tryz.zeroValue40
theorem cellsH_take (H : List Ed) (i : Nat) : (Gr.cellsL H).take (i * 3) = Gr.cellsL (H.take i) := by
  induction H generalizing i with
  | nil => simp [Gr.cellsL]
  | cons x r ih =>
    have e : ∀ q, Gr.cellsL (x :: q) = .int .i64 x.f :: .int .i64 x.t :: .int .u64 x.a :: Gr.cellsL q := fun _ => rfl
    cases i with
    | zero => simp [Gr.cellsL]
    | succ k => rw [e, show (k + 1) * 3 = k * 3 + 1 + 1 + 1 by omega, List.take_succ_cons, List.take_succ_cons, List.take_succ_cons, ih, List.take_succ_cons, e]
theorem cellsH_drop (H : List Ed) (i : Nat) : (Gr.cellsL H).drop (i * 3) = Gr.cellsL (H.drop i) := by
  induction H generalizing i with
  | nil => simp [Gr.cellsL]
  | cons x r ih =>
    have e : ∀ q, Gr.cellsL (x :: q) = .int .i64 x.f :: .int .i64 x.t :: .int .u64 x.a :: Gr.cellsL q := fun _ => rfl
    cases i with
    | zero => simp
    | succ k => rw [e, show (k + 1) * 3 = k * 3 + 1 + 1 + 1 by omega, List.drop_succ_cons, List.drop_succ_cons, List.drop_succ_cons, ih, List.drop_succ_cons]
theorem own_erase {w : World} {base g cap i k : Nat} {T : TypeId} {H : List Ed} (h : Own w base T (.slice (some ⟨g, 0, none⟩) H.length cap) H) (hk : H.length = k + 1) (hi : i < H.length) (z : List Value) (hz : z.length = 3) :
    Own ((w.setCells g (i * 3) (Gr.cellsL (H.drop (i + 1)))).setCells g (k * 3) z) base T (.slice (some ⟨g, 0, none⟩) k cap) (H.eraseIdx i) := by
  have hn : (Gr.cellsL (H.drop (i + 1))).length = (k - i) * 3 := by rw [Gr.cellsL_length, List.length_drop, hk]; congr 1; omega
  have h1 := Rw.row_setCells (Gr.cellsL (H.drop (i + 1))) (i * 3) w _ h (by rw [hn, hk]; omega)
  have h2 := Rw.row_setCells z (k * 3) _ _ h1 (by rw [hz, hk]; omega)
  have h3 := Rw.row_cut (n := H.length) (k := k) h2 (by omega)
  have e : (H.eraseIdx i).length = k := by rw [List.length_eraseIdx, if_pos hi, hk]; omega
  unfold Own
  rw [e, List.eraseIdx_eq_take_drop_succ, Gr.cellsL_append, ← cellsH_take]
  have ha : ((Gr.cellsL H).take (i * 3)).length = i * 3 := by rw [List.length_take, Gr.cellsL_length, hk]; omega
  have hb : ((Gr.cellsL H).take (i * 3) ++ Gr.cellsL (H.drop (i + 1))).length = k * 3 := by rw [List.length_append, ha, hn]; omega
  have hx : List.take (k * 3) ((Gr.cellsL H).take (i * 3) ++ Gr.cellsL (H.drop (i + 1)) ++ (Gr.cellsL H).drop (i * 3 + (Gr.cellsL (H.drop (i + 1))).length)) = (Gr.cellsL H).take (i * 3) ++ Gr.cellsL (H.drop (i + 1)) := by
    rw [List.take_append, ← hb, List.take_length, Nat.sub_self, List.take_zero, List.append_nil]
  rw [hx] at h3
  have hy : List.take (k * 3) ((Gr.cellsL H).take (i * 3) ++ Gr.cellsL (H.drop (i + 1)) ++ z ++ List.drop (k * 3 + z.length) ((Gr.cellsL H).take (i * 3) ++ Gr.cellsL (H.drop (i + 1)) ++ (Gr.cellsL H).drop (i * 3 + (Gr.cellsL (H.drop (i + 1))).length))) = (Gr.cellsL H).take (i * 3) ++ Gr.cellsL (H.drop (i + 1)) := by
    rw [List.append_assoc _ z, List.take_append, ← hb, List.take_length, Nat.sub_self, List.take_zero, List.append_nil]
  rw [hy] at h3
  exact h3
set_option maxRecDepth 1000000 in
set_option maxHeartbeats 8000000 in
theorem delete_any {w : World} {base g cap i : Nat} {H : List Ed} (h : Own w base 40 (.slice (some ⟨g, 0, none⟩) H.length cap) H) (hi : i < H.length) (hl : H.length ≤ 10000) :
    Calls Tryz.prog 64 #[.slice (some ⟨g, 0, none⟩) H.length cap, .int .i64 i, .int .i64 ((i : Int) + 1)] w
      fun e w' => ∃ v', e = .returned v' ∧ (∃ k, v' = .slice (some ⟨g, 0, none⟩) k cap) ∧ Own w' base 40 v' (H.eraseIdx i) ∧ OnlyB g w w' := by
  obtain ⟨i0, hi0, hz0, hz1, hz2⟩ := Gr.info_parts infoH
  have HO := Lib.hid h
  have hcc : H.length ≤ cap ∧ cap ≤ 9223372036854775807 := by
    rcases h.form with ⟨_, h⟩ | ⟨g', cap', h, _, _, h2, h3⟩
    · simp at h
    · simp only [Value.slice.injEq] at h; obtain ⟨_, _, rfl⟩ := h; exact ⟨h2, h3⟩
  have hc1 := hcc.1
  have hc2 := hcc.2
  have hj0 : (0 : Int) ≤ (i : Int) := Int.natCast_nonneg _
  have hj1 : (i : Int) < (H.length : Int) := by omega
  have hj2 : (i : Int) + 1 ≤ (H.length : Int) := by omega
  have hj3 : (i : Int) + 1 ≤ (cap : Int) := by omega
  have hj4 : (i : Int) ≤ (cap : Int) := by omega
  have hj5 : ¬ ((i : Int) = (i : Int) + 1) := by omega
  have hj6 : ((i : Int) == (i : Int) + 1) = false := by rw [beq_eq_false_iff_ne]; omega
  have hj7 : ((i : Int) + 1).toNat = i + 1 := by omega
  have hj8 : i + 1 ≤ cap := by omega
  have hj9 : i + 1 ≤ H.length := by omega
  have hj10 : i ≤ i + 1 := by omega
  have hj11 : (0 : Int) ≤ (i : Int) + 1 := by omega
  obtain ⟨k, hkn⟩ : ∃ k, H.length = k + 1 := ⟨H.length - 1, by omega⟩
  have HKN := Lib.hid hkn
  have hnl : (Gr.cellsL (H.drop (i + 1))).length = (H.length - (i + 1)) * 3 := by rw [Gr.cellsL_length, List.length_drop]
  obtain ⟨A, hA, hsrc⟩ : ∃ A : Addr, (if cap = i + 1 then some (⟨g, 0, none⟩ : Addr) else some ⟨g, (i + 1) * 3, none⟩) = some A ∧ Hid (∀ t u, (Gr.cellsL (H.drop (i + 1)))[t]? = some u → w.drew.cell? (A.add t) = some u) := by
    by_cases hc : cap = i + 1
    · refine ⟨⟨g, 0, none⟩, by simp [hc], fun t u hu => ?_⟩
      have h0 : (Gr.cellsL (H.drop (i + 1))).length = 0 := by rw [hnl]; omega
      rw [List.length_eq_zero_iff.1 h0] at hu
      simp at hu
    · refine ⟨⟨g, (i + 1) * 3, none⟩, by simp [hc], fun t u hu => ?_⟩
      rw [← cellsH_drop, List.getElem?_drop] at hu
      have := World.ownsRow.cells h (g := g) rfl _ u hu
      rw [Addr.add_lit] at this ⊢
      rw [Nat.zero_add] at this
      exact this
  have s1 : Hid ((Gr.cellsL (H.drop (i + 1))).length = (H.length - (i + 1)) * 3) := hnl
  have s2 : Hid (∀ u ∈ Gr.cellsL (H.drop (i + 1)), u.oneCell' = true) := Gr.cellsL_one _
  have hcur : ∀ t, t < H.length * 3 → (w.cell? ⟨g, t, none⟩).isSome = true ∧ w.frozen? ⟨g, t, none⟩ = false := by
    intro t ht
    obtain ⟨u, hu⟩ : ∃ u, (Gr.cellsL H)[t]? = some u := ⟨_, List.getElem?_eq_getElem (by rw [Gr.cellsL_length]; exact ht)⟩
    have := World.ownsRow.cells h (g := g) rfl t _ hu
    rw [Addr.add_lit, Nat.zero_add] at this
    exact ⟨by rw [this]; rfl, h.free t⟩
  have s3 : Hid (∀ t, t < (Gr.cellsL (H.drop (i + 1))).length → (w.drew.cell? ⟨g, 0 + i * 3 + t, none⟩).isSome = true ∧ w.drew.frozen? ⟨g, 0 + i * 3 + t, none⟩ = false) := by
    intro t ht
    rw [hnl] at ht
    rw [Nat.zero_add]
    exact hcur (i * 3 + t) (by omega)
  obtain ⟨W1, hW1⟩ : ∃ W1, W1 = w.drew.setCells g (0 + i * 3) (Gr.cellsL (H.drop (i + 1))) := ⟨_, rfl⟩
  have hk : i + (H.length - (i + 1)) = k := by omega
  have hk1 : H.length - k = 1 := by omega
  have hk2 : ¬ cap = k := by omega
  have hk3 : k ≤ H.length := by omega
  have hk4 : k ≤ cap := by omega
  have hk5 : (k : Int) ≤ (H.length : Int) := by omega
  have hk6 : (0 : Int) ≤ (k : Int) := Int.natCast_nonneg _
  have hcl : ∀ ty, (Builtin.clear_ #[43] ty #[.slice (some ⟨g, k * 3, none⟩) 1 (cap - k)]).run Tryz.prog W1 = .ok (.tuple #[]) (W1.setCells g (k * 3) [.int .i64 0, .int .i64 0, .int .u64 0]) := by
    intro ty
    have hz := zeroH 1 rfl
    have hin : ∀ t, t < 3 → (W1.cell? ⟨g, k * 3 + t, none⟩).isSome = true ∧ W1.frozen? ⟨g, k * 3 + t, none⟩ = false := by
      intro t ht
      have hq := hcur (k * 3 + t) (by omega)
      rw [hW1, World.frozen?_setCells, World.cell?_setCells_out _ _ _ _ _ (fun _ _ => .inr (by rw [hnl]; show 0 + i * 3 + (H.length - (i + 1)) * 3 ≤ k * 3 + t; omega))]
      exact hq
    have := Rw.run_clear_any (P := Tryz.prog) W1 43 40 ty _ Tryz.underlying43 zeroHand g (k * 3) 1 (cap - k) (by decide) (by rw [hz]; intro v hv; simp at hv; rcases hv with rfl | rfl | rfl <;> rfl) (by rw [hz]; exact fun t ht => (hin t ht).1) (by rw [hz]; exact fun t ht => (hin t ht).2)
    rw [hz] at this
    exact this
  have hW : Hid (W1 = w.drew.setCells g (0 + i * 3) (Gr.cellsL (H.drop (i + 1)))) := hW1
  have hic : i + (H.length - (i + 1)) ≤ cap := by omega
  clear h hcc hnl hcur hW1 hkn hic
  go_enter Tryz.func64, Tryz.ntmps64
  go_upto_region 5 with fail
  go_region_law (refine step_append_room rfl (.tmp 22) (.tmp 25) 43 rfl 40 i0 3 Tryz.underlying43 hi0 hz1 g 0 i cap (by simp [Act.eval, Act.put]) A (H.length - (i + 1)) (cap - (i + 1)) (Gr.cellsL (H.drop (i + 1))) (by simp [Act.eval, Act.put]) s1.out hsrc.out s2.out (by omega) s3.out ?_; rw [← hW.out])
  go_wp2
  go_ret
  refine ⟨_, rfl, ⟨_, rfl⟩, ?_, ?_⟩
  · rw [hW.out, Nat.zero_add]
    exact own_erase (HO.out.draw 1) HKN.out hi _ rfl
  · rw [hW.out]
    exact ((OnlyB.drew g w 1).cells (Nat.le_refl _) _ _).cells (by rw [sizeC]; exact Nat.le_refl _) _ _
end Go.Proofs.YtlkljeedlkbkgaaGreatDoor.Cl
