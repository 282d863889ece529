/-
  PACKAGE claim: counts: by what all that is held is another one.
  MEMORY: a slice of structs of k cells each, as it reads (Rd, Sl); one that the call made itself (Own). Over any kind of element.
-/
import Derived.Test.YtlkljeedlkbkgaaGreatDoorJoined10
import Derived.Test.YtlkljeedlkbkgaaGreatDoorJoined5
import Derived.Test.YtlkljeedlkbkgaaGreatDoorRows
import Derived.Laws.AppendOwn
import Derived.Deep.AppendLies
import Derived.Below
import Derived.OneCell
import Derived.Lib.Walk
import Derived.Lib.Hide
import Derived.Lib.AtoiErrMem
import Derived.Deep.Draws
import Derived.KernelRfl
namespace Go.Proofs.YtlkljeedlkbkgaaGreatDoor.Cl
open Go.RowKit Gr
set_option linter.unusedVariables false

theorem ch_new (w : World) (p t d : Int) (T : TypeId) (hw : (⟨p, t, d⟩ : Batch.Ch).Wf) : Batch.Sl (w.alloc (.cells #[.int .i64 p, .int .u64 t, .int .i64 d] T)) (.slice (some ⟨w.heap.size, 0, none⟩) 1 1) [⟨p, t, d⟩] := by
  have h := heap_alloc_new w (.cells #[.int .i64 p, .int .u64 t, .int .i64 d] T)
  refine ⟨_, _, rfl, .inr ⟨w.heap.size, 0, rfl, fun i x hx => ?_⟩, Nat.le_refl _, by decide, fun x hx => by simp at hx; subst hx; exact hw⟩
  cases i with
  | succ k => simp at hx
  | zero =>
    simp at hx
    subst hx
    obtain ⟨c0, c1, c2, _⟩ := trip_cells h
    exact ⟨c0, c1, c2⟩
theorem dB (d : Int) (h : d = 1 ∨ d = -1) : -9223372036854775808 ≤ d ∧ d ≤ 9223372036854775807 := by omega
theorem one_sorted (x : Batch.Ch) : Batch.Sorted [x] := by unfold Batch.Sorted; simp
theorem nil_sorted : Batch.Sorted [] := List.Pairwise.nil

set_option maxRecDepth 1000000 in
set_option maxHeartbeats 8000000 in
theorem counts_open {w : World} {x : Ed} (t : Int) (hw : x.Wf) (ht0 : 0 ≤ t) (ht1 : t ≤ 18446744073709551615) :
    Calls Tryz.prog 63 #[.int .i64 0, x.agg, .int .u64 t] w fun e w' => ∃ v, e = .returned v ∧ Batch.Own w' w.heap.size 72 v (Batch.sumsR ([⟨x.t, t, 1⟩] ++ [])) ∧ Below w.heap.size w w' := by
  have HA := Lib.hid (fun W => ch_new W x.t t 1 72 ⟨hw.t0, hw.t1, ht0, ht1, (dB 1 (.inl rfl)).1, (dB 1 (.inl rfl)).2⟩)
  obtain ⟨xf, xt, xa⟩ := x
  clear hw
  have hb0 : Below w.heap.size w (w.alloc (.cells #[.int .i64 xf, .int .i64 xt, .int .u64 xa] 40)) := (Below.refl _ _).alloc (Nat.le_refl _) _
  have HB0 := Lib.hid hb0
  clear hb0
  go_enter Tryz.func63, Tryz.ntmps63
  go_wp2_with fail
  go_at_call 54
  obtain ⟨w1, hw1⟩ : ∃ w1, w1 = (w.alloc (.cells #[.int .i64 xf, .int .i64 xt, .int .u64 xa] 40)).alloc (.cells #[.int .i64 xt, .int .u64 t, .int .i64 1] 72) := ⟨_, rfl⟩
  rw [← hw1]
  have HA1 := Lib.hid (HA.out (w.alloc (.cells #[.int .i64 xf, .int .i64 xt, .int .u64 xa] 40)))
  rw [← hw1] at HA1
  have HB1 := Lib.hid (show Below w.heap.size w w1 by rw [hw1]; exact HB0.out.alloc (by simp) _)
  clear hw1
  refine (Batch.merge_any (by simpa using HA1.out) (Batch.Sl.nil w1) (one_sorted _) nil_sorted (by simp)).mono ?_
  rintro e w2 ⟨v2, rfl, ho, hb⟩
  have HO := Lib.hid (ho.mono HB1.out.size)
  have HB2 := Lib.hid (HB1.out.trans (hb.mono HB1.out.size))
  clear ho hb
  go_wp2_with fail
  go_ret
  exact ⟨_, rfl, HO.out, HB2.out⟩

set_option maxRecDepth 1000000 in
set_option maxHeartbeats 8000000 in
theorem counts_close {w : World} {x : Ed} (t : Int) (hw : x.Wf) :
    Calls Tryz.prog 63 #[.int .i64 2, x.agg, .int .u64 t] w fun e w' => ∃ v, e = .returned v ∧ Batch.Own w' w.heap.size 72 v (Batch.sumsR ([] ++ [⟨x.t, x.a, -1⟩])) ∧ Below w.heap.size w w' := by
  have HA := Lib.hid (fun W => ch_new W x.t x.a (-1) 72 ⟨hw.t0, hw.t1, hw.a0, hw.a1, (dB (-1) (.inr rfl)).1, (dB (-1) (.inr rfl)).2⟩)
  obtain ⟨xf, xt, xa⟩ := x
  clear hw
  have hb0 : Below w.heap.size w (w.alloc (.cells #[.int .i64 xf, .int .i64 xt, .int .u64 xa] 40)) := (Below.refl _ _).alloc (Nat.le_refl _) _
  have HB0 := Lib.hid hb0
  clear hb0
  go_enter Tryz.func63, Tryz.ntmps63
  go_wp2_with fail
  go_at_call 54
  obtain ⟨w1, hw1⟩ : ∃ w1, w1 = (w.alloc (.cells #[.int .i64 xf, .int .i64 xt, .int .u64 xa] 40)).alloc (.cells #[.int .i64 xt, .int .u64 xa, .int .i64 (-1)] 72) := ⟨_, rfl⟩
  rw [← hw1]
  have HA1 := Lib.hid (HA.out (w.alloc (.cells #[.int .i64 xf, .int .i64 xt, .int .u64 xa] 40)))
  rw [← hw1] at HA1
  have HB1 := Lib.hid (show Below w.heap.size w w1 by rw [hw1]; exact HB0.out.alloc (by simp) _)
  clear hw1
  refine (Batch.merge_any (Batch.Sl.nil w1) (by simpa using HA1.out) nil_sorted (one_sorted _) (by simp)).mono ?_
  rintro e w2 ⟨v2, rfl, ho, hb⟩
  have HO := Lib.hid (ho.mono HB1.out.size)
  have HB2 := Lib.hid (HB1.out.trans (hb.mono HB1.out.size))
  clear ho hb
  go_wp2_with fail
  go_ret
  exact ⟨_, rfl, HO.out, HB2.out⟩

set_option maxRecDepth 1000000 in
set_option maxHeartbeats 8000000 in
theorem counts_adv {w : World} {x : Ed} (t : Int) (hw : x.Wf) (ht0 : 0 ≤ t) (ht1 : t ≤ 18446744073709551615) :
    Calls Tryz.prog 63 #[.int .i64 1, x.agg, .int .u64 t] w fun e w' => ∃ v, e = .returned v ∧ Batch.Own w' w.heap.size 72 v (Batch.sumsR ([⟨x.t, t, 1⟩] ++ [⟨x.t, x.a, -1⟩])) ∧ Below w.heap.size w w' := by
  have HA := Lib.hid (fun W => ch_new W x.t t 1 72 ⟨hw.t0, hw.t1, ht0, ht1, (dB 1 (.inl rfl)).1, (dB 1 (.inl rfl)).2⟩)
  have HC := Lib.hid (fun W => ch_new W x.t x.a (-1) 72 ⟨hw.t0, hw.t1, hw.a0, hw.a1, (dB (-1) (.inr rfl)).1, (dB (-1) (.inr rfl)).2⟩)
  obtain ⟨xf, xt, xa⟩ := x
  clear hw
  have hb0 : Below w.heap.size w (w.alloc (.cells #[.int .i64 xf, .int .i64 xt, .int .u64 xa] 40)) := (Below.refl _ _).alloc (Nat.le_refl _) _
  have HB0 := Lib.hid hb0
  clear hb0
  go_enter Tryz.func63, Tryz.ntmps63
  go_wp2_with fail
  go_at_call 54
  obtain ⟨w0, hw0⟩ : ∃ w0, w0 = (w.alloc (.cells #[.int .i64 xf, .int .i64 xt, .int .u64 xa] 40)).alloc (.cells #[.int .i64 xt, .int .u64 t, .int .i64 1] 72) := ⟨_, rfl⟩
  obtain ⟨w1, hw1⟩ : ∃ w1, w1 = w0.alloc (.cells #[.int .i64 xt, .int .u64 xa, .int .i64 (-1)] 72) := ⟨_, rfl⟩
  have hs0 : w0.heap.size = w.heap.size + 1 + 1 := by rw [hw0]; simp
  have HA1 := Lib.hid (HA.out (w.alloc (.cells #[.int .i64 xf, .int .i64 xt, .int .u64 xa] 40)))
  have HC1 := Lib.hid (HC.out w0)
  have hbw0 : Below w.heap.size w w0 := by rw [hw0]; exact HB0.out.alloc (by simp) _
  rw [← hw0] at HA1 ⊢
  rw [← hw1] at HC1 ⊢
  have hbw1 : Below w0.heap.size w0 w1 := by rw [hw1]; exact (Below.refl _ _).alloc (Nat.le_refl _) _
  have HB1 := Lib.hid (hbw0.trans (hbw1.mono hbw0.size))
  have HA2 := Lib.hid (HA1.out.below hbw1)
  rw [hs0] at HC1
  clear hw0 hw1 hbw0 hbw1 hs0
  refine (Batch.merge_any (by simpa using HA2.out) HC1.out (one_sorted _) (one_sorted _) (by simp)).mono ?_
  rintro e w2 ⟨v2, rfl, ho, hb⟩
  have HO := Lib.hid (ho.mono HB1.out.size)
  have HB2 := Lib.hid (HB1.out.trans (hb.mono HB1.out.size))
  clear ho hb
  go_wp2_with fail
  go_ret
  exact ⟨_, rfl, HO.out, HB2.out⟩
end Go.Proofs.YtlkljeedlkbkgaaGreatDoor.Cl
namespace Go.Proofs.YtlkljeedlkbkgaaGreatDoor.Rw
open Go.RowKit
set_option linter.unusedVariables false

/-- A kind of element: its cells, what a program may hold. -/
structure Kd (α : Type) where
  k : Nat
  cells : α → List Value
  wf : α → Prop
  len : ∀ x, (cells x).length = k
  one : ∀ x, ∀ u ∈ cells x, u.oneCell' = true
variable {α : Type} {S : Kd α}

def Kd.flat (S : Kd α) (l : List α) : List Value := l.flatMap S.cells
theorem flat_length (l : List α) : (S.flat l).length = l.length * S.k := by
  induction l with
  | nil => simp [Kd.flat]
  | cons x r ih => unfold Kd.flat at *; rw [List.flatMap_cons, List.length_append, ih, List.length_cons, S.len, Nat.succ_mul]; omega
theorem flat_append (a b : List α) : S.flat (a ++ b) = S.flat a ++ S.flat b := by unfold Kd.flat; simp
theorem flat_snoc (l : List α) (x : α) : S.flat (l ++ [x]) = S.flat l ++ S.cells x := by rw [flat_append]; simp [Kd.flat]
theorem flat_at {l : List α} {i : Nat} {x : α} (h : l[i]? = some x) : ∀ c, c < S.k → (S.flat l)[i * S.k + c]? = (S.cells x)[c]? := by
  induction l generalizing i with
  | nil => simp at h
  | cons y r ih =>
    intro c hc
    have e : S.flat (y :: r) = S.cells y ++ S.flat r := rfl
    have hl := S.len y
    rw [e]
    cases i with
    | zero =>
      simp at h
      subst h
      rw [List.getElem?_append_left (by rw [hl]; omega), Nat.zero_mul, Nat.zero_add]
    | succ j =>
      rw [List.getElem?_append_right (by rw [hl, Nat.succ_mul]; omega), hl, show (j + 1) * S.k + c - S.k = j * S.k + c by rw [Nat.succ_mul]; omega]
      exact ih (by simpa using h) c hc
theorem flat_one (l : List α) : ∀ u ∈ S.flat l, u.oneCell' = true := by
  intro u hu
  unfold Kd.flat at hu
  obtain ⟨x, _, hx⟩ := List.mem_flatMap.1 hu
  exact S.one x u hx

/-- k cells that hold an element. -/
def AtK (S : Kd α) (w : World) (b o : Nat) (x : α) : Prop := ∀ c u, c < S.k → (S.cells x)[c]? = some u → w.cell? ⟨b, o + c, none⟩ = some u
theorem AtK.below {w w' : World} {B b o : Nat} {x : α} (h : AtK S w b o x) (hw : Below B w w') (hb : b < B) : AtK S w' b o x :=
  fun c u hc hu => (hw.cell (p := ⟨b, o + c, none⟩) hb).trans (h c u hc hu)
theorem AtK.lt {w : World} {b o : Nat} {x : α} (hk : 0 < S.k) (h : AtK S w b o x) : b < w.heap.size :=
  Lib.lt_of_cell (h 0 _ hk (List.getElem?_eq_getElem (by rw [S.len]; exact hk)))

/-- A slice of these, as it reads, at a plain address if it has one. -/
def Sl (S : Kd α) (w : World) (v : Value) (l : List α) : Prop := ∃ (ao : Option Addr) (cap : Nat), v = .slice ao l.length cap ∧ (ao = none ∧ l = [] ∨ ∃ b off, b < w.heap.size ∧ ao = some ⟨b, off, none⟩ ∧ ∀ i x, l[i]? = some x → AtK S w b (off + i * S.k) x) ∧ l.length ≤ cap ∧ cap ≤ 9223372036854775807 ∧ ∀ x ∈ l, S.wf x
theorem Sl.below {w w' : World} {v : Value} {l : List α} (h : Sl S w v l) (hw : Below w.heap.size w w') : Sl S w' v l := by
  obtain ⟨ao, cap, rfl, h1, h2, h3, h4⟩ := h
  refine ⟨ao, cap, rfl, ?_, h2, h3, h4⟩
  rcases h1 with h1 | ⟨b, off, hb, ha, h1⟩
  · exact .inl h1
  · exact .inr ⟨b, off, Nat.lt_of_lt_of_le hb hw.size, ha, fun i x hx => (h1 i x hx).below hw hb⟩
theorem Sl.nil (w : World) : Sl S w (.slice none 0 0) [] := ⟨none, 0, rfl, .inl ⟨rfl, rfl⟩, by simp, by simp, by simp⟩
theorem Sl.wf {w : World} {v : Value} {l : List α} (h : Sl S w v l) : ∀ x ∈ l, S.wf x := by obtain ⟨_, _, _, _, _, _, h⟩ := h; exact h
theorem Sl.form {w : World} {v : Value} {l : List α} (h : Sl S w v l) : ∃ ao cap, v = .slice ao l.length cap ∧ l.length ≤ cap ∧ cap ≤ 9223372036854775807 := by obtain ⟨ao, cap, h, _, h1, h2, _⟩ := h; exact ⟨ao, cap, h, h1, h2⟩
theorem Sl.at {w : World} {ao : Option Addr} {n cap : Nat} {l : List α} (h : Sl S w (.slice ao n cap) l) {i : Nat} {x : α} (hx : l[i]? = some x) : ∃ b off, ao = some ⟨b, off, none⟩ ∧ b < w.heap.size ∧ AtK S w b (off + i * S.k) x := by
  obtain ⟨ao', cap', hv, h4, _⟩ := h
  simp at hv
  obtain ⟨rfl, rfl, rfl⟩ := hv
  rcases h4 with ⟨_, h4⟩ | ⟨b, off, hb, ha, h4⟩
  · subst h4; simp at hx
  · exact ⟨b, off, ha, hb, h4 i x hx⟩
theorem Sl.cells {w : World} {b off n cap : Nat} {l : List α} (h : Sl S w (.slice (some ⟨b, off, none⟩) n cap) l) (hk : 0 < S.k) : ∀ j u, (S.flat l)[j]? = some u → w.cell? ⟨b, off + j, none⟩ = some u := by
  intro j u hu
  have hj : j < l.length * S.k := by rw [← flat_length]; exact (List.getElem?_eq_some_iff.1 hu).1
  have hi : j / S.k < l.length := (Nat.div_lt_iff_lt_mul hk).2 hj
  have hx : l[j / S.k]? = some l[j / S.k] := List.getElem?_eq_getElem hi
  obtain ⟨b', off', he, _, h3⟩ := h.at hx
  simp at he
  obtain ⟨rfl, rfl⟩ := he
  have hc := flat_at (S := S) hx (j % S.k) (Nat.mod_lt _ hk)
  have hjj : j / S.k * S.k + j % S.k = j := by rw [Nat.mul_comm]; exact Nat.div_add_mod j S.k
  rw [hjj, hu] at hc
  have := h3 (j % S.k) u (Nat.mod_lt _ hk) hc.symm
  rw [Nat.add_assoc, hjj] at this
  exact this

/-- .. in memory of the call's own. -/
def Own (S : Kd α) (w : World) (base : Nat) (T : TypeId) (v : Value) (l : List α) : Prop := w.ownsRow base T S.k v l.length (S.flat l)
theorem Own.nil (w : World) (base : Nat) (T : TypeId) : Own S w base T (.slice none 0 0) [] := World.ownsRow_nil _ _ _ _
theorem Own.form {w : World} {base : Nat} {T : TypeId} {v : Value} {l : List α} (h : Own S w base T v l) : (l = [] ∧ v = .slice none 0 0) ∨ ∃ g cap, v = .slice (some ⟨g, 0, none⟩) l.length cap ∧ base ≤ g ∧ g < w.heap.size ∧ l.length ≤ cap ∧ cap ≤ 9223372036854775807 := by
  rcases h.2 with ⟨hv, hn⟩ | ⟨g, cap, cur, hv, hb, hg, hc, hm, _⟩
  · exact .inl ⟨List.length_eq_zero_iff.1 hn, hv⟩
  · exact .inr ⟨g, cap, hv, hb, (Array.getElem?_eq_some_iff.1 hg).1, hc, by unfold maxLen at hm; exact hm⟩
theorem Own.form2 {w : World} {base : Nat} {T : TypeId} {v : Value} {l : List α} (h : Own S w base T v l) : ∃ ao cap, v = .slice ao l.length cap := by
  rcases h.2 with ⟨h, h0⟩ | ⟨g, cap, cur, h, _⟩
  · exact ⟨none, 0, by rw [h, h0]⟩
  · exact ⟨_, _, h⟩
theorem Own.at {w : World} {base g n cap : Nat} {T : TypeId} {l : List α} (h : Own S w base T (.slice (some ⟨g, 0, none⟩) n cap) l) {i : Nat} {x : α} (hx : l[i]? = some x) : AtK S w g (i * S.k) x := by
  intro c u hc hu
  have := World.ownsRow.cells h (g := g) rfl (i * S.k + c) u (by rw [flat_at hx c hc]; exact hu)
  rw [show ((⟨g, 0, none⟩ : Addr).add (i * S.k + c)) = ⟨g, i * S.k + c, none⟩ by unfold Addr.add; split <;> simp_all] at this
  exact this
theorem Own.free {w : World} {base g n cap : Nat} {T : TypeId} {l : List α} (h : Own S w base T (.slice (some ⟨g, 0, none⟩) n cap) l) (o : Nat) : w.frozen? ⟨g, o, none⟩ = false := by
  rcases h.2 with ⟨hv, _⟩ | ⟨g', cap', cur, hv, _, hg, _⟩
  · simp at hv
  · simp at hv
    obtain ⟨rfl, _⟩ := hv
    simp [World.frozen?, hg]
theorem Own.sl {w : World} {base : Nat} {T : TypeId} {v : Value} {l : List α} (h : Own S w base T v l) (hw : ∀ x ∈ l, S.wf x) : Sl S w v l := by
  rcases h.form with ⟨rfl, rfl⟩ | ⟨g, cap, rfl, _, hg, hc, hm⟩
  · exact Sl.nil w
  · exact ⟨some ⟨g, 0, none⟩, cap, rfl, .inr ⟨g, 0, hg, rfl, fun i x hx => by rw [Nat.zero_add]; exact h.at hx⟩, hc, hm, hw⟩
theorem Own.below {w w' : World} {base : Nat} {T : TypeId} {v : Value} {l : List α} (h : Own S w base T v l) (hw : Below w.heap.size w w') : Own S w' base T v l := by
  refine ⟨h.1, ?_⟩
  rcases h.2 with h2 | ⟨g, cap, cur, rfl, hb, hg, rest⟩
  · exact .inl h2
  · exact .inr ⟨g, cap, cur, rfl, hb, (hw.block g (Array.getElem?_eq_some_iff.1 hg).1).trans hg, rest⟩
theorem Own.draw {w : World} {base : Nat} {T : TypeId} {v : Value} {l : List α} (h : Own S w base T v l) (n : Nat) : Own S (w.drewN n) base T v l := h
theorem Own.mono {w : World} {base base' : Nat} {T : TypeId} {v : Value} {l : List α} (h : Own S w base T v l) (hb : base' ≤ base) : Own S w base' T v l := by
  refine ⟨h.1, ?_⟩
  rcases h.2 with h2 | ⟨g, cap, cur, rfl, hg, rest⟩
  · exact .inl h2
  · exact .inr ⟨g, cap, cur, rfl, by omega, rest⟩
/-- One cell is laid anew. -/
theorem row_set {w : World} {base g n cap m : Nat} {T : TypeId} {size : Nat} {xs : List Value} (h : w.ownsRow base T size (.slice (some ⟨g, 0, none⟩) m cap) n xs) {j : Nat} (hj : j < n * size) (u : Value) :
    (w.setCell ⟨g, j, none⟩ u).ownsRow base T size (.slice (some ⟨g, 0, none⟩) m cap) n (xs.set j u) := by
  refine ⟨by rw [List.length_set]; exact h.1, ?_⟩
  rcases h.2 with ⟨hv, _⟩ | ⟨g', cap', cur, hv, hb, hg, hn, hc, hs, ht⟩
  · simp at hv
  · simp at hv
    obtain ⟨rfl, rfl, rfl⟩ := hv
    refine .inr ⟨g, cap, cur.setIfInBounds j u, rfl, hb, heap_setCell_same w g j cur T u hg, hn, hc, by simp [hs], ?_⟩
    rw [Array.toList_setIfInBounds, List.take_set, ht]
/-- The cells of a list of which one element is another one. -/
theorem flat_set {l : List α} {i : Nat} {x y : α} (h : l[i]? = some x) : S.flat (l.set i y) = (S.flat l).take (i * S.k) ++ S.cells y ++ (S.flat l).drop ((i + 1) * S.k) := by
  induction l generalizing i with
  | nil => simp at h
  | cons z r ih =>
    have e : ∀ (z : α) q, S.flat (z :: q) = S.cells z ++ S.flat q := fun _ _ => rfl
    cases i with
    | zero =>
      rw [List.set_cons_zero, e, e, Nat.zero_mul, List.take_zero, List.nil_append, Nat.zero_add, Nat.one_mul]
      rw [List.drop_append, ← S.len z, List.drop_length, Nat.sub_self, List.drop_zero, List.nil_append]
    | succ j =>
      rw [List.set_cons_succ, e, e, ih (by simpa using h)]
      have h1 : (S.cells z).length ≤ (j + 1) * S.k := by rw [S.len, Nat.succ_mul]; omega
      have h2 : (S.cells z).length ≤ (j + 1 + 1) * S.k := by rw [S.len, Nat.succ_mul (j + 1), Nat.succ_mul]; omega
      have h3 : (j + 1) * S.k - (S.cells z).length = j * S.k := by rw [S.len, Nat.succ_mul]; omega
      have h4 : (j + 1 + 1) * S.k - (S.cells z).length = (j + 1) * S.k := by rw [S.len, Nat.succ_mul (j + 1)]; omega
      rw [List.take_append, List.take_of_length_le h1, h3, List.drop_append, List.drop_of_length_le h2, h4]
      simp
end Go.Proofs.YtlkljeedlkbkgaaGreatDoor.Rw
