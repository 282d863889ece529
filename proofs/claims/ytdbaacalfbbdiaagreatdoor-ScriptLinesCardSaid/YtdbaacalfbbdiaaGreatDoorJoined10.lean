/-
  PACKAGE marchlandref03: within, before.
  PACKAGE marchlandref03: sums.
  PACKAGE batch: sums: neighbours of one Port and Time added up, in memory of the call's own.
  PACKAGE batch: weave: two lists that do not fall become one, in memory of the call's own.
-/
import Derived.Test.YtdbaacalfbbdiaaGreatDoorJoined8
import Derived.Test.YtdbaacalfbbdiaaGreatDoorBatchRefMath
import Derived.Test.YtdbaacalfbbdiaaGreatDoorJoined4
import Derived.Deep.LoopGhost
import Derived.Deep.QuietTactic
import Derived.BigQuiet
import Derived.BigRegion
import Derived.OwnWalk
import Derived.IntWalk
import Derived.Outline
import Derived.Test.YtdbaacalfbbdiaaGreatDoorJoined9
import Derived.RegionTactic
import Derived.Laws.MakeOwn
namespace Go.Proofs.YtdbaacalfbbdiaaGreatDoor.Batch
open Go.RowKit
set_option linter.unusedVariables false

def ltB (x y : Ch) : Bool := decide (Lt x y)
theorem ltB_true {x y : Ch} (h : Lt x y) : ltB x y = true := decide_eq_true h
theorem ltB_false {x y : Ch} (h : ¬ Lt x y) : ltB x y = false := decide_eq_false h
end Go.Proofs.YtdbaacalfbbdiaaGreatDoor.Batch
namespace Go.Proofs.YtdbaacalfbbdiaaGreatDoor.Batch
open Go.RowKit Go.Sort
set_option linter.unusedVariables false

theorem infoRf2 : (Tryz.prog.info? 117).map (fun i => (i.zero, i.size, i.bytes)) = some (some (.agg #[.int .i64 0, .int .u64 0, .int .i64 0]), 3, 24) := by kernel_rfl
theorem Own.form' {w : World} {base : Nat} {T : TypeId} {v : Value} {l : List Ch} (h : Own w base T v l) : ∃ (ao : Option Addr) (cap : Nat), v = .slice ao l.length cap ∧ (l = [] ∨ ∃ g, ao = some ⟨g, 0, none⟩ ∧ base ≤ g ∧ g < w.heap.size) := by
  rcases h.form with ⟨rfl, rfl⟩ | ⟨g, cap, rfl, h1, h2, _⟩
  · exact ⟨none, 0, rfl, .inl rfl⟩
  · exact ⟨_, cap, rfl, .inr ⟨g, rfl, h1, h2⟩⟩
theorem Own.drew1 {w : World} {base : Nat} {T : TypeId} {v : Value} {l : List Ch} (h : Own w base T v l) : Own w.drew base T v l := h
theorem wrap64_wr' (n : Int) : wrap64 n = Batch.wr n := by unfold wrap64 Batch.wr; rfl
theorem ret_b {v : Value} {a b : Bool} (h : a = b) : Ending.returned (.tuple #[v, .bool a]) = Ending.returned (.tuple #[v, .bool b]) := by rw [h]
theorem news3' (W : World) (p t d : Int) (T : TypeId) : ∀ j u, ([Value.int .i64 p, .int .u64 t, .int .i64 d])[j]? = some u → (W.alloc (.cells #[.int .i64 p, .int .u64 t, .int .i64 d] T)).cell? ((⟨W.heap.size, 0, none⟩ : Addr).add j) = some u := by
  intro j u hj
  match j, hj with
  | 0, hj => simp at hj; subst hj; simp [Addr.add]
  | 1, hj => simp at hj; subst hj; simp [Addr.add]
  | 2, hj => simp at hj; subst hj; simp [Addr.add]

end Go.Proofs.YtdbaacalfbbdiaaGreatDoor.Batch
namespace Go.Proofs.YtdbaacalfbbdiaaGreatDoor.Batch
open Go.RowKit Go.Sort
set_option linter.unusedVariables false

theorem below_grow (w : World) (q : Nat) (os : Array Obj) : Below w.heap.size w (grow (w.drewN q) os) :=
  ⟨rfl, rfl, rfl, by simp [grow, World.drewN], fun k hk => Go.Sort.heap_grow_old (w.drewN q) os hk⟩
theorem eqZ_true {x y : Ch} (h : Key x y) : (ordI x y == 0) = true := by rw [beq_iff_eq]; exact ordI_zero.2 h
theorem eqZ_false {x y : Ch} (h : ¬ Key x y) : (ordI x y == 0) = false := by rw [beq_eq_false_iff_ne]; exact fun e => h (ordI_zero.1 e)
theorem Own.below2 {w w' : World} {B base : Nat} {T : TypeId} {v : Value} {l : List Ch} (h : Own w base T v l) (hw : Below B w w') (hB : w.heap.size ≤ B) : Own w' base T v l := h.below (hw.mono hB)
theorem one_cells {w : World} {G : Nat} {p t d : Int} {T : TypeId} (h : w.heap[G]? = some (.cells #[.int .i64 p, .int .u64 t, .int .i64 d] T (0, 0))) : w.cell? ⟨G, 0, none⟩ = some (.int .i64 p) ∧ w.cell? ⟨G, 1, none⟩ = some (.int .u64 t) ∧ w.cell? ⟨G, 2, none⟩ = some (.int .i64 d) ∧ ∀ o, w.frozen? ⟨G, o, none⟩ = false := by
  refine ⟨?_, ?_, ?_, fun o => ?_⟩ <;> simp [World.cell?, World.frozen?, h]
theorem one_setD {w : World} {G : Nat} {p t d d' : Int} {T : TypeId} (h : w.heap[G]? = some (.cells #[.int .i64 p, .int .u64 t, .int .i64 d] T (0, 0))) : (w.setCell ⟨G, 2, none⟩ (.int .i64 d')).heap[G]? = some (.cells #[.int .i64 p, .int .u64 t, .int .i64 d'] T (0, 0)) :=
  heap_setCell_same w G 2 _ T _ h

theorem wrap64_wr (n : Int) : wrap64 n = Batch.wr n := by unfold wrap64 Batch.wr; rfl
theorem news3 (W : World) (p t d : Int) (T : TypeId) : ∀ j u, ([Value.int .i64 p, .int .u64 t, .int .i64 d])[j]? = some u → (W.alloc (.cells #[.int .i64 p, .int .u64 t, .int .i64 d] T)).cell? ((⟨W.heap.size, 0, none⟩ : Addr).add j) = some u := by
  intro j u hj
  match j, hj with
  | 0, hj => simp at hj; subst hj; simp [Addr.add]
  | 1, hj => simp at hj; subst hj; simp [Addr.add]
  | 2, hj => simp at hj; subst hj; simp [Addr.add]
theorem ret_two {v : Value} {n m : Int} (h : n = m) : Ending.returned (.tuple #[v, .int .i64 n]) = Ending.returned (.tuple #[v, .int .i64 m]) := by rw [h]

end Go.Proofs.YtdbaacalfbbdiaaGreatDoor.Batch
namespace Go.Proofs.YtdbaacalfbbdiaaGreatDoor.Batch
open Go.RowKit
set_option linter.unusedVariables false

def Wv (A B L x y : List Ch) : Prop := (L ++ x ++ y).Perm (A ++ B) ∧ Sorted L ∧ Sorted x ∧ Sorted y ∧ ∀ p ∈ L, ∀ q, q ∈ x ∨ q ∈ y → ¬ Lt q p
theorem Wv.start {A B : List Ch} (ha : Sorted A) (hb : Sorted B) : Wv A B [] A B := ⟨List.Perm.refl _, List.Pairwise.nil, ha, hb, fun p hp => absurd hp (by simp)⟩
theorem Sorted.snoc {L : List Ch} {x : Ch} (h : Sorted L) (hx : ∀ p ∈ L, ¬ Lt x p) : Sorted (L ++ [x]) := by
  unfold Sorted
  rw [List.pairwise_append]
  exact ⟨h, by simp, fun p hp q hq => by simp at hq; subst hq; exact hx p hp⟩
theorem Wv.left {A B L x y : List Ch} {a b : Ch} (h : Wv A B L (a :: x) (b :: y)) (hle : ¬ Lt b a) : Wv A B (L ++ [a]) x (b :: y) := by
  obtain ⟨h1, h2, h3, h4, h5⟩ := h
  have h3' := List.pairwise_cons.1 h3
  have h4' := List.pairwise_cons.1 h4
  refine ⟨by simpa using h1, h2.snoc (fun p hp => h5 p hp a (.inl (by simp))), h3'.2, h4, fun p hp q hq => ?_⟩
  rcases List.mem_append.1 hp with hp | hp
  · exact h5 p hp q (hq.elim (fun h => .inl (by simp [h])) .inr)
  · simp at hp
    subst hp
    rcases hq with hq | hq
    · exact h3'.1 q hq
    · rcases List.mem_cons.1 hq with rfl | hq
      · exact hle
      · have := h4'.1 q hq
        unfold Lt at *; omega
theorem Wv.right {A B L x y : List Ch} {a b : Ch} (h : Wv A B L (a :: x) (b :: y)) (hle : ¬ Lt a b) : Wv A B (L ++ [b]) (a :: x) y := by
  obtain ⟨h1, h2, h3, h4, h5⟩ := h
  have h3' := List.pairwise_cons.1 h3
  have h4' := List.pairwise_cons.1 h4
  refine ⟨?_, h2.snoc (fun p hp => h5 p hp b (.inr (by simp))), h3, h4'.2, fun p hp q hq => ?_⟩
  · refine List.Perm.trans ?_ h1
    rw [List.append_assoc, List.append_assoc, List.append_assoc]
    refine List.Perm.append_left L ?_
    exact (List.perm_middle (a := b) (l₁ := a :: x) (l₂ := y)).symm
  · rcases List.mem_append.1 hp with hp | hp
    · exact h5 p hp q (hq.elim .inl (fun h => .inr (by simp [h])))
    · simp at hp
      subst hp
      rcases hq with hq | hq
      · rcases List.mem_cons.1 hq with rfl | hq
        · exact hle
        · have := h3'.1 q hq
          unfold Lt at *; omega
      · exact h4'.1 q hq
theorem Wv.done {A B L x y : List Ch} (h : Wv A B L x y) (h0 : x = [] ∨ y = []) : (L ++ x ++ y).Perm (A ++ B) ∧ Sorted (L ++ x ++ y) := by
  obtain ⟨h1, h2, h3, h4, h5⟩ := h
  refine ⟨h1, ?_⟩
  rcases h0 with rfl | rfl
  · rw [List.append_nil]
    unfold Sorted
    rw [List.pairwise_append]
    exact ⟨h2, h4, fun p hp q hq => h5 p hp q (.inr hq)⟩
  · rw [List.append_nil]
    unfold Sorted
    rw [List.pairwise_append]
    exact ⟨h2, h3, fun p hp q hq => h5 p hp q (.inl hq)⟩
theorem Wv.length {A B L x y : List Ch} (h : Wv A B L x y) : L.length + x.length + y.length = A.length + B.length := by
  have := h.1.length_eq
  simp only [List.length_append] at this
  exact this

/-- What is left behind its first one. -/
theorem Sl.tail1 {w : World} {b off n : Nat} {x : Ch} {l : List Ch} (h : Sl w (.slice (some ⟨b, off, none⟩) n 1) (x :: l)) : Sl w (.slice (some ⟨b, off, none⟩) l.length 0) l := by
  obtain ⟨ao, cap', hv, h1, hc, hm, hw⟩ := h
  simp only [Value.slice.injEq] at hv
  obtain ⟨rfl, rfl, rfl⟩ := hv
  rw [List.length_cons] at hc
  obtain rfl : l = [] := List.length_eq_zero_iff.1 (by omega)
  exact ⟨_, _, rfl, .inr ⟨b, off, rfl, fun i y hy => by simp at hy⟩, by simp, by omega, by simp⟩
theorem Sl.tail2 {w : World} {b off n cap : Nat} {x : Ch} {l : List Ch} (h : Sl w (.slice (some ⟨b, off, none⟩) n cap) (x :: l)) (hcap : cap ≠ 1) : Sl w (.slice (some ⟨b, off + 3, none⟩) l.length (cap - 1)) l := by
  obtain ⟨ao, cap', hv, h1, hc, hm, hw⟩ := h
  simp only [Value.slice.injEq] at hv
  obtain ⟨rfl, rfl, rfl⟩ := hv
  rcases h1 with ⟨h, _⟩ | ⟨b', off', hb, h1⟩
  · cases h
  · simp at hb
    obtain ⟨rfl, rfl⟩ := hb
    rw [List.length_cons] at hc
    refine ⟨_, _, rfl, .inr ⟨b, off + 3, rfl, fun i y hy => ?_⟩, by omega, by omega, fun y hy => hw y (by simp [hy])⟩
    have := h1 (i + 1) y (by simpa using hy)
    rw [show off + (i + 1) * 3 = off + 3 + i * 3 by omega] at this
    exact this

end Go.Proofs.YtdbaacalfbbdiaaGreatDoor.Batch
