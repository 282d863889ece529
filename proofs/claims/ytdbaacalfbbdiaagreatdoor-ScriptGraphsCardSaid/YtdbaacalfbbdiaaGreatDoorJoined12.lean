/-
  PACKAGE batch: sums: neighbours of one Port and Time added up, in memory of the call's own.
  PACKAGE batch: weave: two lists that do not fall become one, in memory of the call's own.
  PACKAGE batch: Merge and Pack.
  PACKAGE batch: Right.
  PACKAGE batch: Minus.
  PACKAGE marchlandref03: Same, Pack, Minus, Fix, Merge.
-/
import Derived.Test.YtdbaacalfbbdiaaGreatDoorJoined11
import Derived.BigRegion
import Derived.RegionTactic
import Derived.Test.YtdbaacalfbbdiaaGreatDoorJoined5
import Derived.Laws.MakeOwn
namespace Go.Proofs.YtdbaacalfbbdiaaGreatDoor.Batch
open Go.RowKit Go.Sort
set_option linter.unusedVariables false

theorem below_grow (w : World) (q : Nat) (os : Array Obj) : Below w.heap.size w (grow (w.drewN q) os) :=
  ⟨rfl, rfl, rfl, by simp [grow, World.drewN], fun k hk => Go.Sort.heap_grow_old (w.drewN q) os hk⟩
theorem eqZ_true {x y : Ch} (h : Key x y) : (ordI x y == 0) = true := by rw [beq_iff_eq]; exact ordI_zero.2 h
theorem eqZ_false {x y : Ch} (h : ¬ Key x y) : (ordI x y == 0) = false := by rw [beq_eq_false_iff_ne]; exact fun e => h (ordI_zero.1 e)
theorem Own.below2 {w w' : World} {B base : Nat} {T : TypeId} {v : Value} {l : List Ch} (h : Own w base T v l) (hw : Below B w w') (hB : w.heap.size ≤ B) : Own w' base T v l := h.below (hw.mono hB)
theorem one_cells {w : World} {G : Nat} {p t d : Int} {T : TypeId} (h : w.heap[G]? = some (.cells #[.int .i64 p, .int .u64 t, .int .i64 d] T (0, 0))) : w.cell? ⟨G, 0, none⟩ = some (.int .i64 p) ∧ w.cell? ⟨G, 1, none⟩ = some (.int .u64 t) ∧ w.cell? ⟨G, 2, none⟩ = some (.int .i64 d) ∧ ∀ o, w.frozen? ⟨G, o, none⟩ = false := by
  refine ⟨?_, ?_, ?_, fun o => ?_⟩ <;> simp [World.cell?, World.frozen?, h]
theorem one_setD {w : World} {G : Nat} {p t d d' : Int} {T : TypeId} (h : w.heap[G]? = some (.cells #[.int .i64 p, .int .u64 t, .int .i64 d] T (0, 0))) : (w.setCell ⟨G, 2, none⟩ (.int .i64 d')).heap[G]? = some (.cells #[.int .i64 p, .int .u64 t, .int .i64 d'] T (0, 0)) :=
  heap_setCell_same w G 2 _ T _ h

theorem wrap64_wr (n : Int) : wrap64 n = Batch.wr n := by unfold wrap64 Batch.wr; rfl
theorem news3 (W : World) (p t d : Int) (T : TypeId) : ∀ j u, ([Value.int .i64 p, .int .u64 t, .int .i64 d])[j]? = some u → (W.alloc (.cells #[.int .i64 p, .int .u64 t, .int .i64 d] T)).cell? ((⟨W.heap.size, 0, none⟩ : Addr).add j) = some u := by
  intro j u hj
  match j, hj with
  | 0, hj => simp at hj; subst hj; simp [Addr.add]
  | 1, hj => simp at hj; subst hj; simp [Addr.add]
  | 2, hj => simp at hj; subst hj; simp [Addr.add]
theorem ret_two {v : Value} {n m : Int} (h : n = m) : Ending.returned (.tuple #[v, .int .i64 n]) = Ending.returned (.tuple #[v, .int .i64 m]) := by rw [h]

end Go.Proofs.YtdbaacalfbbdiaaGreatDoor.Batch
namespace Go.Proofs.YtdbaacalfbbdiaaGreatDoor.Batch
open Go.RowKit
set_option linter.unusedVariables false

def Wv (A B L x y : List Ch) : Prop := (L ++ x ++ y).Perm (A ++ B) ∧ Sorted L ∧ Sorted x ∧ Sorted y ∧ ∀ p ∈ L, ∀ q, q ∈ x ∨ q ∈ y → ¬ Lt q p
theorem Wv.start {A B : List Ch} (ha : Sorted A) (hb : Sorted B) : Wv A B [] A B := ⟨List.Perm.refl _, List.Pairwise.nil, ha, hb, fun p hp => absurd hp (by simp)⟩
theorem Sorted.snoc {L : List Ch} {x : Ch} (h : Sorted L) (hx : ∀ p ∈ L, ¬ Lt x p) : Sorted (L ++ [x]) := by
  unfold Sorted
  rw [List.pairwise_append]
  exact ⟨h, by simp, fun p hp q hq => by simp at hq; subst hq; exact hx p hp⟩
theorem Wv.left {A B L x y : List Ch} {a b : Ch} (h : Wv A B L (a :: x) (b :: y)) (hle : ¬ Lt b a) : Wv A B (L ++ [a]) x (b :: y) := by
  obtain ⟨h1, h2, h3, h4, h5⟩ := h
  have h3' := List.pairwise_cons.1 h3
  have h4' := List.pairwise_cons.1 h4
  refine ⟨by simpa using h1, h2.snoc (fun p hp => h5 p hp a (.inl (by simp))), h3'.2, h4, fun p hp q hq => ?_⟩
  rcases List.mem_append.1 hp with hp | hp
  · exact h5 p hp q (hq.elim (fun h => .inl (by simp [h])) .inr)
  · simp at hp
    subst hp
    rcases hq with hq | hq
    · exact h3'.1 q hq
    · rcases List.mem_cons.1 hq with rfl | hq
      · exact hle
      · have := h4'.1 q hq
        unfold Lt at *; omega
theorem Wv.right {A B L x y : List Ch} {a b : Ch} (h : Wv A B L (a :: x) (b :: y)) (hle : ¬ Lt a b) : Wv A B (L ++ [b]) (a :: x) y := by
  obtain ⟨h1, h2, h3, h4, h5⟩ := h
  have h3' := List.pairwise_cons.1 h3
  have h4' := List.pairwise_cons.1 h4
  refine ⟨?_, h2.snoc (fun p hp => h5 p hp b (.inr (by simp))), h3, h4'.2, fun p hp q hq => ?_⟩
  · refine List.Perm.trans ?_ h1
    rw [List.append_assoc, List.append_assoc, List.append_assoc]
    refine List.Perm.append_left L ?_
    exact (List.perm_middle (a := b) (l₁ := a :: x) (l₂ := y)).symm
  · rcases List.mem_append.1 hp with hp | hp
    · exact h5 p hp q (hq.elim .inl (fun h => .inr (by simp [h])))
    · simp at hp
      subst hp
      rcases hq with hq | hq
      · rcases List.mem_cons.1 hq with rfl | hq
        · exact hle
        · have := h3'.1 q hq
          unfold Lt at *; omega
      · exact h4'.1 q hq
theorem Wv.done {A B L x y : List Ch} (h : Wv A B L x y) (h0 : x = [] ∨ y = []) : (L ++ x ++ y).Perm (A ++ B) ∧ Sorted (L ++ x ++ y) := by
  obtain ⟨h1, h2, h3, h4, h5⟩ := h
  refine ⟨h1, ?_⟩
  rcases h0 with rfl | rfl
  · rw [List.append_nil]
    unfold Sorted
    rw [List.pairwise_append]
    exact ⟨h2, h4, fun p hp q hq => h5 p hp q (.inr hq)⟩
  · rw [List.append_nil]
    unfold Sorted
    rw [List.pairwise_append]
    exact ⟨h2, h3, fun p hp q hq => h5 p hp q (.inl hq)⟩
theorem Wv.length {A B L x y : List Ch} (h : Wv A B L x y) : L.length + x.length + y.length = A.length + B.length := by
  have := h.1.length_eq
  simp only [List.length_append] at this
  exact this

/-- What is left behind its first one. -/
theorem Sl.tail1 {w : World} {b off n : Nat} {x : Ch} {l : List Ch} (h : Sl w (.slice (some ⟨b, off, none⟩) n 1) (x :: l)) : Sl w (.slice (some ⟨b, off, none⟩) l.length 0) l := by
  obtain ⟨ao, cap', hv, h1, hc, hm, hw⟩ := h
  simp only [Value.slice.injEq] at hv
  obtain ⟨rfl, rfl, rfl⟩ := hv
  rw [List.length_cons] at hc
  obtain rfl : l = [] := List.length_eq_zero_iff.1 (by omega)
  exact ⟨_, _, rfl, .inr ⟨b, off, rfl, fun i y hy => by simp at hy⟩, by simp, by omega, by simp⟩
theorem Sl.tail2 {w : World} {b off n cap : Nat} {x : Ch} {l : List Ch} (h : Sl w (.slice (some ⟨b, off, none⟩) n cap) (x :: l)) (hcap : cap ≠ 1) : Sl w (.slice (some ⟨b, off + 3, none⟩) l.length (cap - 1)) l := by
  obtain ⟨ao, cap', hv, h1, hc, hm, hw⟩ := h
  simp only [Value.slice.injEq] at hv
  obtain ⟨rfl, rfl, rfl⟩ := hv
  rcases h1 with ⟨h, _⟩ | ⟨b', off', hb, h1⟩
  · cases h
  · simp at hb
    obtain ⟨rfl, rfl⟩ := hb
    rw [List.length_cons] at hc
    refine ⟨_, _, rfl, .inr ⟨b, off + 3, rfl, fun i y hy => ?_⟩, by omega, by omega, fun y hy => hw y (by simp [hy])⟩
    have := h1 (i + 1) y (by simpa using hy)
    rw [show off + (i + 1) * 3 = off + 3 + i * 3 by omega] at this
    exact this

end Go.Proofs.YtdbaacalfbbdiaaGreatDoor.Batch
namespace Go.Proofs.YtdbaacalfbbdiaaGreatDoor.Batch
open Go.RowKit
set_option linter.unusedVariables false

theorem perm_wf {l l' : List Ch} (h : l.Perm l') (hw : ∀ x ∈ l', x.Wf) : ∀ x ∈ l, x.Wf := fun x hx => hw x (h.mem_iff.1 hx)
theorem sums_same {l l' : List Ch} (hl : ∀ x ∈ l, x.Wf) (hw : ∀ x ∈ l', x.Wf) (h : ∀ p t, wr (tot l p t) = wr (tot l' p t)) : sumsE l = sumsE l' ∧ sumsR l = sumsR l' := by
  have e1 : overK l = overK l' := overK_same hl hw h
  have e2 : sumL l = sumL l' := sumL_same hl hw h
  exact ⟨by unfold sumsE; rw [e1], by unfold sumsR; rw [e1, e2]⟩
theorem sums_perm {l l' : List Ch} (h : l.Perm l') (hw : ∀ x ∈ l', x.Wf) : sumsE l = sumsE l' ∧ sumsR l = sumsR l' :=
  sums_same (perm_wf h hw) hw fun p t => by rw [tot_perm h]
theorem sumsR_wf {l : List Ch} (h : ∀ x ∈ l, x.Wf) : ∀ x ∈ sumsR l, x.Wf := by
  unfold sumsR
  split
  · simp
  · exact sumL_wf h
theorem sumsR_length (l : List Ch) : (sumsR l).length ≤ l.length := by
  unfold sumsR
  split
  · simp
  · exact sumL_length l
theorem both_wf {A B : List Ch} (ha : ∀ x ∈ A, x.Wf) (hb : ∀ x ∈ B, x.Wf) : ∀ x ∈ A ++ B, x.Wf := fun x hx => (List.mem_append.1 hx).elim (ha x) (hb x)

def firstWrong : List Ch → Int
  | [] => 0
  | x :: r => if wrongN x ≠ 0 then wrongN x else firstWrong r
def packE (l : List Ch) : Int := if 16 < l.length then 4 else if firstWrong l ≠ 0 then firstWrong l else sumsE l
def packR (l : List Ch) : List Ch := if 16 < l.length ∨ firstWrong l ≠ 0 then [] else sumsR l
theorem firstWrong_none {l : List Ch} (h : ∀ x ∈ l, wrongN x = 0) : firstWrong l = 0 := by
  induction l with
  | nil => rfl
  | cons x r ih => unfold firstWrong; rw [if_neg (fun hn => hn (h x (by simp)))]; exact ih (fun y hy => h y (by simp [hy]))
theorem firstWrong_at {l : List Ch} {i : Nat} {x : Ch} (hx : l[i]? = some x) (h : ∀ y ∈ l.take i, wrongN y = 0) (hn : wrongN x ≠ 0) : firstWrong l = wrongN x := by
  induction l generalizing i with
  | nil => simp at hx
  | cons y r ih =>
    cases i with
    | zero => simp at hx; subst hx; unfold firstWrong; rw [if_pos hn]
    | succ k =>
      unfold firstWrong
      rw [if_neg (fun hn => hn (h y (by simp)))]
      exact ih (by simpa using hx) (fun z hz => h z (by simp [hz]))
theorem pack_many {l : List Ch} (h : 16 < l.length) : packE l = 4 ∧ packR l = [] := ⟨if_pos h, if_pos (.inl h)⟩
theorem pack_wrong {l : List Ch} (h : ¬ 16 < l.length) (hn : firstWrong l ≠ 0) : packE l = firstWrong l ∧ packR l = [] := ⟨by unfold packE; rw [if_neg h, if_pos hn], if_pos (.inr hn)⟩
theorem pack_ok {l : List Ch} (h : ¬ 16 < l.length) (hn : firstWrong l = 0) : packE l = sumsE l ∧ packR l = sumsR l := ⟨by unfold packE; rw [if_neg h, if_neg (fun h => h hn)], if_neg (fun h' => h'.elim h (fun h => h hn))⟩

end Go.Proofs.YtdbaacalfbbdiaaGreatDoor.Batch
namespace Go.Proofs.YtdbaacalfbbdiaaGreatDoor.Batch
open Go.RowKit
set_option linter.unusedVariables false

def RightP (l : List Ch) : Prop := (∀ x ∈ l, wrongN x = 0 ∧ x.d ≠ 0) ∧ l.Pairwise Lt
noncomputable def rightB (l : List Ch) : Bool := @decide (RightP l) (Classical.propDecidable _)
theorem rightB_iff (l : List Ch) : rightB l = true ↔ RightP l := by unfold rightB; exact @decide_eq_true_iff _ (Classical.propDecidable _)
theorem rightB_true {l : List Ch} (h : RightP l) : rightB l = true := (rightB_iff l).2 h
theorem rightB_false {l : List Ch} (h : ¬ RightP l) : rightB l = false := by
  cases e : rightB l
  · rfl
  · exact absurd ((rightB_iff l).1 e) h
theorem right_start (l : List Ch) : RightP (l.take 0) := ⟨by simp, by simp⟩
theorem right_step0 {l : List Ch} {x : Ch} (hx : l[0]? = some x) (h0 : wrongN x = 0) (h1 : x.d ≠ 0) : RightP (l.take 1) := by
  rw [take_succ' hx]
  exact ⟨fun y hy => by simp at hy; subst hy; exact ⟨h0, h1⟩, by simp⟩
theorem right_step {l : List Ch} {k : Nat} {x y : Ch} (h : RightP (l.take (k + 1))) (hy : l[k]? = some y) (hx : l[k + 1]? = some x) (h0 : wrongN x = 0) (h1 : x.d ≠ 0) (h2 : Lt y x) : RightP (l.take (k + 1 + 1)) := by
  rw [take_succ' hx]
  refine ⟨fun z hz => ?_, ?_⟩
  · rcases List.mem_append.1 hz with hz | hz
    · exact h.1 z hz
    · simp at hz; subst hz; exact ⟨h0, h1⟩
  · rw [List.pairwise_append]
    refine ⟨h.2, by simp, fun z hz q hq => ?_⟩
    simp at hq
    subst hq
    have e := take_succ' hy
    rw [e] at hz
    rcases List.mem_append.1 hz with hz | hz
    · have hp := h.2
      rw [e, List.pairwise_append] at hp
      exact (hp.2.2 z hz y (by simp)).trans h2
    · simp at hz; subst hz; exact h2
theorem right_not1 {l : List Ch} {i : Nat} {x : Ch} (hx : l[i]? = some x) (h : wrongN x ≠ 0 ∨ x.d = 0) : ¬ RightP l := fun hr => by
  have := hr.1 x (List.mem_of_getElem? hx)
  rcases h with h | h
  · exact h this.1
  · exact this.2 h
theorem right_not2 {l : List Ch} {k : Nat} {x y : Ch} (hy : l[k]? = some y) (hx : l[k + 1]? = some x) (h : ¬ Lt y x) : ¬ RightP l := fun hr => by
  obtain ⟨h1, e1⟩ := List.getElem?_eq_some_iff.1 hy
  obtain ⟨h2, e2⟩ := List.getElem?_eq_some_iff.1 hx
  have := (List.pairwise_iff_getElem.1 hr.2) k (k + 1) h1 h2 (by omega)
  rw [e1, e2] at this
  exact h this

end Go.Proofs.YtdbaacalfbbdiaaGreatDoor.Batch
namespace Go.Proofs.YtdbaacalfbbdiaaGreatDoor.Batch
open Go.RowKit
set_option linter.unusedVariables false

def negC (x : Ch) : Ch := ⟨x.p, x.t, wr (-x.d)⟩
def minusL (l : List Ch) : List Ch := l.map negC
theorem negC_wf {x : Ch} (h : x.Wf) : (negC x).Wf := ⟨h.p0, h.p1, h.t0, h.t1, (wr_range _).1, (wr_range _).2⟩
theorem minusL_wf {l : List Ch} (h : ∀ x ∈ l, x.Wf) : ∀ x ∈ minusL l, x.Wf := by
  intro x hx
  obtain ⟨y, hy, rfl⟩ := List.mem_map.1 hx
  exact negC_wf (h y hy)
def negTo (l : List Ch) (i : Nat) : List Ch := (l.take i).map negC ++ l.drop i
theorem negTo_start (l : List Ch) : negTo l 0 = l := by unfold negTo; simp
theorem negTo_done {l : List Ch} {i : Nat} (h : l.length ≤ i) : negTo l i = minusL l := by unfold negTo minusL; rw [take_all h, List.drop_of_length_le h, List.append_nil]
theorem negTo_length {l : List Ch} {i : Nat} (h : i ≤ l.length) : (negTo l i).length = l.length := by unfold negTo; simp; omega
theorem negTo_at {l : List Ch} {i : Nat} {x : Ch} (h : l[i]? = some x) : (negTo l i)[i]? = some x := by
  have hl := (List.getElem?_eq_some_iff.1 h).1
  unfold negTo
  rw [List.getElem?_append_right (by simp; omega)]
  simp only [List.length_map, List.length_take]
  rw [List.getElem?_drop, show i + (i - min i l.length) = i by omega]
  exact h
theorem negTo_step {l : List Ch} {i : Nat} {x : Ch} (h : l[i]? = some x) : (negTo l i).set i (negC x) = negTo l (i + 1) := by
  have hl := (List.getElem?_eq_some_iff.1 h).1
  unfold negTo
  rw [List.set_append_right _ _ (by simp; omega)]
  have e : l.drop i = x :: l.drop (i + 1) := by
    rw [List.drop_eq_getElem_cons hl]
    rw [List.getElem?_eq_getElem hl] at h
    rw [Option.some.inj h]
  rw [e, take_succ' h]
  simp only [List.length_map, List.length_take, List.map_append, List.map_cons, List.map_nil]
  rw [show i - min i l.length = 0 by omega, List.set_cons_zero]
  simp

end Go.Proofs.YtdbaacalfbbdiaaGreatDoor.Batch
namespace Go.Proofs.YtdbaacalfbbdiaaGreatDoor.Batch
open Go.RowKit Go.Lib
set_option linter.unusedVariables false

theorem neqRf : NeqAt Tryz.prog 117 (fun x : Ch => .agg (Ch.cells x).toArray) eqCh := by
  refine ⟨fun x y w => ?_, GuardAt.agg _ (by kernel_rfl)⟩
  have u3 := Tryz.underlying3
  have a3 := Tryz.isAgg3
  have z3 := Tryz.sizeOf3
  have u2 := Tryz.underlying2
  have a2 := Tryz.isAgg2
  have z2 := Tryz.sizeOf2
  have u42 := Tryz.underlying22
  have a42 := Tryz.isAgg22
  have z42 := Tryz.sizeOf22
  have hS : Tryz.prog.underlying 117 = some (.struct (Tryz.prog.fieldsOf 117)) := by kernel_rfl
  have hp : Tryz.prog.stoodInHeld 117 = false := by kernel_rfl
  simp only [Ch.cells]
  rw [run_neq_struct, show (10000 : Nat) = 9999 + 1 from rfl, run_equalIn_agg w 9999 117 _ _ hS hp]
  simp only [Program.fieldsOf, Tryz.underlying117]
  go_simp
  unfold eqCh
  by_cases h1 : x.p = y.p <;> by_cases h2 : x.t = y.t <;> by_cases h3 : x.d = y.d <;> simp [h1, h2, h3]
theorem neqRf' (x y : Ch) (w : World) : (binOp .neq 117 (.agg #[.int .i64 x.p, .int .u64 x.t, .int .i64 x.d]) (.agg #[.int .i64 y.p, .int .u64 y.t, .int .i64 y.d])).run Tryz.prog w = .ok (.bool (!eqCh x y)) w := neqRf.1 x y w

theorem eqCh_false {x y : Ch} (h : x ≠ y) : eqCh x y = false := by
  cases e : eqCh x y
  · rfl
  · exact absurd ((eqCh_iff x y).1 e) h
/-- The first i are the same. -/
def SameTo (a b : List Ch) (i : Nat) : Prop := a.take i = b.take i
theorem SameTo.step {a b : List Ch} {i : Nat} {x : Ch} (h : SameTo a b i) (ha : a[i]? = some x) (hb : b[i]? = some x) : SameTo a b (i + 1) := by
  unfold SameTo at *
  rw [take_succ' ha, take_succ' hb, h]
theorem SameTo.all {a b : List Ch} {i : Nat} (h : SameTo a b i) (ha : a.length ≤ i) (hb : b.length ≤ i) : eqL a b = true := by
  unfold SameTo at h
  rw [take_all ha, take_all hb] at h
  rw [h]
  exact eqL_self b
theorem not_same {a b : List Ch} {i : Nat} {x y : Ch} (ha : a[i]? = some x) (hb : b[i]? = some y) (h : x ≠ y) : eqL a b = false :=
  eqL_false fun e => h (by rw [e, hb] at ha; exact (Option.some.inj ha).symm)

set_option maxRecDepth 1000000 in
set_option maxHeartbeats 4000000 in
theorem refsame_any {w : World} {v1 v2 : Value} {a b : List Ch} (h1 : Rd w v1 a) (h2 : Rd w v2 b) :
    Calls Tryz.prog 35 #[v1, v2] w fun e w' => e = .returned (.bool (eqL a b)) ∧ Below w.heap.size w w' := by
  obtain ⟨ao1, cap1, rfl, hc1, hm1, _, k1⟩ := h1
  obtain ⟨ao2, cap2, rfl, hc2, hm2, _, k2⟩ := h2
  have K1 := Lib.hid k1
  have K2 := Lib.hid k2
  have hl1 : a.length ≤ 9223372036854775807 := by omega
  have hl2 : b.length ≤ 9223372036854775807 := by omega
  clear k1 k2 hc1 hc2 hm1 hm2
  by_cases hn : a.length = b.length
  · have HN := Lib.hid hn
    have hne : ((a.length : Int) != (b.length : Int)) = false := by rw [hn]; simp
    clear hn
    go_enter Tryz.func35, Tryz.ntmps35
    go_wp2
    go_loopg [5] a.length (fun k t wr => ∃ i : Nat, i + k = a.length ∧ t = .int .i64 i ∧ SameTo a b i ∧ ∃ q, wr = w.drewN q)
    case atStart => exact ⟨0, by omega, rfl, by unfold SameTo; simp, 0, rfl⟩
    case round =>
      obtain ⟨i, hik, rfl, hsm, q, rfl⟩ := hrel
      have HIK := Lib.hid hik
      have HS := Lib.hid hsm
      clear hsm hik
      by_cases hlt : i < a.length
      · obtain ⟨x, hx, _⟩ := at_of hlt
        obtain ⟨y, hy, _⟩ := at_of (show i < b.length by have := HN.out; omega)
        obtain ⟨b1, o1, ha1, c1⟩ := K1.out.resolve_left (by intro e; rw [e] at hlt; simp at hlt)
        obtain ⟨b2, o2, ha2, c2⟩ := K2.out.resolve_left (by intro e; rw [e] at hy; simp at hy)
        subst ha1 ha2
        obtain ⟨x0, x1, x2⟩ := c1 i x hx
        obtain ⟨y0, y1, y2⟩ := c2 i y hy
        have hi0 : (0 : Int) ≤ (i : Int) := Int.natCast_nonneg _
        have hi1 : (i : Int) < (a.length : Int) := by omega
        have hi2 : (i : Int) < (b.length : Int) := by have := HN.out; omega
        have HLT := Lib.hid hlt
        have hrun := neqRf' x y
        by_cases hxy : x = y
        · have HNEW := Lib.hid (HS.out.step hx (by rw [hxy]; exact hy))
          have he : eqCh x y = true := (eqCh_iff x y).2 hxy
          rw [he] at hrun
          clear hx hy c1 c2 K1 K2 hxy he
          go_wp2_with fail
          go_quiet (fail)
          go_wp2_with fail
          go_roundg (gk - 1)
          case measure => have := HIK.out; have := HLT.out; omega
          case rel => exact ⟨i + 1, by have := HIK.out; have := HLT.out; omega, by go_num, HNEW.out, _, rfl⟩
        · have HNEW := Lib.hid (not_same hx hy hxy)
          have he : eqCh x y = false := eqCh_false hxy
          rw [he] at hrun
          clear hx hy c1 c2 K1 K2 hxy he
          go_wp2_with fail
          go_quiet (fail)
          go_wp2_with fail
          go_ret
          exact ⟨by rw [HNEW.out]; rfl, below_drewN (below_drewN (Below.refl _ _) _) _⟩
      · have HD := Lib.hid (HS.out.all (by omega) (by have := HN.out; omega))
        go_wp2_with fail
        go_ret
        exact ⟨by rw [HD.out]; rfl, below_drewN (Below.refl _ _) _⟩
  · have HN := Lib.hid (eqL_false (a := a) (b := b) (fun e => hn (by rw [e])))
    have hne : ((a.length : Int) != (b.length : Int)) = true := by rw [bne_iff_ne]; omega
    clear hn
    go_enter Tryz.func35, Tryz.ntmps35
    go_wp2
    go_ret
    exact ⟨by rw [HN.out]; rfl, Below.refl _ _⟩
end Go.Proofs.YtdbaacalfbbdiaaGreatDoor.Batch
