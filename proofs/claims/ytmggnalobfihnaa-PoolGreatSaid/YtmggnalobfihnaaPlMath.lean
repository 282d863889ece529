/-
  PACKAGE pool, PLAIN MATHEMATICS: what was put, by its shards.
-/
import Derived.Test.YtmggnalobfihnaaJoined15
import Derived.Test.YtmggnalobfihnaaJoined11
namespace Go.Proofs.Ytmggnalobfihnaa.Pl
open Batch (Ch RightP tot sumsE sumsR sumL overK Nice)
set_option linter.unusedVariables false
/-- Batches of bounded counts. -/
structure Cg (K : Int) (N : Nat) (C : List Ch) : Prop where
  right : RightP C
  wf : ∀ x ∈ C, x.Wf
  bd : ∀ p t, -K ≤ tot C p t ∧ tot C p t ≤ K
  len : C.length ≤ N
section
variable {K K' : Int} {N N' n : Nat} {A B C b l : List Ch}
theorem cg_nil (h : 0 ≤ K) : Cg K N [] := ⟨Batch.right_nil, by simp, fun p t => by show -K ≤ 0 ∧ 0 ≤ K; omega, by simp⟩
theorem nice_cg (h : Nice A) : Cg 12000 12 A := ⟨h.right, h.wf, fun p t => ⟨h.lo p t, h.hi p t⟩, h.len⟩
theorem Cg.more (h : Cg K N C) (h1 : K ≤ K') (h2 : N ≤ N') : Cg K' N' C := ⟨h.right, h.wf, fun p t => by have := h.bd p t; omega, Nat.le_trans h.len h2⟩
theorem Cg.sorted (h : Cg K N C) : Batch.Sorted C := h.right.sorted
theorem over_no {l : List Ch} (hw : ∀ x ∈ l, x.Wf) (h : ∀ p t, -1000000000000000 ≤ tot l p t ∧ tot l p t ≤ 1000000000000000) : overK l = false := by
  cases e : overK l
  · rfl
  · obtain ⟨p, t, ho⟩ := (Batch.overK_iff hw).1 e
    have := h p t
    rw [Batch.wr_id (by omega) (by omega)] at ho
    have := of_decide_eq_true ho
    omega
theorem Cg.self (h : Cg K N C) (hK : K ≤ 1000000000000000) : Batch.IsSum C C := Batch.IsSum.self h.right.2 fun x hx => ⟨(h.right.1 x hx).2, by
  have := h.bd x.p x.t
  rw [Batch.tot_one h.right.2 hx] at this
  omega⟩
theorem Cg.ext (ha : Cg K N A) (hb : Cg K' N' B) (hK : K ≤ 1000000000000000) (hK' : K' ≤ 1000000000000000) (h : ∀ p t, tot A p t = tot B p t) : A = B :=
  (ha.self hK).one (hb.self hK') fun p t => by rw [h]
theorem Cg.merge (ha : Cg K N C) (hb : Cg K' N' b) (hK : K + K' ≤ 1000000000000000) : sumsE (C ++ b) = 0 ∧ Cg (K + K') (N + N') (sumsR (C ++ b)) ∧ ∀ p t, tot (sumsR (C ++ b)) p t = tot C p t + tot b p t := by
  have hw := Batch.both_wf ha.wf hb.wf
  have hbd : ∀ p t, -(K + K') ≤ tot (C ++ b) p t ∧ tot (C ++ b) p t ≤ K + K' := fun p t => by
    have := ha.bd p t
    have := hb.bd p t
    rw [Batch.tot_append]
    omega
  have ho := over_no hw (fun p t => by have := hbd p t; omega)
  have hs := Batch.sums_ok ho
  have ht : ∀ p t, tot (sumsR (C ++ b)) p t = tot C p t + tot b p t := fun p t => by
    have := hbd p t
    rw [hs.2, (Batch.sumL_is hw).tot, Batch.wr_id (by omega) (by omega), Batch.tot_append]
  refine ⟨hs.1, ⟨?_, Batch.sumsR_wf hw, fun p t => by rw [ht, ← Batch.tot_append]; exact hbd p t, ?_⟩, ht⟩
  · exact Batch.right_sums hw fun x hx => (List.mem_append.1 hx).elim (ha.right.fit x) (hb.right.fit x)
  · have := Batch.sumsR_length (C ++ b)
    have h1 := ha.len
    have h2 := hb.len
    rw [List.length_append] at this
    omega
theorem tot_filter (f : Int → Bool) (p t : Int) : tot (l.filter fun c => f c.p) p t = if f p then tot l p t else 0 := by
  induction l with
  | nil => simp [tot]
  | cons x r ih =>
    rw [List.filter_cons]
    by_cases hx : f x.p = true
    · rw [if_pos hx]
      unfold tot
      rw [ih]
      by_cases hp : f p = true
      · rw [if_pos hp, if_pos hp]
      · rw [if_neg hp, if_neg hp]
        have : ¬ (x.p = p ∧ x.t = t) := fun e => hp (e.1 ▸ hx)
        simp [this]
    · rw [if_neg hx, ih]
      conv => rhs; unfold tot
      by_cases hp : f p = true
      · rw [if_pos hp, if_pos hp]
        have : ¬ (x.p = p ∧ x.t = t) := fun e => hx (e.1 ▸ hp)
        simp [this]
      · rw [if_neg hp, if_neg hp]
theorem Cg.filter (h : Cg K N C) (h0 : 0 ≤ K) (f : Int → Bool) : Cg K N (C.filter fun c => f c.p) :=
  ⟨⟨fun x hx => h.right.1 x (List.mem_filter.1 hx).1, h.right.2.filter _⟩, fun x hx => h.wf x (List.mem_filter.1 hx).1, fun p t => by
    rw [tot_filter]
    have := h.bd p t
    split <;> omega, Nat.le_trans (List.length_filter_le _ _) h.len⟩
theorem Cg.merge_filter (ha : Cg K N C) (hb : Cg K' N' b) (h0 : 0 ≤ K) (h0' : 0 ≤ K') (hK : K + K' ≤ 1000000000000000) (f : Int → Bool) :
    (sumsR (C ++ b)).filter (fun c => f c.p) = sumsR (C.filter (fun c => f c.p) ++ b.filter (fun c => f c.p)) := by
  obtain ⟨_, h1, h2⟩ := ha.merge hb hK
  obtain ⟨_, h3, h4⟩ := (ha.filter h0 f).merge (hb.filter h0' f) hK
  refine (h1.filter (by omega) f).ext h3 hK hK fun p t => ?_
  rw [tot_filter, h4, tot_filter, tot_filter, h2]
  split
  · rfl
  · rfl
theorem Cg.merge_nil (h : Cg K N C) (h0 : 0 ≤ K) (hK : K ≤ 1000000000000000) : sumsR (C ++ []) = C := by
  obtain ⟨_, h1, h2⟩ := h.merge (K' := 0) (N' := 0) (cg_nil (by decide)) (by omega)
  exact h1.ext h (by omega) hK fun p t => by rw [h2]; show _ + 0 = _; omega
/-! ### shards -/
theorem Cg.sh (h : Cg K N C) (h0 : 0 ≤ K) (q : Nat) : Cg K N (shB n C q) := h.filter h0 fun p => decide (p % (n : Int) = (q : Int))
theorem sh_merge (ha : Cg K N C) (hb : Cg K' N' b) (h0 : 0 ≤ K) (h0' : 0 ≤ K') (hK : K + K' ≤ 1000000000000000) (q : Nat) : shB n (sumsR (C ++ b)) q = sumsR (shB n C q ++ shB n b q) := ha.merge_filter hb h0 h0' hK fun p => decide (p % (n : Int) = (q : Int))
theorem sh_merge_no (ha : Cg K N C) (hb : Cg K' N' b) (h0 : 0 ≤ K) (h0' : 0 ≤ K') (hK : K + K' ≤ 1000000000000000) {q : Nat} (hq : shB n b q = []) : shB n (sumsR (C ++ b)) q = shB n C q := by
  rw [sh_merge ha hb h0 h0' hK, hq]
  exact (ha.sh h0 q).merge_nil h0 (by omega)
/-- The first shards of it. -/
def belS (n : Nat) (C : List Ch) (i : Nat) : List Ch := C.filter fun c => decide (c.p % (n : Int) < (i : Int))
theorem belS_cg (h : Cg K N C) (h0 : 0 ≤ K) (i : Nat) : Cg K N (belS n C i) := h.filter h0 fun p => decide (p % (n : Int) < (i : Int))
theorem belS_zero (hn : 1 ≤ n) : belS n C 0 = [] := by
  unfold belS
  rw [List.filter_eq_nil_iff]
  intro c _
  have := Int.emod_nonneg c.p (show (n : Int) ≠ 0 by omega)
  simp
  omega
theorem belS_all (hn : 1 ≤ n) : belS n C n = C := by
  unfold belS
  rw [List.filter_eq_self]
  intro c _
  have := Int.emod_lt_of_pos c.p (show (0 : Int) < (n : Int) by omega)
  simp
  omega
theorem belS_succ (h : Cg K N C) (h0 : 0 ≤ K) (hK : 2 * K ≤ 1000000000000000) (i : Nat) : sumsR (belS n C i ++ shB n C i) = belS n C (i + 1) := by
  obtain ⟨_, h1, h2⟩ := (belS_cg (n := n) h h0 i).merge (h.sh (n := n) h0 i) (by omega)
  refine h1.ext (belS_cg (n := n) h h0 (i + 1)) (by omega) (by omega) fun p t => ?_
  have e1 : tot (belS n C i) p t = if decide (p % (n : Int) < (i : Int)) = true then tot C p t else 0 := tot_filter (fun p => decide (p % (n : Int) < (i : Int))) p t
  have e2 : tot (shB n C i) p t = if decide (p % (n : Int) = (i : Int)) = true then tot C p t else 0 := tot_filter (fun p => decide (p % (n : Int) = (i : Int))) p t
  have e3 : tot (belS n C (i + 1)) p t = if decide (p % (n : Int) < ((i + 1 : Nat) : Int)) = true then tot C p t else 0 := tot_filter (fun p => decide (p % (n : Int) < ((i + 1 : Nat) : Int))) p t
  rw [h2, e1, e2, e3]
  simp only [decide_eq_true_eq]
  by_cases q1 : p % (n : Int) < (i : Int)
  · rw [if_pos q1, if_neg (by omega), if_pos (by omega)]; omega
  · by_cases q2 : p % (n : Int) = (i : Int)
    · rw [if_neg q1, if_pos q2, if_pos (by omega)]; omega
    · rw [if_neg q1, if_neg q2, if_neg (by omega)]; omega
/-- Where each shard is the same all is. -/
theorem belS_same (ha : Cg K N A) (hb : Cg K' N' B) (h0 : 0 ≤ K) (h0' : 0 ≤ K') (hK : K ≤ 1000000000000000) (hK' : K' ≤ 1000000000000000) {i : Nat} (hn : 1 ≤ n) (h : ∀ q, q < i → shB n A q = shB n B q) : belS n A i = belS n B i := by
  refine (belS_cg ha h0 i).ext (belS_cg hb h0' i) hK hK' fun p t => ?_
  have e1 : ∀ l, tot (belS n l i) p t = if decide (p % (n : Int) < (i : Int)) = true then tot l p t else 0 := fun l => tot_filter (fun p => decide (p % (n : Int) < (i : Int))) p t
  rw [e1, e1]
  by_cases q1 : p % (n : Int) < (i : Int)
  · have h2 := Int.emod_nonneg p (show (n : Int) ≠ 0 by omega)
    have e2 : ∀ l, tot (shB n l (p % (n : Int)).toNat) p t = tot l p t := fun l => by
      have := tot_filter (l := l) (fun x => decide (x % (n : Int) = ((p % (n : Int)).toNat : Int))) p t
      rw [if_pos (decide_eq_true (by omega))] at this
      exact this
    rw [← e2 A, ← e2 B, h _ (by omega)]
  · rw [if_neg (by simpa using q1), if_neg (by simpa using q1)]
end
end Go.Proofs.Ytmggnalobfihnaa.Pl
