/-
  PACKAGE batch, PLAIN MATHEMATICS OF THE LAWS: what Fix gives may be; merged in any order and either way of three it is the same; with its opposite it is nothing; the same just if each count is.
  PACKAGE pool, PLAIN MATHEMATICS, for counts as great as may be: what was put, by its shards.
-/
import Derived.Test.YtmggnalobfihnaaJoined14
import Derived.Test.YtmggnalobfihnaaJoined11
namespace Go.Proofs.Ytmggnalobfihnaa.Batch
open Go.RowKit
set_option linter.unusedVariables false

theorem firstWrong_zero {l : List Ch} (h : firstWrong l = 0) : ∀ x ∈ l, wrongN x = 0 := by
  induction l with
  | nil => simp
  | cons y r ih =>
    unfold firstWrong at h
    split at h
    · rename_i hn; exact absurd h hn
    · rename_i hn
      intro x hx
      rcases List.mem_cons.1 hx with rfl | hx
      · exact Decidable.not_not.1 hn
      · exact ih h x hx
def Fit (x : Ch) : Prop := 0 ≤ x.p ∧ x.p < 64 ∧ x.t ≠ 18446744073709551615
theorem fit_of_wrong {x : Ch} (h : wrongN x = 0) : Fit x := by
  unfold wrongN at h
  split at h
  · exact absurd h (by decide)
  · split at h
    · exact absurd h (by decide)
    · exact ⟨by omega, by omega, by assumption⟩
theorem wrong_of_fit {x : Ch} (h : Fit x) (ho : overB x.d = false) : wrongN x = 0 := by
  unfold wrongN
  rw [if_neg (by have := h.1; have := h.2.1; omega), if_neg h.2.2, if_neg (by rw [ho]; decide)]
theorem right_sum {l : List Ch} (hw : ∀ x ∈ l, x.Wf) (hf : ∀ x ∈ l, Fit x) (ho : overK l = false) : RightP (sumL l) := by
  have hs := sumL_is hw
  refine ⟨fun z hz => ⟨?_, ((hs.2 z).1 hz).1⟩, hs.1⟩
  obtain ⟨x, hx, hk⟩ := sumL_key hw z hz
  have hfx := hf x hx
  refine wrong_of_fit ⟨by rw [← hk.1]; exact hfx.1, by rw [← hk.1]; exact hfx.2.1, by rw [← hk.2]; exact hfx.2.2⟩ ?_
  cases e : overB z.d
  · rfl
  · have h1 : overK l = true := (overK_iff hw).2 ⟨z.p, z.t, by rw [← ((hs.2 z).1 hz).2]; exact e⟩
    rw [h1] at ho
    exact absurd ho (by decide)
theorem right_nil : RightP [] := ⟨by simp, by simp⟩
theorem right_sums {l : List Ch} (hw : ∀ x ∈ l, x.Wf) (hf : ∀ x ∈ l, Fit x) : RightP (sumsR l) := by
  unfold sumsR
  split
  · exact right_nil
  · rename_i h
    exact right_sum hw hf (by cases e : overK l <;> simp_all)
theorem pack_right {l : List Ch} (hw : ∀ x ∈ l, x.Wf) (h : packE l = 0) : RightP (packR l) := by
  unfold packE at h
  unfold packR
  split at h
  · exact absurd h (by decide)
  · split at h
    · rename_i h1; exact absurd h h1
    · rename_i h0 h1
      rw [if_neg (by intro hh; exact hh.elim h0 h1)]
      exact right_sums hw fun x hx => fit_of_wrong (firstWrong_zero (Decidable.not_not.1 h1) x hx)
theorem RightP.fit {l : List Ch} (h : RightP l) : ∀ x ∈ l, Fit x := fun x hx => fit_of_wrong (h.1 x hx).1
theorem RightP.sorted {l : List Ch} (h : RightP l) : Sorted l := h.2.imp fun h => h.asymm

/-- What Fix gives. -/
structure Nice (A : List Ch) : Prop where
  right : RightP A
  wf : ∀ x ∈ A, x.Wf
  lo : ∀ p t, -12000 ≤ tot A p t
  hi : ∀ p t, tot A p t ≤ 12000
  len : A.length ≤ 12
theorem fix_nice {l : List Ch} (h : ∀ x ∈ l, x.Wf) : Nice (fixL l) := by
  have hw : ∀ x ∈ (l.take 12).map fixC, x.Wf := by
    intro x hx
    obtain ⟨y, hy, rfl⟩ := List.mem_map.1 hx
    exact fixC_wf (h y (List.mem_of_mem_take hy))
  have hf : ∀ x ∈ (l.take 12).map fixC, Fit x := by
    intro x hx
    obtain ⟨y, hy, rfl⟩ := List.mem_map.1 hx
    have h1 := fixC_p y
    have h2 := fixC_t (h y (List.mem_of_mem_take hy))
    exact ⟨h1.1, h1.2, by omega⟩
  have hl : ((l.take 12).map fixC).length ≤ 12 := by rw [List.length_map, List.length_take]; omega
  have hd : ∀ x ∈ (l.take 12).map fixC, -999 ≤ x.d ∧ x.d ≤ 999 := by
    intro x hx
    obtain ⟨y, hy, rfl⟩ := List.mem_map.1 hx
    exact fixC_d y
  unfold fixL
  generalize (l.take 12).map fixC = L at *
  have hb : ∀ p t, -12000 ≤ tot L p t ∧ tot L p t ≤ 12000 := fun p t => by
    have := tot_bound (B := 999) hd (by decide) p t
    omega
  have ho : overK L = false := by
    cases e : overK L
    · rfl
    · obtain ⟨p, t, ho⟩ := (overK_iff hw).1 e
      have := hb p t
      rw [wr_id (by omega) (by omega)] at ho
      have := of_decide_eq_true ho
      omega
  rw [(sums_ok ho).2]
  refine ⟨right_sum hw hf ho, sumL_wf hw, fun p t => ?_, fun p t => ?_, Nat.le_trans (sumL_length L) hl⟩
  · have := hb p t
    rw [(sumL_is hw).tot, wr_id (by omega) (by omega)]
    omega
  · have := hb p t
    rw [(sumL_is hw).tot, wr_id (by omega) (by omega)]
    omega
theorem Nice.d {A : List Ch} (h : Nice A) : ∀ x ∈ A, -12000 ≤ x.d ∧ x.d ≤ 12000 := fun x hx => by
  have h1 := h.lo x.p x.t
  have h2 := h.hi x.p x.t
  rw [tot_one h.right.2 hx] at h1 h2
  exact ⟨h1, h2⟩
theorem no_over {l : List Ch} (hw : ∀ x ∈ l, x.Wf) (h : ∀ p t, -100000 ≤ tot l p t ∧ tot l p t ≤ 100000) : overK l = false := by
  cases e : overK l
  · rfl
  · obtain ⟨p, t, ho⟩ := (overK_iff hw).1 e
    have := h p t
    rw [wr_id (by omega) (by omega)] at ho
    have := of_decide_eq_true ho
    omega
theorem sum_tot {l : List Ch} (hw : ∀ x ∈ l, x.Wf) (h : ∀ p t, -100000 ≤ tot l p t ∧ tot l p t ≤ 100000) : sumsE l = 0 ∧ sumsR l = sumL l ∧ ∀ p t, tot (sumL l) p t = tot l p t := by
  have ho := sums_ok (no_over hw h)
  refine ⟨ho.1, ho.2, fun p t => ?_⟩
  have := h p t
  rw [(sumL_is hw).tot, wr_id (by omega) (by omega)]
theorem Nice.two {A B : List Ch} (ha : Nice A) (hb : Nice B) : sumsE (A ++ B) = 0 ∧ sumsR (A ++ B) = sumL (A ++ B) ∧ ∀ p t, tot (sumL (A ++ B)) p t = tot A p t + tot B p t := by
  have h := sum_tot (both_wf ha.wf hb.wf) fun p t => by
    have := ha.lo p t; have := ha.hi p t; have := hb.lo p t; have := hb.hi p t
    rw [tot_append]
    omega
  exact ⟨h.1, h.2.1, fun p t => by rw [h.2.2, tot_append]⟩
theorem Nice.comm {A B : List Ch} (ha : Nice A) (hb : Nice B) : sumsE (B ++ A) = sumsE (A ++ B) ∧ sumsR (B ++ A) = sumsR (A ++ B) :=
  sums_perm List.perm_append_comm (both_wf ha.wf hb.wf)
theorem Nice.right2 {A B : List Ch} (ha : Nice A) (hb : Nice B) : RightP (sumsR (A ++ B)) :=
  right_sums (both_wf ha.wf hb.wf) fun x hx => (List.mem_append.1 hx).elim (ha.right.fit x) (hb.right.fit x)
theorem Nice.assoc {A B C : List Ch} (ha : Nice A) (hb : Nice B) (hc : Nice C) : sumsR (sumsR (A ++ B) ++ C) = sumsR (A ++ sumsR (B ++ C)) := by
  have h1 := ha.two hb
  have h2 := hb.two hc
  rw [h1.2.1, h2.2.1]
  refine (sums_same (both_wf (sumL_wf (both_wf ha.wf hb.wf)) hc.wf) (both_wf ha.wf (sumL_wf (both_wf hb.wf hc.wf))) fun p t => ?_).2
  rw [tot_append, tot_append, h1.2.2, h2.2.2, Int.add_assoc]
theorem tot_minus {A : List Ch} (h : ∀ x ∈ A, -12000 ≤ x.d ∧ x.d ≤ 12000) (p t : Int) : tot (minusL A) p t = -tot A p t := by
  induction A with
  | nil => rfl
  | cons x r ih =>
    have hx := h x (by simp)
    have := ih fun y hy => h y (by simp [hy])
    have e : minusL (x :: r) = negC x :: minusL r := rfl
    rw [e]
    simp only [tot]
    rw [this]
    have e2 : (negC x).d = -x.d := wr_id (by omega) (by omega)
    have e3 : (negC x).p = x.p := rfl
    have e4 : (negC x).t = x.t := rfl
    rw [e2, e3, e4]
    split <;> omega
theorem Nice.back {A : List Ch} (h : Nice A) : sumsE (A ++ minusL A) = 0 ∧ sumsR (A ++ minusL A) = [] := by
  have hw := both_wf h.wf (minusL_wf h.wf)
  have ht : ∀ p t, tot (A ++ minusL A) p t = 0 := fun p t => by rw [tot_append, tot_minus h.d]; omega
  have hs := sum_tot hw fun p t => by rw [ht]; omega
  refine ⟨hs.1, ?_⟩
  rw [hs.2.1]
  rw [List.eq_nil_iff_forall_not_mem]
  intro z hz
  have := ((sumL_is hw).2 z).1 hz
  rw [ht] at this
  exact this.1 (this.2.trans (by decide))
theorem minus_sorted {A : List Ch} (h : RightP A) : Sorted (minusL A) := by
  unfold Sorted minusL
  rw [List.pairwise_map]
  exact h.2.imp fun h => h.asymm
theorem minus_length (A : List Ch) : (minusL A).length = A.length := by unfold minusL; rw [List.length_map]

/-! the same just if each count is -/
theorem sub_of {A B : List Ch} (ha : RightP A) (hb : RightP B) (h : ∀ x ∈ A, tot B x.p x.t = x.d) : ∀ z ∈ A, z ∈ B := by
  intro z hz
  by_cases hk : ∃ y ∈ B, y.p = z.p ∧ y.t = z.t
  · obtain ⟨y, hy, hp, ht⟩ := hk
    have h1 := tot_one hb.2 hy
    rw [hp, ht, h z hz] at h1
    obtain ⟨a, b, c⟩ := y
    obtain ⟨a', b', c'⟩ := z
    simp only at hp ht h1
    subst hp ht h1
    exact hy
  · have := h z hz
    rw [tot_none (fun y hy hyk => hk ⟨y, hy, hyk⟩)] at this
    exact absurd this.symm (ha.1 z hz).2
theorem once {A B : List Ch} (ha : RightP A) (hb : RightP B) : A = B ↔ (∀ x ∈ A, tot B x.p x.t = x.d) ∧ (∀ x ∈ B, tot A x.p x.t = x.d) := by
  constructor
  · rintro rfl
    exact ⟨fun x hx => tot_one ha.2 hx, fun x hx => tot_one ha.2 hx⟩
  · rintro ⟨h1, h2⟩
    exact rising_ext ha.2 hb.2 fun z => ⟨sub_of ha hb h1 z, sub_of hb ha h2 z⟩
end Go.Proofs.Ytmggnalobfihnaa.Batch
namespace Go.Proofs.Ytmggnalobfihnaa.PlB
open Pl
open Batch (Ch RightP tot sumsE sumsR sumL overK Nice)
set_option linter.unusedVariables false
/-- Batches of bounded counts. -/
structure Cg (K : Int) (N : Nat) (C : List Ch) : Prop where
  right : RightP C
  wf : ∀ x ∈ C, x.Wf
  bd : ∀ p t, -K ≤ tot C p t ∧ tot C p t ≤ K
  len : C.length ≤ N
section
variable {K K' : Int} {N N' n : Nat} {A B C b l : List Ch}
theorem cg_nil (h : 0 ≤ K) : Cg K N [] := ⟨Batch.right_nil, by simp, fun p t => by show -K ≤ 0 ∧ 0 ≤ K; omega, by simp⟩
theorem nice_cg (h : Nice A) : Cg 12000 12 A := ⟨h.right, h.wf, fun p t => ⟨h.lo p t, h.hi p t⟩, h.len⟩
theorem Cg.more (h : Cg K N C) (h1 : K ≤ K') (h2 : N ≤ N') : Cg K' N' C := ⟨h.right, h.wf, fun p t => by have := h.bd p t; omega, Nat.le_trans h.len h2⟩
theorem Cg.sorted (h : Cg K N C) : Batch.Sorted C := h.right.sorted
theorem over_no {l : List Ch} (hw : ∀ x ∈ l, x.Wf) (h : ∀ p t, -576460752303423488 ≤ tot l p t ∧ tot l p t ≤ 576460752303423488) : overK l = false := by
  cases e : overK l
  · rfl
  · obtain ⟨p, t, ho⟩ := (Batch.overK_iff hw).1 e
    have := h p t
    rw [Batch.wr_id (by omega) (by omega)] at ho
    have := of_decide_eq_true ho
    omega
theorem Cg.self (h : Cg K N C) (hK : K ≤ 576460752303423488) : Batch.IsSum C C := Batch.IsSum.self h.right.2 fun x hx => ⟨(h.right.1 x hx).2, by
  have := h.bd x.p x.t
  rw [Batch.tot_one h.right.2 hx] at this
  omega⟩
theorem Cg.ext (ha : Cg K N A) (hb : Cg K' N' B) (hK : K ≤ 576460752303423488) (hK' : K' ≤ 576460752303423488) (h : ∀ p t, tot A p t = tot B p t) : A = B :=
  (ha.self hK).one (hb.self hK') fun p t => by rw [h]
theorem Cg.merge (ha : Cg K N C) (hb : Cg K' N' b) (hK : K + K' ≤ 576460752303423488) : sumsE (C ++ b) = 0 ∧ Cg (K + K') (N + N') (sumsR (C ++ b)) ∧ ∀ p t, tot (sumsR (C ++ b)) p t = tot C p t + tot b p t := by
  have hw := Batch.both_wf ha.wf hb.wf
  have hbd : ∀ p t, -(K + K') ≤ tot (C ++ b) p t ∧ tot (C ++ b) p t ≤ K + K' := fun p t => by
    have := ha.bd p t
    have := hb.bd p t
    rw [Batch.tot_append]
    omega
  have ho := over_no hw (fun p t => by have := hbd p t; omega)
  have hs := Batch.sums_ok ho
  have ht : ∀ p t, tot (sumsR (C ++ b)) p t = tot C p t + tot b p t := fun p t => by
    have := hbd p t
    rw [hs.2, (Batch.sumL_is hw).tot, Batch.wr_id (by omega) (by omega), Batch.tot_append]
  refine ⟨hs.1, ⟨?_, Batch.sumsR_wf hw, fun p t => by rw [ht, ← Batch.tot_append]; exact hbd p t, ?_⟩, ht⟩
  · exact Batch.right_sums hw fun x hx => (List.mem_append.1 hx).elim (ha.right.fit x) (hb.right.fit x)
  · have := Batch.sumsR_length (C ++ b)
    have h1 := ha.len
    have h2 := hb.len
    rw [List.length_append] at this
    omega
theorem Cg.mergeT {K2 : Int} (ha : Cg K N C) (hb : Cg K' N' b) (hbd2 : ∀ p t, -K2 ≤ tot C p t + tot b p t ∧ tot C p t + tot b p t ≤ K2) (hK : K2 ≤ 576460752303423488) : sumsE (C ++ b) = 0 ∧ Cg K2 (N + N') (sumsR (C ++ b)) ∧ ∀ p t, tot (sumsR (C ++ b)) p t = tot C p t + tot b p t := by
  have hw := Batch.both_wf ha.wf hb.wf
  have hbd : ∀ p t, -K2 ≤ tot (C ++ b) p t ∧ tot (C ++ b) p t ≤ K2 := fun p t => by
    have := hbd2 p t
    rw [Batch.tot_append]
    omega
  have ho := over_no hw (fun p t => by have := hbd p t; omega)
  have hs := Batch.sums_ok ho
  have ht : ∀ p t, tot (sumsR (C ++ b)) p t = tot C p t + tot b p t := fun p t => by
    have := hbd p t
    rw [hs.2, (Batch.sumL_is hw).tot, Batch.wr_id (by omega) (by omega), Batch.tot_append]
  refine ⟨hs.1, ⟨?_, Batch.sumsR_wf hw, fun p t => by rw [ht, ← Batch.tot_append]; exact hbd p t, ?_⟩, ht⟩
  · exact Batch.right_sums hw fun x hx => (List.mem_append.1 hx).elim (ha.right.fit x) (hb.right.fit x)
  · have := Batch.sumsR_length (C ++ b)
    have h1 := ha.len
    have h2 := hb.len
    rw [List.length_append] at this
    omega
theorem tot_filter (f : Int → Bool) (p t : Int) : tot (l.filter fun c => f c.p) p t = if f p then tot l p t else 0 := by
  induction l with
  | nil => simp [tot]
  | cons x r ih =>
    rw [List.filter_cons]
    by_cases hx : f x.p = true
    · rw [if_pos hx]
      unfold tot
      rw [ih]
      by_cases hp : f p = true
      · rw [if_pos hp, if_pos hp]
      · rw [if_neg hp, if_neg hp]
        have : ¬ (x.p = p ∧ x.t = t) := fun e => hp (e.1 ▸ hx)
        simp [this]
    · rw [if_neg hx, ih]
      conv => rhs; unfold tot
      by_cases hp : f p = true
      · rw [if_pos hp, if_pos hp]
        have : ¬ (x.p = p ∧ x.t = t) := fun e => hx (e.1 ▸ hp)
        simp [this]
      · rw [if_neg hp, if_neg hp]
theorem Cg.filter (h : Cg K N C) (h0 : 0 ≤ K) (f : Int → Bool) : Cg K N (C.filter fun c => f c.p) :=
  ⟨⟨fun x hx => h.right.1 x (List.mem_filter.1 hx).1, h.right.2.filter _⟩, fun x hx => h.wf x (List.mem_filter.1 hx).1, fun p t => by
    rw [tot_filter]
    have := h.bd p t
    split <;> omega, Nat.le_trans (List.length_filter_le _ _) h.len⟩
theorem Cg.merge_filter (ha : Cg K N C) (hb : Cg K' N' b) (h0 : 0 ≤ K) (h0' : 0 ≤ K') (hK : K + K' ≤ 576460752303423488) (f : Int → Bool) :
    (sumsR (C ++ b)).filter (fun c => f c.p) = sumsR (C.filter (fun c => f c.p) ++ b.filter (fun c => f c.p)) := by
  obtain ⟨_, h1, h2⟩ := ha.merge hb hK
  obtain ⟨_, h3, h4⟩ := (ha.filter h0 f).merge (hb.filter h0' f) hK
  refine (h1.filter (by omega) f).ext h3 hK hK fun p t => ?_
  rw [tot_filter, h4, tot_filter, tot_filter, h2]
  split
  · rfl
  · rfl
theorem Cg.merge_nil (h : Cg K N C) (h0 : 0 ≤ K) (hK : K ≤ 576460752303423488) : sumsR (C ++ []) = C := by
  obtain ⟨_, h1, h2⟩ := h.merge (K' := 0) (N' := 0) (cg_nil (by decide)) (by omega)
  exact h1.ext h (by omega) hK fun p t => by rw [h2]; show _ + 0 = _; omega
/-! ### shards -/
theorem Cg.sh (h : Cg K N C) (h0 : 0 ≤ K) (q : Nat) : Cg K N (shB n C q) := h.filter h0 fun p => decide (p % (n : Int) = (q : Int))
theorem sh_merge (ha : Cg K N C) (hb : Cg K' N' b) (h0 : 0 ≤ K) (h0' : 0 ≤ K') (hK : K + K' ≤ 576460752303423488) (q : Nat) : shB n (sumsR (C ++ b)) q = sumsR (shB n C q ++ shB n b q) := ha.merge_filter hb h0 h0' hK fun p => decide (p % (n : Int) = (q : Int))
theorem sh_merge_no (ha : Cg K N C) (hb : Cg K' N' b) (h0 : 0 ≤ K) (h0' : 0 ≤ K') (hK : K + K' ≤ 576460752303423488) {q : Nat} (hq : shB n b q = []) : shB n (sumsR (C ++ b)) q = shB n C q := by
  rw [sh_merge ha hb h0 h0' hK, hq]
  exact (ha.sh h0 q).merge_nil h0 (by omega)
/-- The first shards of it. -/
def belS (n : Nat) (C : List Ch) (i : Nat) : List Ch := C.filter fun c => decide (c.p % (n : Int) < (i : Int))
theorem belS_cg (h : Cg K N C) (h0 : 0 ≤ K) (i : Nat) : Cg K N (belS n C i) := h.filter h0 fun p => decide (p % (n : Int) < (i : Int))
theorem belS_zero (hn : 1 ≤ n) : belS n C 0 = [] := by
  unfold belS
  rw [List.filter_eq_nil_iff]
  intro c _
  have := Int.emod_nonneg c.p (show (n : Int) ≠ 0 by omega)
  simp
  omega
theorem belS_all (hn : 1 ≤ n) : belS n C n = C := by
  unfold belS
  rw [List.filter_eq_self]
  intro c _
  have := Int.emod_lt_of_pos c.p (show (0 : Int) < (n : Int) by omega)
  simp
  omega
theorem belS_succ (h : Cg K N C) (h0 : 0 ≤ K) (hK : K ≤ 576460752303423488) (i : Nat) : sumsR (belS n C i ++ shB n C i) = belS n C (i + 1) := by
  have hb2 : ∀ p t, -K ≤ tot (belS n C i) p t + tot (shB n C i) p t ∧ tot (belS n C i) p t + tot (shB n C i) p t ≤ K := fun p t => by
    have e1 : tot (belS n C i) p t = if decide (p % (n : Int) < (i : Int)) = true then tot C p t else 0 := tot_filter (fun p => decide (p % (n : Int) < (i : Int))) p t
    have e2 : tot (shB n C i) p t = if decide (p % (n : Int) = (i : Int)) = true then tot C p t else 0 := tot_filter (fun p => decide (p % (n : Int) = (i : Int))) p t
    have := h.bd p t
    rw [e1, e2]
    simp only [decide_eq_true_eq]
    by_cases q1 : p % (n : Int) < (i : Int)
    · rw [if_pos q1, if_neg (by omega)]; omega
    · by_cases q2 : p % (n : Int) = (i : Int)
      · rw [if_neg q1, if_pos q2]; omega
      · rw [if_neg q1, if_neg q2]; omega
  obtain ⟨_, h1, h2⟩ := (belS_cg (n := n) h h0 i).mergeT (h.sh (n := n) h0 i) hb2 hK
  refine h1.ext (belS_cg (n := n) h h0 (i + 1)) (by omega) (by omega) fun p t => ?_
  have e1 : tot (belS n C i) p t = if decide (p % (n : Int) < (i : Int)) = true then tot C p t else 0 := tot_filter (fun p => decide (p % (n : Int) < (i : Int))) p t
  have e2 : tot (shB n C i) p t = if decide (p % (n : Int) = (i : Int)) = true then tot C p t else 0 := tot_filter (fun p => decide (p % (n : Int) = (i : Int))) p t
  have e3 : tot (belS n C (i + 1)) p t = if decide (p % (n : Int) < ((i + 1 : Nat) : Int)) = true then tot C p t else 0 := tot_filter (fun p => decide (p % (n : Int) < ((i + 1 : Nat) : Int))) p t
  rw [h2, e1, e2, e3]
  simp only [decide_eq_true_eq]
  by_cases q1 : p % (n : Int) < (i : Int)
  · rw [if_pos q1, if_neg (by omega), if_pos (by omega)]; omega
  · by_cases q2 : p % (n : Int) = (i : Int)
    · rw [if_neg q1, if_pos q2, if_pos (by omega)]; omega
    · rw [if_neg q1, if_neg q2, if_neg (by omega)]; omega
/-- Where each shard is the same all is. -/
theorem belS_same (ha : Cg K N A) (hb : Cg K' N' B) (h0 : 0 ≤ K) (h0' : 0 ≤ K') (hK : K ≤ 576460752303423488) (hK' : K' ≤ 576460752303423488) {i : Nat} (hn : 1 ≤ n) (h : ∀ q, q < i → shB n A q = shB n B q) : belS n A i = belS n B i := by
  refine (belS_cg ha h0 i).ext (belS_cg hb h0' i) hK hK' fun p t => ?_
  have e1 : ∀ l, tot (belS n l i) p t = if decide (p % (n : Int) < (i : Int)) = true then tot l p t else 0 := fun l => tot_filter (fun p => decide (p % (n : Int) < (i : Int))) p t
  rw [e1, e1]
  by_cases q1 : p % (n : Int) < (i : Int)
  · have h2 := Int.emod_nonneg p (show (n : Int) ≠ 0 by omega)
    have e2 : ∀ l, tot (shB n l (p % (n : Int)).toNat) p t = tot l p t := fun l => by
      have := tot_filter (l := l) (fun x => decide (x % (n : Int) = ((p % (n : Int)).toNat : Int))) p t
      rw [if_pos (decide_eq_true (by omega))] at this
      exact this
    rw [← e2 A, ← e2 B, h _ (by omega)]
  · rw [if_neg (by simpa using q1), if_neg (by simpa using q1)]
end
end Go.Proofs.Ytmggnalobfihnaa.PlB
