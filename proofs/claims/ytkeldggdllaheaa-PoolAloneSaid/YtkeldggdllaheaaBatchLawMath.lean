/-
  PACKAGE batch, PLAIN MATHEMATICS OF THE LAWS: what Fix gives may be; merged in any order and either way of three it is the same; with its opposite it is nothing; the same just if each count is.
-/
import Derived.Test.YtkeldggdllaheaaJoined6
namespace Go.Proofs.Ytkeldggdllaheaa.Batch
open Go.RowKit
set_option linter.unusedVariables false

theorem firstWrong_zero {l : List Ch} (h : firstWrong l = 0) : ∀ x ∈ l, wrongN x = 0 := by
  induction l with
  | nil => simp
  | cons y r ih =>
    unfold firstWrong at h
    split at h
    · rename_i hn; exact absurd h hn
    · rename_i hn
      intro x hx
      rcases List.mem_cons.1 hx with rfl | hx
      · exact Decidable.not_not.1 hn
      · exact ih h x hx
def Fit (x : Ch) : Prop := 0 ≤ x.p ∧ x.p < 64 ∧ x.t ≠ 18446744073709551615
theorem fit_of_wrong {x : Ch} (h : wrongN x = 0) : Fit x := by
  unfold wrongN at h
  split at h
  · exact absurd h (by decide)
  · split at h
    · exact absurd h (by decide)
    · exact ⟨by omega, by omega, by assumption⟩
theorem wrong_of_fit {x : Ch} (h : Fit x) (ho : overB x.d = false) : wrongN x = 0 := by
  unfold wrongN
  rw [if_neg (by have := h.1; have := h.2.1; omega), if_neg h.2.2, if_neg (by rw [ho]; decide)]
theorem right_sum {l : List Ch} (hw : ∀ x ∈ l, x.Wf) (hf : ∀ x ∈ l, Fit x) (ho : overK l = false) : RightP (sumL l) := by
  have hs := sumL_is hw
  refine ⟨fun z hz => ⟨?_, ((hs.2 z).1 hz).1⟩, hs.1⟩
  obtain ⟨x, hx, hk⟩ := sumL_key hw z hz
  have hfx := hf x hx
  refine wrong_of_fit ⟨by rw [← hk.1]; exact hfx.1, by rw [← hk.1]; exact hfx.2.1, by rw [← hk.2]; exact hfx.2.2⟩ ?_
  cases e : overB z.d
  · rfl
  · have h1 : overK l = true := (overK_iff hw).2 ⟨z.p, z.t, by rw [← ((hs.2 z).1 hz).2]; exact e⟩
    rw [h1] at ho
    exact absurd ho (by decide)
theorem right_nil : RightP [] := ⟨by simp, by simp⟩
theorem right_sums {l : List Ch} (hw : ∀ x ∈ l, x.Wf) (hf : ∀ x ∈ l, Fit x) : RightP (sumsR l) := by
  unfold sumsR
  split
  · exact right_nil
  · rename_i h
    exact right_sum hw hf (by cases e : overK l <;> simp_all)
theorem pack_right {l : List Ch} (hw : ∀ x ∈ l, x.Wf) (h : packE l = 0) : RightP (packR l) := by
  unfold packE at h
  unfold packR
  split at h
  · exact absurd h (by decide)
  · split at h
    · rename_i h1; exact absurd h h1
    · rename_i h0 h1
      rw [if_neg (by intro hh; exact hh.elim h0 h1)]
      exact right_sums hw fun x hx => fit_of_wrong (firstWrong_zero (Decidable.not_not.1 h1) x hx)
theorem RightP.fit {l : List Ch} (h : RightP l) : ∀ x ∈ l, Fit x := fun x hx => fit_of_wrong (h.1 x hx).1
theorem RightP.sorted {l : List Ch} (h : RightP l) : Sorted l := h.2.imp fun h => h.asymm

/-- What Fix gives. -/
structure Nice (A : List Ch) : Prop where
  right : RightP A
  wf : ∀ x ∈ A, x.Wf
  lo : ∀ p t, -12000 ≤ tot A p t
  hi : ∀ p t, tot A p t ≤ 12000
  len : A.length ≤ 12
theorem fix_nice {l : List Ch} (h : ∀ x ∈ l, x.Wf) : Nice (fixL l) := by
  have hw : ∀ x ∈ (l.take 12).map fixC, x.Wf := by
    intro x hx
    obtain ⟨y, hy, rfl⟩ := List.mem_map.1 hx
    exact fixC_wf (h y (List.mem_of_mem_take hy))
  have hf : ∀ x ∈ (l.take 12).map fixC, Fit x := by
    intro x hx
    obtain ⟨y, hy, rfl⟩ := List.mem_map.1 hx
    have h1 := fixC_p y
    have h2 := fixC_t (h y (List.mem_of_mem_take hy))
    exact ⟨h1.1, h1.2, by omega⟩
  have hl : ((l.take 12).map fixC).length ≤ 12 := by rw [List.length_map, List.length_take]; omega
  have hd : ∀ x ∈ (l.take 12).map fixC, -999 ≤ x.d ∧ x.d ≤ 999 := by
    intro x hx
    obtain ⟨y, hy, rfl⟩ := List.mem_map.1 hx
    exact fixC_d y
  unfold fixL
  generalize (l.take 12).map fixC = L at *
  have hb : ∀ p t, -12000 ≤ tot L p t ∧ tot L p t ≤ 12000 := fun p t => by
    have := tot_bound (B := 999) hd (by decide) p t
    omega
  have ho : overK L = false := by
    cases e : overK L
    · rfl
    · obtain ⟨p, t, ho⟩ := (overK_iff hw).1 e
      have := hb p t
      rw [wr_id (by omega) (by omega)] at ho
      have := of_decide_eq_true ho
      omega
  rw [(sums_ok ho).2]
  refine ⟨right_sum hw hf ho, sumL_wf hw, fun p t => ?_, fun p t => ?_, Nat.le_trans (sumL_length L) hl⟩
  · have := hb p t
    rw [(sumL_is hw).tot, wr_id (by omega) (by omega)]
    omega
  · have := hb p t
    rw [(sumL_is hw).tot, wr_id (by omega) (by omega)]
    omega
theorem Nice.d {A : List Ch} (h : Nice A) : ∀ x ∈ A, -12000 ≤ x.d ∧ x.d ≤ 12000 := fun x hx => by
  have h1 := h.lo x.p x.t
  have h2 := h.hi x.p x.t
  rw [tot_one h.right.2 hx] at h1 h2
  exact ⟨h1, h2⟩
theorem no_over {l : List Ch} (hw : ∀ x ∈ l, x.Wf) (h : ∀ p t, -100000 ≤ tot l p t ∧ tot l p t ≤ 100000) : overK l = false := by
  cases e : overK l
  · rfl
  · obtain ⟨p, t, ho⟩ := (overK_iff hw).1 e
    have := h p t
    rw [wr_id (by omega) (by omega)] at ho
    have := of_decide_eq_true ho
    omega
theorem sum_tot {l : List Ch} (hw : ∀ x ∈ l, x.Wf) (h : ∀ p t, -100000 ≤ tot l p t ∧ tot l p t ≤ 100000) : sumsE l = 0 ∧ sumsR l = sumL l ∧ ∀ p t, tot (sumL l) p t = tot l p t := by
  have ho := sums_ok (no_over hw h)
  refine ⟨ho.1, ho.2, fun p t => ?_⟩
  have := h p t
  rw [(sumL_is hw).tot, wr_id (by omega) (by omega)]
theorem Nice.two {A B : List Ch} (ha : Nice A) (hb : Nice B) : sumsE (A ++ B) = 0 ∧ sumsR (A ++ B) = sumL (A ++ B) ∧ ∀ p t, tot (sumL (A ++ B)) p t = tot A p t + tot B p t := by
  have h := sum_tot (both_wf ha.wf hb.wf) fun p t => by
    have := ha.lo p t; have := ha.hi p t; have := hb.lo p t; have := hb.hi p t
    rw [tot_append]
    omega
  exact ⟨h.1, h.2.1, fun p t => by rw [h.2.2, tot_append]⟩
theorem Nice.comm {A B : List Ch} (ha : Nice A) (hb : Nice B) : sumsE (B ++ A) = sumsE (A ++ B) ∧ sumsR (B ++ A) = sumsR (A ++ B) :=
  sums_perm List.perm_append_comm (both_wf ha.wf hb.wf)
theorem Nice.right2 {A B : List Ch} (ha : Nice A) (hb : Nice B) : RightP (sumsR (A ++ B)) :=
  right_sums (both_wf ha.wf hb.wf) fun x hx => (List.mem_append.1 hx).elim (ha.right.fit x) (hb.right.fit x)
theorem Nice.assoc {A B C : List Ch} (ha : Nice A) (hb : Nice B) (hc : Nice C) : sumsR (sumsR (A ++ B) ++ C) = sumsR (A ++ sumsR (B ++ C)) := by
  have h1 := ha.two hb
  have h2 := hb.two hc
  rw [h1.2.1, h2.2.1]
  refine (sums_same (both_wf (sumL_wf (both_wf ha.wf hb.wf)) hc.wf) (both_wf ha.wf (sumL_wf (both_wf hb.wf hc.wf))) fun p t => ?_).2
  rw [tot_append, tot_append, h1.2.2, h2.2.2, Int.add_assoc]
theorem tot_minus {A : List Ch} (h : ∀ x ∈ A, -12000 ≤ x.d ∧ x.d ≤ 12000) (p t : Int) : tot (minusL A) p t = -tot A p t := by
  induction A with
  | nil => rfl
  | cons x r ih =>
    have hx := h x (by simp)
    have := ih fun y hy => h y (by simp [hy])
    have e : minusL (x :: r) = negC x :: minusL r := rfl
    rw [e]
    simp only [tot]
    rw [this]
    have e2 : (negC x).d = -x.d := wr_id (by omega) (by omega)
    have e3 : (negC x).p = x.p := rfl
    have e4 : (negC x).t = x.t := rfl
    rw [e2, e3, e4]
    split <;> omega
theorem Nice.back {A : List Ch} (h : Nice A) : sumsE (A ++ minusL A) = 0 ∧ sumsR (A ++ minusL A) = [] := by
  have hw := both_wf h.wf (minusL_wf h.wf)
  have ht : ∀ p t, tot (A ++ minusL A) p t = 0 := fun p t => by rw [tot_append, tot_minus h.d]; omega
  have hs := sum_tot hw fun p t => by rw [ht]; omega
  refine ⟨hs.1, ?_⟩
  rw [hs.2.1]
  rw [List.eq_nil_iff_forall_not_mem]
  intro z hz
  have := ((sumL_is hw).2 z).1 hz
  rw [ht] at this
  exact this.1 (this.2.trans (by decide))
theorem minus_sorted {A : List Ch} (h : RightP A) : Sorted (minusL A) := by
  unfold Sorted minusL
  rw [List.pairwise_map]
  exact h.2.imp fun h => h.asymm
theorem minus_length (A : List Ch) : (minusL A).length = A.length := by unfold minusL; rw [List.length_map]

/-! the same just if each count is -/
theorem sub_of {A B : List Ch} (ha : RightP A) (hb : RightP B) (h : ∀ x ∈ A, tot B x.p x.t = x.d) : ∀ z ∈ A, z ∈ B := by
  intro z hz
  by_cases hk : ∃ y ∈ B, y.p = z.p ∧ y.t = z.t
  · obtain ⟨y, hy, hp, ht⟩ := hk
    have h1 := tot_one hb.2 hy
    rw [hp, ht, h z hz] at h1
    obtain ⟨a, b, c⟩ := y
    obtain ⟨a', b', c'⟩ := z
    simp only at hp ht h1
    subst hp ht h1
    exact hy
  · have := h z hz
    rw [tot_none (fun y hy hyk => hk ⟨y, hy, hyk⟩)] at this
    exact absurd this.symm (ha.1 z hz).2
theorem once {A B : List Ch} (ha : RightP A) (hb : RightP B) : A = B ↔ (∀ x ∈ A, tot B x.p x.t = x.d) ∧ (∀ x ∈ B, tot A x.p x.t = x.d) := by
  constructor
  · rintro rfl
    exact ⟨fun x hx => tot_one ha.2 hx, fun x hx => tot_one ha.2 hx⟩
  · rintro ⟨h1, h2⟩
    exact rising_ext ha.2 hb.2 fun z => ⟨sub_of ha hb h1 z, sub_of hb ha h2 z⟩
end Go.Proofs.Ytkeldggdllaheaa.Batch
