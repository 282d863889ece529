/-
  PACKAGE marchlandlaw11: told.
  PACKAGE batch, PLAIN MATHEMATICS OF THE LAWS: what Fix gives may be; merged in any order and either way of three it is the same; with its opposite it is nothing; the same just if each count is.
-/
import Derived.Test.YtjmkcgkkgamafaaRgQs
import Derived.Test.YtjmkcgkkgamafaaRgAlone
import Derived.Test.YtjmkcgkkgamafaaJoined12
namespace Go.Proofs.Ytjmkcgkkgamafaa.Rg
open Go.RowKit Rw Pk Go.Maps Mm
set_option linter.unusedVariables false
theorem gi_init {N : Nat} (hN : 1 ≤ N) : Gi N [] 0 0 0 0 [] 0 [] 0 (initS 4 (N + 2) 0) :=
  ⟨good_init 4 (N + 2) 0, fun _ => rfl, rfl, rfl, rfl, Nat.zero_le _, hN, fun i z h => by simp at h, by omega, by omega, by omega, by omega⟩
theorem rgch_new (w : World) (p t d : Int) (T : TypeId) (hw : (⟨p, t, d⟩ : Batch.Ch).Wf) : Batch.Sl (w.alloc (.cells #[.int .i64 p, .int .u64 t, .int .i64 d] T)) (.slice (some ⟨w.heap.size, 0, none⟩) 1 1) [⟨p, t, d⟩] := by
  have h := heap_alloc_new w (.cells #[.int .i64 p, .int .u64 t, .int .i64 d] T)
  have hc : ∀ o, (w.alloc (.cells #[.int .i64 p, .int .u64 t, .int .i64 d] T)).cell? ⟨w.heap.size, o, none⟩ = #[Value.int .i64 p, .int .u64 t, .int .i64 d][o]? := fun o => cell_of_row _ _ _ _ _ _ h
  refine ⟨_, _, rfl, .inr ⟨w.heap.size, 0, rfl, fun i x hx => ?_⟩, Nat.le_refl _, by decide, fun x hx => by simp at hx; subst hx; exact hw⟩
  cases i with
  | succ k => simp at hx
  | zero =>
    simp at hx
    subst hx
    exact ⟨hc _, hc _, hc _⟩
theorem rgch_wf : (⟨0, 5, 1⟩ : Batch.Ch).Wf := ⟨by decide, by decide, by decide, by decide, by decide, by decide⟩
set_option maxRecDepth 1000000 in
set_option maxHeartbeats 8000000 in
theorem rgtold_any (w : World) :
    Calls Try.prog 13 #[] w fun e w' => e = .returned (.bool true) ∧ Below w.heap.size w w' := by
  go_enter Try.func13, Try.ntmps13
  go_wp2_with fail
  go_at_call 12
  refine (rgbegin_any (N := 1) (.inl rfl) w).mono ?_
  rintro e w1 ⟨p, r, zs, rfl, hq⟩
  have HQ := Lib.hid hq
  have HG0 := Lib.hid (gi_init (N := 1) (Nat.le_refl _))
  clear hq
  go_wp2_with fail
  go_at_call 25
  have hb1 : Below w1.heap.size w1 (w1.alloc (.cells #[.int .i64 0, .int .u64 5, .int .i64 1] 85)) := (Below.refl _ _).alloc (Nat.le_refl _) _
  refine (rgpush_yes (HQ.out.below hb1) rfl 0 (rgch_new w1 0 5 1 _ rgch_wf) (by decide) (fun g hg => by
    have e : w1.heap.size = g := by simpa [Value.ownBlock] using hg
    have := HQ.out.ri.lt
    omega)).mono ?_
  rintro e w2 ⟨a, rfl, ha, bv, zs1, z1, z2, hg⟩
  have HG := Lib.hid (show Rg w.heap.size w w1 [] zs1 a r ⟨p, 1, 1, ((1 : Nat) : Int), true, false⟩ ⟨r, 0, false, bv, 0, 0, 0, false, false, 0⟩ [⟨0, 5, 1⟩] (initS 4 (1 + 2) 0) w2 from hg)
  clear hg hb1
  go_wp2_with fail
  go_at_call 17
  refine (alone_push_ok HG.out (HG0.out.pushN [⟨0, 5, 1⟩]) (by decide) (by decide) (by decide) (by decide) ⟨by decide, by simp; exact rgch_wf⟩ (by decide)).mono ?_
  rintro e w3 ⟨rfl, M1, g1, hl1, hr⟩
  have HG1 := Lib.hid g1
  have HR := Lib.hid hr
  clear g1 hr hl1
  go_wp2_with fail
  go_at_call 19
  refine (rgok_any HR.out.ac).mono ?_
  rintro e w4 ⟨rfl, rfl⟩
  go_wp2_with fail
  go_at_call 25
  refine (rgpush_yes (HR.out.ring (by simp)) rfl 0 (Batch.Sl.nil _) (by decide) (fun g hg => by simp [Value.ownBlock] at hg)).mono ?_
  rintro e w5 ⟨b, rfl, hb, bv2, zs2, z3, z4, hg⟩
  have HG := Lib.hid (show Rg w.heap.size w w1 [] zs2 b r ⟨p, 1, 1, ((1 : Nat) : Int), true, false⟩ ⟨r, 0, false, bv2, 0, 0, 0, false, false, 0⟩ [] M1 w5 from hg)
  clear hg
  go_wp2_with fail
  go_at_call 17
  refine (alone_push_no HG.out (HG1.out.pushN []) (by decide) (by decide) (by decide) (by decide) rfl).mono ?_
  rintro e w6 ⟨rfl, M2, g2, hl2, hr⟩
  have HG2 := Lib.hid g2
  have HR2 := Lib.hid hr
  clear g2 hr
  go_wp2_with fail
  go_at_call 19
  refine (rgok_any HR2.out.ac).mono ?_
  rintro e w7 ⟨rfl, rfl⟩
  go_wp2_with fail
  go_at_call 15
  refine (rgpop_yes ((HR2.out.ring (by simp)).rebase (fs' := [b]) (by intro j hj; obtain rfl := List.mem_singleton.1 hj; exact HR2.out.am)) rfl 1).mono ?_
  rintro e w8 ⟨c, rfl, hc, zs3, z5, z6, hg⟩
  have HG := Lib.hid (show Rg w.heap.size w w6 [b] zs3 c r ⟨p, 1, 1, ((1 : Nat) : Int), false, true⟩ ⟨r, 1, true, .slice none 0 0, 0, 0, 0, false, false, 0⟩ [] M2 w8 from hg)
  have HBC := Lib.hid (show b ≠ c ∧ b ≠ r from ⟨fun e => by have := HR2.out.ac.lt; omega, HR2.out.ne⟩)
  clear hg
  go_wp2_with fail
  go_at_call 17
  refine (alone_pop_ok HG.out HG2.out (by decide) (by decide) (by decide) (by decide) (by simp)).mono ?_
  rintro e w9 ⟨rfl, M3, b', v3, zs4, he3, g3, hl3, z7, z8, hr⟩
  obtain rfl : b' = [⟨0, 5, 1⟩] := by simpa using he3.symm
  have HR3 := Lib.hid hr
  have HAB := Lib.hid (HR2.out.ac.of_block (HR3.out.fr b (by simp) HBC.out.1 HBC.out.2))
  have hm1 : (M2.lg.length : Int) < (M3.lg.length : Int) := by omega
  have hm2 : (0 : Int) < (M2.lg.length : Int) := by omega
  clear g3 hr he3 hl2 hl3
  go_wp2_with fail
  go_at_call 19
  refine (rgok_any HR3.out.ac).mono ?_
  rintro e w10 ⟨rfl, rfl⟩
  go_wp2_with fail
  go_at_call 22
  refine (rgbatch_any HR3.out.ac HR3.out.sl (by decide)).mono ?_
  rintro e w11 ⟨v4, rfl, ho, hb4⟩
  obtain ⟨g4, c4, rfl⟩ : ∃ g c, v4 = .slice (some ⟨g, 0, none⟩) 1 c := by
    rcases Batch.Own.form ho with ⟨h, _⟩ | ⟨g, c, h, _⟩
    · cases h
    · exact ⟨g, c, h⟩
  have HB4 := Lib.hid hb4
  clear ho hb4
  go_wp2_with fail
  go_at_call 22
  have hr4 := HR3.out.below HB4.out
  refine (rgbatch_any hr4.ac hr4.sl (by decide)).mono ?_
  rintro e w12 ⟨v5, rfl, ho, hb5⟩
  obtain ⟨g5, c5, rfl, _, _⟩ : ∃ g c, v5 = .slice (some ⟨g, 0, none⟩) 1 c ∧ True ∧ True := by
    rcases Batch.Own.form ho with ⟨h, _⟩ | ⟨g, c, h, _⟩
    · cases h
    · exact ⟨g, c, h, trivial, trivial⟩
  obtain ⟨d0, d1, d2⟩ := Batch.Own.at ho (i := 0) rfl
  have HB5 := Lib.hid hb5
  have HR5 := Lib.hid (hr4.below hb5)
  have HAB5 := Lib.hid ((HAB.out.of_block (HB4.out.block b HAB.out.lt)))
  have HAB6 := Lib.hid ((HAB5.out.of_block (HB5.out.block b HAB5.out.lt)))
  clear ho hb5 hr4
  go_wp2_with fail
  go_at_call 23
  refine (rgmark_any HR5.out.ac).mono ?_
  rintro e w13 ⟨rfl, rfl⟩
  go_wp2_with fail
  go_at_call 23
  refine (rgmark_any HAB6.out).mono ?_
  rintro e w14 ⟨rfl, rfl⟩
  go_wp2_with fail
  go_at_call 23
  refine (rgmark_any HAB6.out).mono ?_
  rintro e w15 ⟨rfl, rfl⟩
  go_wp2_with fail
  go_ret
  exact ⟨pbool (decide_eq_true (by omega)), HR5.out.mz.kept⟩
end Go.Proofs.Ytjmkcgkkgamafaa.Rg
namespace Go.Proofs.Ytjmkcgkkgamafaa.Batch
open Go.RowKit
set_option linter.unusedVariables false

theorem firstWrong_zero {l : List Ch} (h : firstWrong l = 0) : ∀ x ∈ l, wrongN x = 0 := by
  induction l with
  | nil => simp
  | cons y r ih =>
    unfold firstWrong at h
    split at h
    · rename_i hn; exact absurd h hn
    · rename_i hn
      intro x hx
      rcases List.mem_cons.1 hx with rfl | hx
      · exact Decidable.not_not.1 hn
      · exact ih h x hx
def Fit (x : Ch) : Prop := 0 ≤ x.p ∧ x.p < 64 ∧ x.t ≠ 18446744073709551615
theorem fit_of_wrong {x : Ch} (h : wrongN x = 0) : Fit x := by
  unfold wrongN at h
  split at h
  · exact absurd h (by decide)
  · split at h
    · exact absurd h (by decide)
    · exact ⟨by omega, by omega, by assumption⟩
theorem wrong_of_fit {x : Ch} (h : Fit x) (ho : overB x.d = false) : wrongN x = 0 := by
  unfold wrongN
  rw [if_neg (by have := h.1; have := h.2.1; omega), if_neg h.2.2, if_neg (by rw [ho]; decide)]
theorem right_sum {l : List Ch} (hw : ∀ x ∈ l, x.Wf) (hf : ∀ x ∈ l, Fit x) (ho : overK l = false) : RightP (sumL l) := by
  have hs := sumL_is hw
  refine ⟨fun z hz => ⟨?_, ((hs.2 z).1 hz).1⟩, hs.1⟩
  obtain ⟨x, hx, hk⟩ := sumL_key hw z hz
  have hfx := hf x hx
  refine wrong_of_fit ⟨by rw [← hk.1]; exact hfx.1, by rw [← hk.1]; exact hfx.2.1, by rw [← hk.2]; exact hfx.2.2⟩ ?_
  cases e : overB z.d
  · rfl
  · have h1 : overK l = true := (overK_iff hw).2 ⟨z.p, z.t, by rw [← ((hs.2 z).1 hz).2]; exact e⟩
    rw [h1] at ho
    exact absurd ho (by decide)
theorem right_nil : RightP [] := ⟨by simp, by simp⟩
theorem right_sums {l : List Ch} (hw : ∀ x ∈ l, x.Wf) (hf : ∀ x ∈ l, Fit x) : RightP (sumsR l) := by
  unfold sumsR
  split
  · exact right_nil
  · rename_i h
    exact right_sum hw hf (by cases e : overK l <;> simp_all)
theorem pack_right {l : List Ch} (hw : ∀ x ∈ l, x.Wf) (h : packE l = 0) : RightP (packR l) := by
  unfold packE at h
  unfold packR
  split at h
  · exact absurd h (by decide)
  · split at h
    · rename_i h1; exact absurd h h1
    · rename_i h0 h1
      rw [if_neg (by intro hh; exact hh.elim h0 h1)]
      exact right_sums hw fun x hx => fit_of_wrong (firstWrong_zero (Decidable.not_not.1 h1) x hx)
theorem RightP.fit {l : List Ch} (h : RightP l) : ∀ x ∈ l, Fit x := fun x hx => fit_of_wrong (h.1 x hx).1
theorem RightP.sorted {l : List Ch} (h : RightP l) : Sorted l := h.2.imp fun h => h.asymm

/-- What Fix gives. -/
structure Nice (A : List Ch) : Prop where
  right : RightP A
  wf : ∀ x ∈ A, x.Wf
  lo : ∀ p t, -12000 ≤ tot A p t
  hi : ∀ p t, tot A p t ≤ 12000
  len : A.length ≤ 12
theorem fix_nice {l : List Ch} (h : ∀ x ∈ l, x.Wf) : Nice (fixL l) := by
  have hw : ∀ x ∈ (l.take 12).map fixC, x.Wf := by
    intro x hx
    obtain ⟨y, hy, rfl⟩ := List.mem_map.1 hx
    exact fixC_wf (h y (List.mem_of_mem_take hy))
  have hf : ∀ x ∈ (l.take 12).map fixC, Fit x := by
    intro x hx
    obtain ⟨y, hy, rfl⟩ := List.mem_map.1 hx
    have h1 := fixC_p y
    have h2 := fixC_t (h y (List.mem_of_mem_take hy))
    exact ⟨h1.1, h1.2, by omega⟩
  have hl : ((l.take 12).map fixC).length ≤ 12 := by rw [List.length_map, List.length_take]; omega
  have hd : ∀ x ∈ (l.take 12).map fixC, -999 ≤ x.d ∧ x.d ≤ 999 := by
    intro x hx
    obtain ⟨y, hy, rfl⟩ := List.mem_map.1 hx
    exact fixC_d y
  unfold fixL
  generalize (l.take 12).map fixC = L at *
  have hb : ∀ p t, -12000 ≤ tot L p t ∧ tot L p t ≤ 12000 := fun p t => by
    have := tot_bound (B := 999) hd (by decide) p t
    omega
  have ho : overK L = false := by
    cases e : overK L
    · rfl
    · obtain ⟨p, t, ho⟩ := (overK_iff hw).1 e
      have := hb p t
      rw [wr_id (by omega) (by omega)] at ho
      have := of_decide_eq_true ho
      omega
  rw [(sums_ok ho).2]
  refine ⟨right_sum hw hf ho, sumL_wf hw, fun p t => ?_, fun p t => ?_, Nat.le_trans (sumL_length L) hl⟩
  · have := hb p t
    rw [(sumL_is hw).tot, wr_id (by omega) (by omega)]
    omega
  · have := hb p t
    rw [(sumL_is hw).tot, wr_id (by omega) (by omega)]
    omega
theorem Nice.d {A : List Ch} (h : Nice A) : ∀ x ∈ A, -12000 ≤ x.d ∧ x.d ≤ 12000 := fun x hx => by
  have h1 := h.lo x.p x.t
  have h2 := h.hi x.p x.t
  rw [tot_one h.right.2 hx] at h1 h2
  exact ⟨h1, h2⟩
theorem no_over {l : List Ch} (hw : ∀ x ∈ l, x.Wf) (h : ∀ p t, -100000 ≤ tot l p t ∧ tot l p t ≤ 100000) : overK l = false := by
  cases e : overK l
  · rfl
  · obtain ⟨p, t, ho⟩ := (overK_iff hw).1 e
    have := h p t
    rw [wr_id (by omega) (by omega)] at ho
    have := of_decide_eq_true ho
    omega
theorem sum_tot {l : List Ch} (hw : ∀ x ∈ l, x.Wf) (h : ∀ p t, -100000 ≤ tot l p t ∧ tot l p t ≤ 100000) : sumsE l = 0 ∧ sumsR l = sumL l ∧ ∀ p t, tot (sumL l) p t = tot l p t := by
  have ho := sums_ok (no_over hw h)
  refine ⟨ho.1, ho.2, fun p t => ?_⟩
  have := h p t
  rw [(sumL_is hw).tot, wr_id (by omega) (by omega)]
theorem Nice.two {A B : List Ch} (ha : Nice A) (hb : Nice B) : sumsE (A ++ B) = 0 ∧ sumsR (A ++ B) = sumL (A ++ B) ∧ ∀ p t, tot (sumL (A ++ B)) p t = tot A p t + tot B p t := by
  have h := sum_tot (both_wf ha.wf hb.wf) fun p t => by
    have := ha.lo p t; have := ha.hi p t; have := hb.lo p t; have := hb.hi p t
    rw [tot_append]
    omega
  exact ⟨h.1, h.2.1, fun p t => by rw [h.2.2, tot_append]⟩
theorem Nice.comm {A B : List Ch} (ha : Nice A) (hb : Nice B) : sumsE (B ++ A) = sumsE (A ++ B) ∧ sumsR (B ++ A) = sumsR (A ++ B) :=
  sums_perm List.perm_append_comm (both_wf ha.wf hb.wf)
theorem Nice.right2 {A B : List Ch} (ha : Nice A) (hb : Nice B) : RightP (sumsR (A ++ B)) :=
  right_sums (both_wf ha.wf hb.wf) fun x hx => (List.mem_append.1 hx).elim (ha.right.fit x) (hb.right.fit x)
theorem Nice.assoc {A B C : List Ch} (ha : Nice A) (hb : Nice B) (hc : Nice C) : sumsR (sumsR (A ++ B) ++ C) = sumsR (A ++ sumsR (B ++ C)) := by
  have h1 := ha.two hb
  have h2 := hb.two hc
  rw [h1.2.1, h2.2.1]
  refine (sums_same (both_wf (sumL_wf (both_wf ha.wf hb.wf)) hc.wf) (both_wf ha.wf (sumL_wf (both_wf hb.wf hc.wf))) fun p t => ?_).2
  rw [tot_append, tot_append, h1.2.2, h2.2.2, Int.add_assoc]
theorem tot_minus {A : List Ch} (h : ∀ x ∈ A, -12000 ≤ x.d ∧ x.d ≤ 12000) (p t : Int) : tot (minusL A) p t = -tot A p t := by
  induction A with
  | nil => rfl
  | cons x r ih =>
    have hx := h x (by simp)
    have := ih fun y hy => h y (by simp [hy])
    have e : minusL (x :: r) = negC x :: minusL r := rfl
    rw [e]
    simp only [tot]
    rw [this]
    have e2 : (negC x).d = -x.d := wr_id (by omega) (by omega)
    have e3 : (negC x).p = x.p := rfl
    have e4 : (negC x).t = x.t := rfl
    rw [e2, e3, e4]
    split <;> omega
theorem Nice.back {A : List Ch} (h : Nice A) : sumsE (A ++ minusL A) = 0 ∧ sumsR (A ++ minusL A) = [] := by
  have hw := both_wf h.wf (minusL_wf h.wf)
  have ht : ∀ p t, tot (A ++ minusL A) p t = 0 := fun p t => by rw [tot_append, tot_minus h.d]; omega
  have hs := sum_tot hw fun p t => by rw [ht]; omega
  refine ⟨hs.1, ?_⟩
  rw [hs.2.1]
  rw [List.eq_nil_iff_forall_not_mem]
  intro z hz
  have := ((sumL_is hw).2 z).1 hz
  rw [ht] at this
  exact this.1 (this.2.trans (by decide))
theorem minus_sorted {A : List Ch} (h : RightP A) : Sorted (minusL A) := by
  unfold Sorted minusL
  rw [List.pairwise_map]
  exact h.2.imp fun h => h.asymm
theorem minus_length (A : List Ch) : (minusL A).length = A.length := by unfold minusL; rw [List.length_map]

/-! the same just if each count is -/
theorem sub_of {A B : List Ch} (ha : RightP A) (hb : RightP B) (h : ∀ x ∈ A, tot B x.p x.t = x.d) : ∀ z ∈ A, z ∈ B := by
  intro z hz
  by_cases hk : ∃ y ∈ B, y.p = z.p ∧ y.t = z.t
  · obtain ⟨y, hy, hp, ht⟩ := hk
    have h1 := tot_one hb.2 hy
    rw [hp, ht, h z hz] at h1
    obtain ⟨a, b, c⟩ := y
    obtain ⟨a', b', c'⟩ := z
    simp only at hp ht h1
    subst hp ht h1
    exact hy
  · have := h z hz
    rw [tot_none (fun y hy hyk => hk ⟨y, hy, hyk⟩)] at this
    exact absurd this.symm (ha.1 z hz).2
theorem once {A B : List Ch} (ha : RightP A) (hb : RightP B) : A = B ↔ (∀ x ∈ A, tot B x.p x.t = x.d) ∧ (∀ x ∈ B, tot A x.p x.t = x.d) := by
  constructor
  · rintro rfl
    exact ⟨fun x hx => tot_one ha.2 hx, fun x hx => tot_one ha.2 hx⟩
  · rintro ⟨h1, h2⟩
    exact rising_ext ha.2 hb.2 fun z => ⟨sub_of ha hb h1 z, sub_of hb ha h2 z⟩
end Go.Proofs.Ytjmkcgkkgamafaa.Batch
