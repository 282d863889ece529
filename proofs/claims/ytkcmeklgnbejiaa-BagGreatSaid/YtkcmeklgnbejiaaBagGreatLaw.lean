
/-
  THE LAW BagGreat, walked.
-/
import Derived.Test.YtkcmeklgnbejiaaBagTold
import Derived.Test.YtkcmeklgnbejiaaBatchRefFix
import Derived.IntWalk
namespace Go.Proofs.Ytkcmeklgnbejiaa.Batch
open Go.RowKit
set_option linter.unusedVariables false

theorem lone_tab (P T V0 V1 : Int) : tab ([⟨P, T, V0⟩] ++ [⟨P, T, V1⟩]) = [⟨P, T, wr (V0 + V1)⟩] := by
  show add ⟨P, T, V1⟩ [⟨P, T, V0⟩] = _
  unfold add
  rw [if_neg (fun h => h.not_key ⟨rfl, rfl⟩), if_pos ⟨rfl, rfl⟩]
theorem lone_tot (P T V : Int) : tot [⟨P, T, V⟩] P T = V := by simp [tot]
theorem lone_right {V : Int} (h0 : -576460752303423488 ≤ V) (h1 : V ≤ 576460752303423488) (h : V ≠ 0) : RightP [⟨3, 4, V⟩] :=
  one_right (wrong_of_fit ⟨by simp only; omega, by simp only; omega, by simp only; omega⟩ (decide_eq_false (by simp only; omega))) h
theorem lone_wf {V : Int} (h0 : -576460752303423488 ≤ V) (h1 : V ≤ 576460752303423488) : ∀ x ∈ [(⟨3, 4, V⟩ : Ch)], x.Wf := by
  intro x hx
  simp at hx
  subst hx
  exact ⟨by simp only; omega, by simp only; omega, by simp only; omega, by simp only; omega, by simp only; omega, by simp only; omega⟩
theorem lone_neg {A C : Int} (h : A + C < 0) : applyE [⟨3, 4, A⟩] [⟨3, 4, C⟩] = 11 ∧ applyR [⟨3, 4, A⟩] [⟨3, 4, C⟩] = [] :=
  apply_neg (anyNeg_at (x := ⟨3, 4, C⟩) (by simp) (by rw [lone_tot]; exact h))
theorem lone_not {A C : Int} (h : ¬ A + C < 0) : anyNeg [⟨3, 4, A⟩] [⟨3, 4, C⟩] = false :=
  anyNeg_no fun x hx => by simp at hx; subst hx; rw [lone_tot]; exact h
theorem lone_over {A C : Int} (hA : A ≤ 576460752303423488) (hC : C ≤ 576460752303423488) (h : 576460752303423488 < A + C) : applyE [⟨3, 4, A⟩] [⟨3, 4, C⟩] = 10 ∧ applyR [⟨3, 4, A⟩] [⟨3, 4, C⟩] = [] := by
  have h1 := apply_not (lone_not (A := A) (C := C) (by omega))
  have h2 : overK ([⟨3, 4, A⟩] ++ [⟨3, 4, C⟩]) = true := by
    unfold overK
    rw [lone_tab, wr_id (by omega) (by omega)]
    simp only [List.any_cons, List.any_nil, Bool.or_false]
    exact decide_eq_true (.inr h)
  have h3 := sums_over h2
  exact ⟨h1.1.trans h3.1, h1.2.trans h3.2⟩
theorem lone_ok {A C : Int} (h0 : ¬ A + C < 0) (h : ¬ 576460752303423488 < A + C) : applyE [⟨3, 4, A⟩] [⟨3, 4, C⟩] = 0 ∧ applyR [⟨3, 4, A⟩] [⟨3, 4, C⟩] = if A + C = 0 then [] else [⟨3, 4, A + C⟩] := by
  have h1 := apply_not (lone_not h0)
  have h2 : overK ([⟨3, 4, A⟩] ++ [⟨3, 4, C⟩]) = false := by
    unfold overK
    rw [lone_tab, wr_id (by omega) (by omega)]
    simp only [List.any_cons, List.any_nil, Bool.or_false]
    exact decide_eq_false (by omega)
  have h3 := sums_ok h2
  refine ⟨h1.1.trans h3.1, h1.2.trans (h3.2.trans ?_)⟩
  unfold sumL
  rw [lone_tab, wr_id (by omega) (by omega)]
  unfold nzB
  by_cases h0 : A + C = 0
  · rw [if_pos h0]; simp [h0]
  · rw [if_neg h0]; simp [h0]

set_option maxRecDepth 1000000 in
set_option maxHeartbeats 8000000 in
theorem baggreat_any (w : World) (n d : Int) :
    Calls Try.prog 5 #[.int .i64 n, .int .i64 d] w fun e w' => e = .returned (.bool true) ∧ Below w.heap.size w w' := by
  have hr := tmod_pos (u64_wrap_range n).1 (show (0 : Int) < 576460752303423488 by decide)
  have h1 := Int.tmod_lt_of_pos d (show (0 : Int) < 576460752303423489 by decide)
  have h2 := Int.tmod_lt_of_pos (-d) (show (0 : Int) < 576460752303423489 by decide)
  rw [Int.neg_tmod] at h2
  obtain ⟨A, hA⟩ : ∃ A, wrap64 (1 + wrap64 ((IntKind.u64.wrap n).tmod 576460752303423488)) = A := ⟨_, rfl⟩
  have hA' : wrap64 (1 + IntKind.i64.wrap ((IntKind.u64.wrap n).tmod 576460752303423488)) = A := by rw [← hA, wrap64_wr, wrap64_wr, wrap64_wr, wr_i64]
  have hA'' : IntKind.i64.wrap (1 + wrap64 ((IntKind.u64.wrap n).tmod 576460752303423488)) = A := by rw [← hA, wrap64_wr, wrap64_wr, wr_i64]
  have hA0 : 1 ≤ A ∧ A ≤ 576460752303423488 := by rw [← hA, wrap64_wr, wrap64_wr]; unfold wr; omega
  have hA1 := hA0.2
  replace hA0 := hA0.1
  obtain ⟨D, hD⟩ : ∃ D, d.tmod 576460752303423489 = D := ⟨_, rfl⟩
  rw [hD] at h1 h2
  clear hr
  by_cases hz : D = 0
  case' pos =>
    have he : (D == 0) = true := by rw [beq_iff_eq]; exact hz
    obtain ⟨C, hC⟩ : ∃ C : Int, C = -1 := ⟨_, rfl⟩
  case' neg =>
    have he : (D == 0) = false := by rw [beq_eq_false_iff_ne]; exact hz
    obtain ⟨C, hC⟩ : ∃ C : Int, C = D := ⟨_, rfl⟩
  all_goals
    have hC0 : -576460752303423488 ≤ C := by omega
    have hC1 : C ≤ 576460752303423488 := by omega
    have hCn : C ≠ 0 := by omega
    have HC := Lib.hid hC
    have H1 := Lib.hid (sl_new w [⟨3, 4, A⟩] 46 (lone_wf (by omega) (by omega)) (by simp))
    have H2 := Lib.hid (sl_new (w.alloc (.cells (cellsL [⟨3, 4, A⟩]).toArray 46)) [⟨3, 4, C⟩] 46 (lone_wf (by omega) (by omega)) (by simp))
    have HB := Lib.hid (show Below w.heap.size w (w.alloc (.cells (cellsL [⟨3, 4, A⟩]).toArray 46)) from (Below.refl _ _).alloc (Nat.le_refl _) _)
    have hsz : (w.alloc (.cells (cellsL [⟨3, 4, A⟩]).toArray 46)).heap.size = w.heap.size + 1 := by simp
    replace H2 := Lib.hid (by have h := H2.out; rw [hsz] at h; exact h)
    clear hsz
    have HB2 := Lib.hid (show Below (w.alloc (.cells (cellsL [⟨3, 4, A⟩]).toArray 46)).heap.size (w.alloc (.cells (cellsL [⟨3, 4, A⟩]).toArray 46)) ((w.alloc (.cells (cellsL [⟨3, 4, A⟩]).toArray 46)).alloc (.cells (cellsL [⟨3, 4, C⟩]).toArray 46)) from (Below.refl _ _).alloc (Nat.le_refl _) _)
    replace HB := Lib.hid (HB.out.trans (HB2.out.mono HB.out.size))
    replace H1 := Lib.hid (H1.out.below HB2.out)
    have HAP := Lib.hid (apply_any H1.out H2.out (lone_right (by omega) (by omega) (by omega)) (lone_right (by omega) (by omega) hCn) (by simp))
    have HAW := Lib.hid (applyR_wf (B := [⟨3, 4, A⟩]) (C := [⟨3, 4, C⟩]) (lone_wf (by omega) (by omega)) (lone_wf (by omega) (by omega)))
    have HAR := Lib.hid (applyR_right (B := [⟨3, 4, A⟩]) (C := [⟨3, 4, C⟩]) (lone_right (by omega) (by omega) (by omega)) (lone_right (by omega) (by omega) hCn) (lone_wf (by omega) (by omega)) (lone_wf (by omega) (by omega)))
    clear HB2 hz hC hCn h1 h2 H1 H2
    by_cases hn : A + C < 0
    · have HR := Lib.hid (lone_neg hn)
      first
        | (exfalso; have hh := HC.out; omega)
        | (obtain rfl := HC.out
           go_enter Try.func5, Try.ntmps5
           go_wp2_with fail
           go_at_call 13
           refine HAP.out.mono ?_
           rw [HR.out.1, HR.out.2]
           rintro e w1 ⟨v1, rfl, hown, hb⟩
           replace HB := Lib.hid (HB.out.trans (hb.mono HB.out.size))
           rw [HR.out.2] at HAW HAR
           have HX := Lib.hid (hown.sl HAW.out)
           obtain ⟨ao1, cap1, rfl, _⟩ := hown.form'
           clear hown hb HAP
           go_wp2_with fail
           go_at_call 15
           refine (bagtold_any _).mono ?_
           rintro e w2 ⟨rfl, hb⟩
           replace HB := Lib.hid (HB.out.trans (hb.mono HB.out.size))
           replace HX := Lib.hid (HX.out.below hb)
           clear hb
           go_wp2_with fail
           go_ret
           exact ⟨rfl, HB.out⟩)
    · by_cases hm : 576460752303423488 < A + C
      · have HR := Lib.hid (lone_over hA1 hC1 hm)
        first
          | (exfalso; have hh := HC.out; omega)
          | (obtain rfl := HC.out
             go_enter Try.func5, Try.ntmps5
             go_wp2_with fail
             go_at_call 13
             refine HAP.out.mono ?_
             rw [HR.out.1, HR.out.2]
             rintro e w1 ⟨v1, rfl, hown, hb⟩
             replace HB := Lib.hid (HB.out.trans (hb.mono HB.out.size))
             rw [HR.out.2] at HAW HAR
             have HX := Lib.hid (hown.sl HAW.out)
             obtain ⟨ao1, cap1, rfl, _⟩ := hown.form'
             clear hown hb HAP
             go_wp2_with fail
             go_at_call 15
             refine (bagtold_any _).mono ?_
             rintro e w2 ⟨rfl, hb⟩
             replace HB := Lib.hid (HB.out.trans (hb.mono HB.out.size))
             replace HX := Lib.hid (HX.out.below hb)
             clear hb
             go_wp2_with fail
             go_ret
             exact ⟨rfl, HB.out⟩)
      · by_cases h0 : A + C = 0
        · have HR := Lib.hid (show applyE [⟨3, 4, A⟩] [⟨3, 4, C⟩] = 0 ∧ applyR [⟨3, 4, A⟩] [⟨3, 4, C⟩] = [] by have h := lone_ok hn hm; rw [if_pos h0] at h; exact h)
          have e0 : (A + C == 0) = true := by rw [beq_iff_eq]; exact h0
          have e1 : ((0 : Int) == A + C) = true := by rw [beq_iff_eq]; exact h0.symm
          clear h0
          obtain rfl := HC.out
          go_enter Try.func5, Try.ntmps5
          go_wp2_with fail
          go_at_call 13
          refine HAP.out.mono ?_
          rw [HR.out.1, HR.out.2]
          rintro e w1 ⟨v1, rfl, hown, hb⟩
          replace HB := Lib.hid (HB.out.trans (hb.mono HB.out.size))
          rw [HR.out.2] at HAW HAR
          have HX := Lib.hid (hown.sl HAW.out)
          obtain ⟨ao1, cap1, rfl, _⟩ := hown.form'
          clear hown hb HAP
          go_wp2_with fail
          go_at_call 15
          refine (bagtold_any _).mono ?_
          rintro e w2 ⟨rfl, hb⟩
          replace HB := Lib.hid (HB.out.trans (hb.mono HB.out.size))
          replace HX := Lib.hid (HX.out.below hb)
          clear hb
          go_wp2_with fail
          go_at_call 26
          refine (of_any 3 4 HX.out HAR.out.2 (by simp)).mono ?_
          rw [show tot [] 3 4 = 0 from rfl]
          rintro e w3 ⟨rfl, hb⟩
          replace HB := Lib.hid (HB.out.trans (hb.mono HB.out.size))
          clear hb
          go_wp2_with fail
          go_ret
          exact ⟨rfl, HB.out⟩
        · have HR := Lib.hid (show applyE [⟨3, 4, A⟩] [⟨3, 4, C⟩] = 0 ∧ applyR [⟨3, 4, A⟩] [⟨3, 4, C⟩] = [⟨3, 4, A + C⟩] by have h := lone_ok hn hm; rw [if_neg h0] at h; exact h)
          have e0 : (A + C == 0) = false := by rw [beq_eq_false_iff_ne]; exact h0
          clear h0
          obtain rfl := HC.out
          go_enter Try.func5, Try.ntmps5
          go_wp2_with fail
          go_at_call 13
          refine HAP.out.mono ?_
          rw [HR.out.1, HR.out.2]
          rintro e w1 ⟨v1, rfl, hown, hb⟩
          replace HB := Lib.hid (HB.out.trans (hb.mono HB.out.size))
          rw [HR.out.2] at HAW HAR
          have HX := Lib.hid (hown.sl HAW.out)
          obtain ⟨ao1, cap1, rfl, _⟩ := hown.form'
          clear hown hb HAP
          go_wp2_with fail
          go_at_call 15
          refine (bagtold_any _).mono ?_
          rintro e w2 ⟨rfl, hb⟩
          replace HB := Lib.hid (HB.out.trans (hb.mono HB.out.size))
          replace HX := Lib.hid (HX.out.below hb)
          clear hb
          go_wp2_with fail
          go_at_call 26
          refine (of_any 3 4 HX.out HAR.out.2 (by simp)).mono ?_
          rw [lone_tot]
          rintro e w3 ⟨rfl, hb⟩
          replace HB := Lib.hid (HB.out.trans (hb.mono HB.out.size))
          clear hb
          go_wp2_with fail
          go_ret
          exact ⟨rfl, HB.out⟩
end Go.Proofs.Ytkcmeklgnbejiaa.Batch
