/-
  PACKAGE marchlandlaw12: told.
-/
import Derived.Test.YtkeldggdllaheaaPlNew
namespace Go.Proofs.Ytkeldggdllaheaa.Pl
open Go.RowKit Rw Pk Go.Maps Mm
open Batch (Ch tot sumsE sumsR)
set_option linter.unusedVariables false
theorem plch_new (w : World) (p t d : Int) (T : TypeId) (hw : (⟨p, t, d⟩ : Ch).Wf) : Batch.Sl (w.alloc (.cells #[.int .i64 p, .int .u64 t, .int .i64 d] T)) (.slice (some ⟨w.heap.size, 0, none⟩) 1 1) [⟨p, t, d⟩] := by
  have h := heap_alloc_new w (.cells #[.int .i64 p, .int .u64 t, .int .i64 d] T)
  have hc : ∀ o, (w.alloc (.cells #[.int .i64 p, .int .u64 t, .int .i64 d] T)).cell? ⟨w.heap.size, o, none⟩ = #[Value.int .i64 p, .int .u64 t, .int .i64 d][o]? := fun o => cell_of_row _ _ _ _ _ _ h
  refine ⟨_, _, rfl, .inr ⟨w.heap.size, 0, rfl, fun i x hx => ?_⟩, Nat.le_refl _, by decide, fun x hx => by simp at hx; subst hx; exact hw⟩
  cases i with
  | succ k => simp at hx
  | zero =>
    simp at hx
    subst hx
    exact ⟨hc _, hc _, hc _⟩
theorem cg_one {p t d K : Int} (hw : (⟨p, t, d⟩ : Ch).Wf) (hn : Batch.wrongN ⟨p, t, d⟩ = 0) (h0 : d ≠ 0) (hK : 0 ≤ K) (hd : -K ≤ d ∧ d ≤ K) : Cg K 12 [⟨p, t, d⟩] :=
  ⟨⟨fun x hx => by simp at hx; subst hx; exact ⟨hn, h0⟩, by simp⟩, fun x hx => by simp at hx; subst hx; exact hw, fun p' t' => by
    unfold tot tot
    dsimp only
    split <;> omega, by simp⟩
theorem told_1 : sumsR ([] ++ [(⟨1, 5, 1⟩ : Ch)]) = [⟨1, 5, 1⟩] := by rfl
theorem told_2 : sumsR ([(⟨1, 5, 1⟩ : Ch)] ++ [⟨1, 5, 2⟩]) = [⟨1, 5, 3⟩] := by rfl
theorem told_w {d : Int} (h : 0 ≤ d ∧ d ≤ 3) : (⟨1, 5, d⟩ : Ch).Wf := ⟨by show _ ≤ (1 : Int); decide, by show (1 : Int) ≤ _; decide, by show _ ≤ (5 : Int); decide, by show (5 : Int) ≤ _; decide, by show _ ≤ d; omega, by show d ≤ _; omega⟩
theorem fresh_m {dr : Bool} {k n : Nat} {b : List Ch} {X : Ax} (h : Fresh dr k n b X) (hn : n ≤ 8) : X.m ≤ 8 := by
  unfold Ax.m
  rw [h.hq]
  split
  · simp; exact hn
  · exact shQ_len n b
set_option maxRecDepth 1000000 in
set_option maxHeartbeats 16000000 in
theorem pltold_any (w : World) :
    Calls Try.prog 8 #[] w fun e w' => e = .returned (.bool true) ∧ Below w.heap.size w w' := by
  have HN : Hid (1 ≤ 2 ∧ 2 ≤ 8) := Lib.hid (by decide)
  go_enter Try.func8, Try.ntmps8
  go_wp2_with fail
  go_at_call 7
  refine (plbegin_any 2 HN.out w).mono ?_
  rintro e w1 ⟨p, s, zs0, rfl, h⟩
  have H0 := Lib.hid h
  clear h
  have HC0 : Hid (Cg 12000 100 []) := Lib.hid (cg_nil (by decide))
  go_wp2_with fail
  go_at_call 20
  have hb : Below w1.heap.size w1 (w1.alloc (.cells #[.int .i64 1, .int .u64 5, .int .i64 1] 68)) := (Below.refl _ _).alloc (Nat.le_refl _) _
  refine (ps_put (k := 0) (H0.out.below hb) rfl HN.out (plch_new w1 1 5 1 _ (told_w (by decide))) (cg_one (told_w (by decide)) rfl (by decide) (by decide) (by decide))).mono ?_
  rintro e w11 ⟨X0, zs0, rfl, _, hfr, _, _, _, h⟩
  have HF0 := Lib.hid hfr
  have HP0 := Lib.hid h
  clear hfr h hb
  go_wp2_with fail
  go_at_call 12
  refine (ps_finish (KC := 12000) (NC := 100) HP0.out (fun _ => rfl) (fun _ => rfl) HN.out (by decide) (by decide) HC0.out (by rw [HF0.out.hb]; exact cg_one (told_w (by decide)) rfl (by decide) (by decide) (by decide)) (by decide) (by decide) (by decide) (by decide) HF0.out.hj (fresh_m HF0.out (by decide))).mono ?_
  rintro e w12 ⟨rfl, Y0, ys0, N0, ea, eok, erd, emk, _, _, eD, ej, _, _, _, h⟩
  have hC : aftC X0 [] = [⟨1, 5, 1⟩] := by unfold aftC; rw [HF0.out.hdr, HF0.out.hb]; exact told_1
  have hR : aftR X0 0 = 0 := by unfold aftR; rw [HF0.out.hdr]; rfl
  rw [hC, hR] at h
  rw [hR] at erd
  have HY0 := Lib.hid h
  have HE0 := Lib.hid (And.intro ea (And.intro eok (And.intro erd (And.intro emk (And.intro eD ej)))))
  rw [← HE0.out.1]
  clear ea eok erd emk eD ej h hC hR HP0 HF0
  go_wp2_with fail
  go_at_call 13
  obtain ⟨o1, o2, _, _, _⟩ := HY0.out.over (updF_same _ _ _)
  refine (plok_any o1 o2).mono ?_
  rw [HE0.out.2.1, decide_eq_true HE0.out.2.2.2.2.1]
  rintro e w13 ⟨rfl, rfl⟩
  go_wp2_with fail
  go_at_call 18
  refine (plround_any o1).mono ?_
  rw [if_neg (by have := HE0.out.2.2.2.1; omega), HE0.out.2.2.1]
  rintro e w14 ⟨rfl, rfl⟩
  have HD := HY0.out.drop (updF_same _ _ _) HE0.out.2.2.2.2.2
  rw [updF_none (f := fun _ => none) rfl] at HD
  have H1 := Lib.hid HD
  clear HD o1 o2 HY0 HE0 H0
  have HC1 : Hid (Cg 24000 100 [(⟨1, 5, 1⟩ : Ch)]) := Lib.hid ((cg_one (K := 12000) (told_w (by decide)) rfl (by decide) (by decide) (by decide)).more (by decide) (by decide))
  go_wp2_with fail
  go_at_call 20
  have hb : Below w12.heap.size w12 (w12.alloc (.cells #[.int .i64 1, .int .u64 5, .int .i64 2] 68)) := (Below.refl _ _).alloc (Nat.le_refl _) _
  refine (ps_put (k := 1) (H1.out.below hb) rfl HN.out (plch_new w12 1 5 2 _ (told_w (by decide))) (cg_one (told_w (by decide)) rfl (by decide) (by decide) (by decide))).mono ?_
  rintro e w21 ⟨X1, zs1, rfl, _, hfr, _, _, _, h⟩
  have HF1 := Lib.hid hfr
  have HP1 := Lib.hid h
  clear hfr h hb
  go_wp2_with fail
  go_at_call 12
  refine (ps_finish (KC := 24000) (NC := 100) HP1.out (fun _ => rfl) (fun _ => rfl) HN.out (by decide) (by decide) HC1.out (by rw [HF1.out.hb]; exact cg_one (told_w (by decide)) rfl (by decide) (by decide) (by decide)) (by decide) (by decide) (by decide) (by decide) HF1.out.hj (fresh_m HF1.out (by decide))).mono ?_
  rintro e w22 ⟨rfl, Y1, ys1, N1, ea, eok, erd, emk, _, _, eD, ej, _, _, _, h⟩
  have hC : aftC X1 [(⟨1, 5, 1⟩ : Ch)] = [⟨1, 5, 3⟩] := by unfold aftC; rw [HF1.out.hdr, HF1.out.hb]; exact told_2
  have hR : aftR X1 0 = 0 := by unfold aftR; rw [HF1.out.hdr]; rfl
  rw [hC, hR] at h
  rw [hR] at erd
  have HY1 := Lib.hid h
  have HE1 := Lib.hid (And.intro ea (And.intro eok (And.intro erd (And.intro emk (And.intro eD ej)))))
  rw [← HE1.out.1]
  clear ea eok erd emk eD ej h hC hR HP1 HF1
  go_wp2_with fail
  go_at_call 13
  obtain ⟨o1, o2, _, _, _⟩ := HY1.out.over (updF_same _ _ _)
  refine (plok_any o1 o2).mono ?_
  rw [HE1.out.2.1, decide_eq_true HE1.out.2.2.2.2.1]
  rintro e w23 ⟨rfl, rfl⟩
  have HD := HY1.out.drop (updF_same _ _ _) HE1.out.2.2.2.2.2
  rw [updF_none (f := fun _ => none) rfl] at HD
  have H2 := Lib.hid HD
  clear HD o1 o2 HY1 HE1 H1
  have HC2 : Hid (Cg 24000 100 [(⟨1, 5, 3⟩ : Ch)]) := Lib.hid ((cg_one (K := 12000) (told_w (by decide)) rfl (by decide) (by decide) (by decide)).more (by decide) (by decide))
  go_wp2_with fail
  go_at_call 9
  refine (ps_drain (k := 2) H2.out rfl HN.out).mono ?_
  rintro e w31 ⟨X2, zs2, rfl, _, hfr, _, _, _, h⟩
  have HF2 := Lib.hid hfr
  have HP2 := Lib.hid h
  clear hfr h H2
  go_wp2_with fail
  go_at_call 12
  refine (ps_finish (KC := 24000) (NC := 100) HP2.out (fun _ => rfl) (fun _ => rfl) HN.out (by decide) (by decide) HC2.out (by rw [HF2.out.hb]; exact cg_nil (by decide)) (by decide) (by decide) (by decide) (by decide) HF2.out.hj (fresh_m HF2.out (by decide))).mono ?_
  rintro e w32 ⟨rfl, Y2, ys2, N2, ea, eok, erd, emk, eT, _, eD, ej, _, _, _, h⟩
  have hR : aftR X2 0 = 1 := by unfold aftR; rw [HF2.out.hdr]; rfl
  have hT := eT HF2.out.hdr
  rw [hR] at h erd
  have HY2 := Lib.hid h
  have HE2 := Lib.hid (And.intro ea (And.intro eok (And.intro erd (And.intro emk (And.intro eD (And.intro ej hT))))))
  rw [← HE2.out.1]
  clear ea eok erd emk eT eD ej hT h hR HP2 HF2
  go_wp2_with fail
  go_at_call 16
  obtain ⟨o1, o2, o3, _, _⟩ := HY2.out.over (updF_same _ _ _)
  rw [HE2.out.2.2.2.2.2.2] at o3
  refine (plbatch_any o1 o2 o3 HE2.out.2.1 HE2.out.2.2.2.2.1 (by decide)).mono ?_
  rintro e w33 ⟨v1, rfl, ho, hb⟩
  rcases ho.form with ⟨hx, _⟩ | ⟨g1, cap1, rfl, _⟩
  · cases hx
  obtain ⟨_, _, d2⟩ := ho.at (i := 0) (x := ⟨1, 5, 3⟩) rfl
  simp only [Nat.zero_mul, Nat.zero_add] at d2
  replace HY2 := Lib.hid (HY2.out.below hb)
  clear o1 o2 o3 ho hb
  clear d2
  go_wp2_with fail
  go_at_call 16
  obtain ⟨o1, o2, o3, _, _⟩ := HY2.out.over (updF_same _ _ _)
  rw [HE2.out.2.2.2.2.2.2] at o3
  refine (plbatch_any o1 o2 o3 HE2.out.2.1 HE2.out.2.2.2.2.1 (by decide)).mono ?_
  rintro e w34 ⟨v2, rfl, ho, hb⟩
  rcases ho.form with ⟨hx, _⟩ | ⟨g2, cap2, rfl, _⟩
  · cases hx
  obtain ⟨_, _, d2⟩ := ho.at (i := 0) (x := ⟨1, 5, 3⟩) rfl
  simp only [Nat.zero_mul, Nat.zero_add] at d2
  replace HY2 := Lib.hid (HY2.out.below hb)
  clear o1 o2 o3 ho hb
  go_wp2_with fail
  go_at_call 18
  obtain ⟨o1, o2, o3, _, _⟩ := HY2.out.over (updF_same _ _ _)
  refine (plround_any o1).mono ?_
  rw [if_neg (by have := HE2.out.2.2.2.1; omega), HE2.out.2.2.1]
  rintro e w35 ⟨rfl, rfl⟩
  have HD := HY2.out.drop (updF_same _ _ _) HE2.out.2.2.2.2.2.1
  rw [updF_none (f := fun _ => none) rfl] at HD
  have H3 := Lib.hid HD
  clear HD o1 o2 o3 HY2 d2
  go_wp2_with fail
  go_at_call 23
  refine (plround_ps H3.out (by decide) (by decide)).mono ?_
  rintro e w36 ⟨rfl, _, h⟩
  have H4 := Lib.hid h
  clear h H3
  go_wp2_with fail
  go_at_call 24
  refine (plhold_ps (i := 1) H4.out (by decide) (by decide) (fun _ => rfl) (fun _ => rfl) (by decide)).mono ?_
  rintro e w37 ⟨rfl, rfl⟩
  go_wp2_with fail
  go_at_call 24
  refine (plhold_ps (i := 2) H4.out (by decide) (by decide) (fun _ => rfl) (fun _ => rfl) (by decide)).mono ?_
  rintro e w37 ⟨rfl, rfl⟩
  go_wp2_with fail
  go_ret
  exact ⟨rfl, H4.out.kept⟩
end Go.Proofs.Ytkeldggdllaheaa.Pl
