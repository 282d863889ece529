/-
  PACKAGE pool: a Put of what would be too great, alone: nothing is left of it.
  PACKAGE marchlandlaw12: told.
-/
import Derived.Test.YtmggnalobfihnaaPlGb
import Derived.Test.YtmggnalobfihnaaPlNew
namespace Go.Proofs.Ytmggnalobfihnaa.PlB
open Pl
open Go.RowKit Rw Pk Go.Maps Mm
open Batch (Ch tot sumsE sumsR)
set_option linter.unusedVariables false
theorem cG_wf : ∀ y ∈ cG, y.Wf := fun y hy => by
  simp [cG] at hy
  subst hy
  exact ⟨by decide, by decide, by decide, by decide, by decide, by decide⟩
theorem bG_wf {x : Int} (hx : 1 ≤ x ∧ x ≤ 576460752303423488) : ∀ y ∈ bG x, y.Wf := fun y hy => by
  simp [bG] at hy
  rcases hy with rfl | rfl | rfl
  · exact ⟨by decide, by decide, by decide, by decide, by decide, by decide⟩
  · exact ⟨by show _ ≤ (1 : Int); decide, by show (1 : Int) ≤ _; decide, by show _ ≤ (5 : Int); decide, by show (5 : Int) ≤ _; decide, by show _ ≤ x; omega, by show x ≤ _; omega⟩
  · exact ⟨by decide, by decide, by decide, by decide, by decide, by decide⟩
theorem cG_cg : Cg 576460752303423488 12 cG := by
  refine ⟨⟨fun y hy => ?_, List.pairwise_singleton _ _⟩, cG_wf, fun p t => ?_, by simp [cG]⟩
  · simp [cG] at hy
    subst hy
    exact ⟨rfl, by decide⟩
  · unfold cG tot tot
    dsimp only
    split <;> omega
theorem bG_tot (x p t : Int) : tot (bG x) p t = (if 0 = p ∧ 5 = t then 1 else 0) + (if 1 = p ∧ 5 = t then x else 0) + (if 2 = p ∧ 5 = t then 1 else 0) := by
  unfold bG tot tot tot tot
  dsimp only
  omega
theorem bG_cg {x : Int} (hx : 1 ≤ x ∧ x ≤ 576460752303423488) : Cg 576460752303423488 12 (bG x) := by
  refine ⟨⟨fun y hy => ?_, ?_⟩, bG_wf hx, fun p t => ?_, by simp [bG]⟩
  · simp [bG] at hy
    rcases hy with rfl | rfl | rfl
    · exact ⟨rfl, by decide⟩
    · refine ⟨?_, by show x ≠ 0; omega⟩
      have ho : Batch.overB x = false := by unfold Batch.overB; rw [decide_eq_false]; omega
      unfold Batch.wrongN
      simp only [ho]
      decide
    · exact ⟨rfl, by decide⟩
  · unfold bG
    simp [Batch.Lt]
  · rw [bG_tot]
    by_cases h0 : 0 = p ∧ 5 = t
    · rw [if_pos h0, if_neg (by omega), if_neg (by omega)]; omega
    · rw [if_neg h0]
      by_cases h1 : 1 = p ∧ 5 = t
      · rw [if_pos h1, if_neg (by omega)]; omega
      · rw [if_neg h1]
        split <;> omega
theorem g_bad {x : Int} (hx : 1 ≤ x ∧ x ≤ 576460752303423488) {n q : Nat} (hq : (1 : Int) % (n : Int) = (q : Int)) : sumsE (cG ++ shB n (bG x) q) ≠ 0 := by
  have hw : ∀ y ∈ cG ++ shB n (bG x) q, y.Wf := fun y hy => (List.mem_append.1 hy).elim (cG_wf y) (fun h => bG_wf hx y (shB_mem h).1)
  have ht : tot (cG ++ shB n (bG x) q) 1 5 = 576460752303423488 + x := by
    have e1 : tot (shB n (bG x) q) 1 5 = if decide ((1 : Int) % (n : Int) = (q : Int)) = true then tot (bG x) 1 5 else 0 := tot_filter (fun p => decide (p % (n : Int) = (q : Int))) 1 5
    rw [Batch.tot_append, e1, if_pos (decide_eq_true hq), bG_tot]
    have e2 : tot cG 1 5 = 576460752303423488 := by unfold cG tot tot; dsimp only; rfl
    rw [e2]
    rw [if_neg (by decide), if_pos (by decide), if_neg (by decide)]
    omega
  have ho : Batch.overK (cG ++ shB n (bG x) q) = true := (Batch.overK_iff hw).2 ⟨1, 5, by
    rw [ht, Batch.wr_id (by omega) (by omega)]
    unfold Batch.overB
    rw [decide_eq_true]
    omega⟩
  rw [(Batch.sums_over ho).1]
  decide
theorem g_three {n : Nat} (h1 : 3 ≤ n) (h2 : n ≤ 8) : shB n cG 1 = cG ∧ shB n cG 0 = [] ∧ (∀ x, shQ n (bG x) = [0, 1, 2]) ∧ (1 : Int) % (n : Int) = ((1 : Nat) : Int) := by
  rcases (show n = 3 ∨ n = 4 ∨ n = 5 ∨ n = 6 ∨ n = 7 ∨ n = 8 by omega) with rfl | rfl | rfl | rfl | rfl | rfl
  all_goals exact ⟨rfl, rfl, fun x => rfl, rfl⟩
section
variable {n0 s p n kk : Nat} {w0 w : World} {zs : List Nat} {M : Mm.St} {X : Ax} {rnd x : Int}
/-- It is gone; the others have done nothing. -/
theorem gb_back {W0 w' : World} {zs' : List Nat} {A : Pa} {P : List Int} {D : List (Int × Int)} {f : Nat → Option Ax} {B Bx Bx0 : Nat → List Ch} {T C : List Ch} {M' : Mm.St} {hl hl' : Nat → Option Int} {kk0 : Nat} (H : Pt n0 w0 s p n zs [] f M W0) (I : Iv n kk0 f (fun _ => none) C rnd Bx0 hl M) (hf : f 0 = some X) (hj : ∀ k Y, f k = some Y → Y.j = 0) (hz : ∀ j ∈ zs, j ∈ zs') (hp : Pg n0 w0 W0 zs zs' X.a s ⟨p, 2, 1, 1, n⟩ A P D B T M' w') (hw : Wp n kk rnd Bx hl' M') (hno : ∀ q, q < n → hl' q = none) (hB : ∀ q, q < n → Bx q = shB n C q) : Ps n0 w0 s p n kk zs' [] (updF f 0 none) (fun _ => none) C rnd M' w' := by
  have hin : ∀ k Y, updF f 0 none k = some Y → k ≠ 0 ∧ f k = some Y := fun k Y e => by
    by_cases e0 : k = 0
    · subst e0; rw [updF_same] at e; cases e
    · rw [updF_other e0] at e; exact ⟨e0, e⟩
  have hnh : ∀ k Y, f k = some Y → ∀ q, ¬ holds Y q := fun k Y e q ⟨y, _, h2, _⟩ => by have := hj k Y e; omega
  refine ⟨⟨⟨hp.mz, hp.pi, hp.sm, fun j hj => hj, fun _ _ => rfl, Nat.le_refl _⟩, fun k Y e => ?_, fun k k' Y Y' e e' hne => H.d k k' Y Y' (hin k Y e).2 (hin k' Y' e').2 hne, (by simp), (by simp)⟩, Bx, hl', hw, fun k Y e => I.ok k Y (hin k Y e).2, (fun q hq z e => by rw [hno q hq] at e; cases e), (fun k Y q e hh => absurd hh (hnh k Y (hin k Y e).2 q)), (fun q k _ e => by cases e), fun q hq _ => hB q hq, (fun k Y q e hd => absurd hd.holds (hnh k Y (hin k Y e).2 q))⟩
  obtain ⟨e0, e1⟩ := hin k Y e
  obtain ⟨d1, d2⟩ := H.d 0 k X Y hf e1 (Ne.symm e0)
  exact (H.g k Y e1).aside hp.mz (fun j hjz hne => hp.fr j hjz hne) (Ne.symm d1) (Ne.symm (H.g 0 X hf).ne) d2 hz hp.sz
theorem gb_finish {f : Nat → Option Ax} (hx : 1 ≤ x ∧ x ≤ 576460752303423488) (hn : 1 ≤ n ∧ n ≤ 8) (hkk : kk ≤ 70000) (h : Ps n0 w0 s p n kk zs [] f (fun _ => none) cG rnd M w) (hf : f 0 = some X) (hj : ∀ k Y, f k = some Y → Y.j = 0) (hX : Fresh false 0 n (bG x) X) :
    Calls Try.prog 23 #[.pointer (some ⟨X.a, 0, none⟩)] w fun e w' => e = .returned (.bool true) ∧ ∃ A' zs' M', PaAt w' X.a A' ∧ Rr accK w' A'.dv [] ∧ A'.ok = false ∧ Ps n0 w0 s p n (kk + 9) zs' [] (updF f 0 none) (fun _ => none) cG rnd M' w' := by
  obtain ⟨H, Bx, hl, I⟩ := h
  have o := I.ok 0 X hf
  have G := H.g 0 X hf
  have hnh : ∀ k Y, f k = some Y → ∀ q, ¬ holds Y q := fun k Y e q ⟨y, _, h2, _⟩ => by have := hj k Y e; omega
  have hfree : ∀ q, q < n → hl q = none := fun q hq => by
    cases e : hl q with
    | none => rfl
    | some z =>
      rcases I.h1 q hq z e with ⟨k', _, e2⟩ | ⟨k', Y, _, e2, e3⟩
      · cases e2
      · exact absurd e3 (hnh k' Y e2 q)
  have hBx : ∀ q, q < n → Bx q = shB n cG q := fun q hq => I.b1 q hq fun k' Y e hd => hnh k' Y e q hd.holds
  have hQ : X.Q = shQ n (bG x) := by have := hX.hq; simpa using this
  have he1 : X.e = 1 := by unfold Ax.e eN; rw [hX.hdr]; rfl
  have hXB : ∀ y q : Nat, X.Q[y]? = some q → X.B q = shB n (bG x) q := fun y q e => by
    rw [o.bp hX.hdr (by have := hX.hj; omega) y q e, if_neg (by have := hX.hj; omega), hX.hb]
  have hwho : X.A.who = 0 := o.who
  have hcb := bG_cg hx
  have hsort : ∀ q, Batch.Sorted (shB n (bG x) q) := fun q => (hcb.sh (n := n) (by decide) q).sorted
  have hlen : ∀ q, (shB n (bG x) q).length ≤ 1000 := fun q => by have := (hcb.sh (n := n) (by decide) q).len; omega
  have hmer : ∀ q, sumsE ([] ++ shB n (bG x) q) = 0 := fun q => ((cg_nil (K := 0) (N := 0) (by decide)).merge (hcb.sh (n := n) (by decide) q) (by decide)).1
  have hDX : ∀ Q', shQ n (bG x) = Q' → X.D = fullD false Q' ∧ X.P = castN Q' := fun Q' e => by
    unfold Ax.D Ax.P
    rw [hX.hj, hX.hdr, hQ, e]
    exact ⟨rfl, rfl⟩
  rcases (show n = 1 ∨ n = 2 ∨ 3 ≤ n by omega) with hn1 | hn2 | hn3
  · subst hn1
    obtain ⟨eD, eP⟩ := hDX [0] rfl
    rw [eD, eP] at G
    have hq0 := hXB 0 0 (by rw [hQ]; rfl)
    refine (gb_finA (n0 := n0) (w0 := w0) (W0 := w) (s := s) (p := p) (kk := kk) (a := X.a) (fs := zs) (zs := zs) (T := X.T) (l0 := []) (rd0 := rnd) (Bx := Bx) (hl := hl) (lf := shB 1 (bG x) 0) (by decide) (by omega) (hfree 0 (by decide)) ((hBx 0 (by decide)).trans rfl) (hsort 0) (hlen 0) (g_bad hx rfl) ⟨zs, M, X.A, X.B, fun _ h => h, fun _ h => .inl h, hwho, hX.hdr, o.ok, hq0, (fun h => absurd h (by decide)), I.wp, G⟩).mono ?_
    rintro e w' ⟨he, zs', M', A', B', z1, z2, ew, ed, eo, _, _, hW, hp⟩
    exact ⟨he, A', zs', M', hp.pa, hp.tod, eo, gb_back H I hf hj z1 hp (hW.more (by omega)) (fun q hq => by
      obtain rfl : q = 0 := by omega
      simp [HA, updH]) hBx⟩
  · subst hn2
    obtain ⟨eD, eP⟩ := hDX [0, 1] rfl
    rw [eD, eP] at G
    have hq0 := hXB 0 0 (by rw [hQ]; rfl)
    have hq1 := hXB 1 1 (by rw [hQ]; rfl)
    refine (gb_finB (n0 := n0) (w0 := w0) (W0 := w) (s := s) (p := p) (kk := kk) (a := X.a) (fs := zs) (zs := zs) (T := X.T) (l0 := shB 2 (bG x) 0) (rd0 := rnd) (Bx := Bx) (hl := hl) (lf := shB 2 (bG x) 1) (by decide) (by omega) (hfree 0 (by decide)) (hfree 1 (by decide)) ((hBx 1 (by decide)).trans rfl) (hsort 1) (hlen 1) (g_bad hx rfl) ((hBx 0 (by decide)).trans rfl) (hsort 0) (hlen 0) (hmer 0) ⟨zs, M, X.A, X.B, fun _ h => h, fun _ h => .inl h, hwho, hX.hdr, o.ok, hq1, fun _ => hq0, I.wp, G⟩).mono ?_
    rintro e w' ⟨he, zs', M', A', B', z1, z2, ew, ed, eo, _, _, hW, hp⟩
    exact ⟨he, A', zs', M', hp.pa, hp.tod, eo, gb_back H I hf hj z1 hp (hW.more (by omega)) (fun q hq => by
      rcases (show q = 0 ∨ q = 1 by omega) with rfl | rfl <;> simp [HB, updH]) hBx⟩
  · obtain ⟨t1, t2, t3, t4⟩ := g_three hn3 hn.2
    obtain ⟨eD, eP⟩ := hDX [0, 1, 2] (t3 x)
    rw [eD, eP] at G
    have hq0 := hXB 0 0 (by rw [hQ, t3]; rfl)
    have hq1 := hXB 1 1 (by rw [hQ, t3]; rfl)
    refine (gb_finC (n0 := n0) (w0 := w0) (W0 := w) (s := s) (p := p) (kk := kk) (a := X.a) (fs := zs) (zs := zs) (T := X.T) (l0 := shB n (bG x) 0) (rd0 := rnd) (Bx := Bx) (hl := hl) (lf := shB n (bG x) 1) (by omega) (by omega) (hfree 0 (by omega)) (hfree 1 (by omega)) (hfree 2 (by omega)) ((hBx 1 (by omega)).trans t1) (hsort 1) (hlen 1) (g_bad hx t4) ((hBx 0 (by omega)).trans t2) (hsort 0) (hlen 0) (hmer 0) ⟨zs, M, X.A, X.B, fun _ h => h, fun _ h => .inl h, hwho, hX.hdr, o.ok, hq1, fun _ => hq0, I.wp, G⟩).mono ?_
    rintro e w' ⟨he, zs', M', A', B', z1, z2, ew, ed, eo, _, _, hW, hp⟩
    refine ⟨he, A', zs', M', hp.pa, hp.tod, eo, gb_back H I hf hj z1 hp (hW.more (by omega)) (fun q hq => ?_) hBx⟩
    have := hfree q hq
    by_cases e0 : q = 0
    · simp [HC, updH, e0]
    · by_cases e1 : q = 1
      · simp [HC, updH, e1]
      · by_cases e2 : q = 2
        · simp [HC, updH, e2]
        · simp [HC, updH, e0, e1, e2, this]
end
end Go.Proofs.Ytmggnalobfihnaa.PlB
namespace Go.Proofs.Ytmggnalobfihnaa.Pl
open Go.RowKit Rw Pk Go.Maps Mm
open Batch (Ch tot sumsE sumsR)
set_option linter.unusedVariables false
theorem plch_new (w : World) (p t d : Int) (T : TypeId) (hw : (⟨p, t, d⟩ : Ch).Wf) : Batch.Sl (w.alloc (.cells #[.int .i64 p, .int .u64 t, .int .i64 d] T)) (.slice (some ⟨w.heap.size, 0, none⟩) 1 1) [⟨p, t, d⟩] := by
  have h := heap_alloc_new w (.cells #[.int .i64 p, .int .u64 t, .int .i64 d] T)
  have hc : ∀ o, (w.alloc (.cells #[.int .i64 p, .int .u64 t, .int .i64 d] T)).cell? ⟨w.heap.size, o, none⟩ = #[Value.int .i64 p, .int .u64 t, .int .i64 d][o]? := fun o => cell_of_row _ _ _ _ _ _ h
  refine ⟨_, _, rfl, .inr ⟨w.heap.size, 0, rfl, fun i x hx => ?_⟩, Nat.le_refl _, by decide, fun x hx => by simp at hx; subst hx; exact hw⟩
  cases i with
  | succ k => simp at hx
  | zero =>
    simp at hx
    subst hx
    exact ⟨hc _, hc _, hc _⟩
theorem cg_one {p t d K : Int} (hw : (⟨p, t, d⟩ : Ch).Wf) (hn : Batch.wrongN ⟨p, t, d⟩ = 0) (h0 : d ≠ 0) (hK : 0 ≤ K) (hd : -K ≤ d ∧ d ≤ K) : Cg K 12 [⟨p, t, d⟩] :=
  ⟨⟨fun x hx => by simp at hx; subst hx; exact ⟨hn, h0⟩, by simp⟩, fun x hx => by simp at hx; subst hx; exact hw, fun p' t' => by
    unfold tot tot
    dsimp only
    split <;> omega, by simp⟩
theorem told_1 : sumsR ([] ++ [(⟨1, 5, 1⟩ : Ch)]) = [⟨1, 5, 1⟩] := by rfl
theorem told_2 : sumsR ([(⟨1, 5, 1⟩ : Ch)] ++ [⟨1, 5, 2⟩]) = [⟨1, 5, 3⟩] := by rfl
theorem told_w {d : Int} (h : 0 ≤ d ∧ d ≤ 3) : (⟨1, 5, d⟩ : Ch).Wf := ⟨by show _ ≤ (1 : Int); decide, by show (1 : Int) ≤ _; decide, by show _ ≤ (5 : Int); decide, by show (5 : Int) ≤ _; decide, by show _ ≤ d; omega, by show d ≤ _; omega⟩
theorem fresh_m {dr : Bool} {k n : Nat} {b : List Ch} {X : Ax} (h : Fresh dr k n b X) (hn : n ≤ 8) : X.m ≤ 8 := by
  unfold Ax.m
  rw [h.hq]
  split
  · simp; exact hn
  · exact shQ_len n b
set_option maxRecDepth 1000000 in
set_option maxHeartbeats 16000000 in
theorem pltold_any (w : World) :
    Calls Try.prog 6 #[] w fun e w' => e = .returned (.bool true) ∧ Below w.heap.size w w' := by
  have HN : Hid (1 ≤ 2 ∧ 2 ≤ 8) := Lib.hid (by decide)
  go_enter Try.func6, Try.ntmps6
  go_wp2_with fail
  go_at_call 5
  refine (plbegin_any 2 HN.out w).mono ?_
  rintro e w1 ⟨p, s, zs0, rfl, h⟩
  have H0 := Lib.hid h
  clear h
  have HC0 : Hid (Cg 12000 100 []) := Lib.hid (cg_nil (by decide))
  go_wp2_with fail
  go_at_call 9
  have hb : Below w1.heap.size w1 (w1.alloc (.cells #[.int .i64 1, .int .u64 5, .int .i64 1] 58)) := (Below.refl _ _).alloc (Nat.le_refl _) _
  refine (ps_put (k := 0) (H0.out.below hb) rfl HN.out (plch_new w1 1 5 1 _ (told_w (by decide))) (cg_one (told_w (by decide)) rfl (by decide) (by decide) (by decide))).mono ?_
  rintro e w11 ⟨X0, zs0, rfl, _, hfr, _, _, _, h⟩
  have HF0 := Lib.hid hfr
  have HP0 := Lib.hid h
  clear hfr h hb
  go_wp2_with fail
  go_at_call 23
  refine (ps_finish (KC := 12000) (NC := 100) HP0.out (fun _ => rfl) (fun _ => rfl) HN.out (by decide) (by decide) HC0.out (by rw [HF0.out.hb]; exact cg_one (told_w (by decide)) rfl (by decide) (by decide) (by decide)) (by decide) (by decide) (by decide) (by decide) HF0.out.hj (fresh_m HF0.out (by decide))).mono ?_
  rintro e w12 ⟨rfl, Y0, ys0, N0, ea, eok, erd, emk, _, _, eD, ej, _, _, _, h⟩
  have hC : aftC X0 [] = [⟨1, 5, 1⟩] := by unfold aftC; rw [HF0.out.hdr, HF0.out.hb]; exact told_1
  have hR : aftR X0 0 = 0 := by unfold aftR; rw [HF0.out.hdr]; rfl
  rw [hC, hR] at h
  rw [hR] at erd
  have HY0 := Lib.hid h
  have HE0 := Lib.hid (And.intro ea (And.intro eok (And.intro erd (And.intro emk (And.intro eD ej)))))
  rw [← HE0.out.1]
  clear ea eok erd emk eD ej h hC hR HP0 HF0
  go_wp2_with fail
  go_at_call 17
  obtain ⟨o1, o2, _, _, _⟩ := HY0.out.over (updF_same _ _ _)
  refine (plok_any o1 o2).mono ?_
  rw [HE0.out.2.1, decide_eq_true HE0.out.2.2.2.2.1]
  rintro e w13 ⟨rfl, rfl⟩
  go_wp2_with fail
  go_at_call 16
  refine (plround_any o1).mono ?_
  rw [if_neg (by have := HE0.out.2.2.2.1; omega), HE0.out.2.2.1]
  rintro e w14 ⟨rfl, rfl⟩
  have HD := HY0.out.drop (updF_same _ _ _) HE0.out.2.2.2.2.2
  rw [updF_none (f := fun _ => none) rfl] at HD
  have H1 := Lib.hid HD
  clear HD o1 o2 HY0 HE0 H0
  have HC1 : Hid (Cg 24000 100 [(⟨1, 5, 1⟩ : Ch)]) := Lib.hid ((cg_one (K := 12000) (told_w (by decide)) rfl (by decide) (by decide) (by decide)).more (by decide) (by decide))
  go_wp2_with fail
  go_at_call 9
  have hb : Below w12.heap.size w12 (w12.alloc (.cells #[.int .i64 1, .int .u64 5, .int .i64 2] 58)) := (Below.refl _ _).alloc (Nat.le_refl _) _
  refine (ps_put (k := 1) (H1.out.below hb) rfl HN.out (plch_new w12 1 5 2 _ (told_w (by decide))) (cg_one (told_w (by decide)) rfl (by decide) (by decide) (by decide))).mono ?_
  rintro e w21 ⟨X1, zs1, rfl, _, hfr, _, _, _, h⟩
  have HF1 := Lib.hid hfr
  have HP1 := Lib.hid h
  clear hfr h hb
  go_wp2_with fail
  go_at_call 23
  refine (ps_finish (KC := 24000) (NC := 100) HP1.out (fun _ => rfl) (fun _ => rfl) HN.out (by decide) (by decide) HC1.out (by rw [HF1.out.hb]; exact cg_one (told_w (by decide)) rfl (by decide) (by decide) (by decide)) (by decide) (by decide) (by decide) (by decide) HF1.out.hj (fresh_m HF1.out (by decide))).mono ?_
  rintro e w22 ⟨rfl, Y1, ys1, N1, ea, eok, erd, emk, _, _, eD, ej, _, _, _, h⟩
  have hC : aftC X1 [(⟨1, 5, 1⟩ : Ch)] = [⟨1, 5, 3⟩] := by unfold aftC; rw [HF1.out.hdr, HF1.out.hb]; exact told_2
  have hR : aftR X1 0 = 0 := by unfold aftR; rw [HF1.out.hdr]; rfl
  rw [hC, hR] at h
  rw [hR] at erd
  have HY1 := Lib.hid h
  have HE1 := Lib.hid (And.intro ea (And.intro eok (And.intro erd (And.intro emk (And.intro eD ej)))))
  rw [← HE1.out.1]
  clear ea eok erd emk eD ej h hC hR HP1 HF1
  go_wp2_with fail
  go_at_call 17
  obtain ⟨o1, o2, _, _, _⟩ := HY1.out.over (updF_same _ _ _)
  refine (plok_any o1 o2).mono ?_
  rw [HE1.out.2.1, decide_eq_true HE1.out.2.2.2.2.1]
  rintro e w23 ⟨rfl, rfl⟩
  have HD := HY1.out.drop (updF_same _ _ _) HE1.out.2.2.2.2.2
  rw [updF_none (f := fun _ => none) rfl] at HD
  have H2 := Lib.hid HD
  clear HD o1 o2 HY1 HE1 H1
  have HC2 : Hid (Cg 24000 100 [(⟨1, 5, 3⟩ : Ch)]) := Lib.hid ((cg_one (K := 12000) (told_w (by decide)) rfl (by decide) (by decide) (by decide)).more (by decide) (by decide))
  go_wp2_with fail
  go_at_call 7
  refine (ps_drain (k := 2) H2.out rfl HN.out).mono ?_
  rintro e w31 ⟨X2, zs2, rfl, _, hfr, _, _, _, h⟩
  have HF2 := Lib.hid hfr
  have HP2 := Lib.hid h
  clear hfr h H2
  go_wp2_with fail
  go_at_call 23
  refine (ps_finish (KC := 24000) (NC := 100) HP2.out (fun _ => rfl) (fun _ => rfl) HN.out (by decide) (by decide) HC2.out (by rw [HF2.out.hb]; exact cg_nil (by decide)) (by decide) (by decide) (by decide) (by decide) HF2.out.hj (fresh_m HF2.out (by decide))).mono ?_
  rintro e w32 ⟨rfl, Y2, ys2, N2, ea, eok, erd, emk, eT, _, eD, ej, _, _, _, h⟩
  have hR : aftR X2 0 = 1 := by unfold aftR; rw [HF2.out.hdr]; rfl
  have hT := eT HF2.out.hdr
  rw [hR] at h erd
  have HY2 := Lib.hid h
  have HE2 := Lib.hid (And.intro ea (And.intro eok (And.intro erd (And.intro emk (And.intro eD (And.intro ej hT))))))
  rw [← HE2.out.1]
  clear ea eok erd emk eT eD ej hT h hR HP2 HF2
  go_wp2_with fail
  go_at_call 20
  obtain ⟨o1, o2, o3, _, _⟩ := HY2.out.over (updF_same _ _ _)
  rw [HE2.out.2.2.2.2.2.2] at o3
  refine (plbatch_any o1 o2 o3 HE2.out.2.1 HE2.out.2.2.2.2.1 (by decide)).mono ?_
  rintro e w33 ⟨v1, rfl, ho, hb⟩
  rcases ho.form with ⟨hx, _⟩ | ⟨g1, cap1, rfl, _⟩
  · cases hx
  obtain ⟨_, _, d2⟩ := ho.at (i := 0) (x := ⟨1, 5, 3⟩) rfl
  simp only [Nat.zero_mul, Nat.zero_add] at d2
  replace HY2 := Lib.hid (HY2.out.below hb)
  clear o1 o2 o3 ho hb
  clear d2
  go_wp2_with fail
  go_at_call 20
  obtain ⟨o1, o2, o3, _, _⟩ := HY2.out.over (updF_same _ _ _)
  rw [HE2.out.2.2.2.2.2.2] at o3
  refine (plbatch_any o1 o2 o3 HE2.out.2.1 HE2.out.2.2.2.2.1 (by decide)).mono ?_
  rintro e w34 ⟨v2, rfl, ho, hb⟩
  rcases ho.form with ⟨hx, _⟩ | ⟨g2, cap2, rfl, _⟩
  · cases hx
  obtain ⟨_, _, d2⟩ := ho.at (i := 0) (x := ⟨1, 5, 3⟩) rfl
  simp only [Nat.zero_mul, Nat.zero_add] at d2
  replace HY2 := Lib.hid (HY2.out.below hb)
  clear o1 o2 o3 ho hb
  go_wp2_with fail
  go_at_call 16
  obtain ⟨o1, o2, o3, _, _⟩ := HY2.out.over (updF_same _ _ _)
  refine (plround_any o1).mono ?_
  rw [if_neg (by have := HE2.out.2.2.2.1; omega), HE2.out.2.2.1]
  rintro e w35 ⟨rfl, rfl⟩
  have HD := HY2.out.drop (updF_same _ _ _) HE2.out.2.2.2.2.2.1
  rw [updF_none (f := fun _ => none) rfl] at HD
  have H3 := Lib.hid HD
  clear HD o1 o2 o3 HY2 d2
  go_wp2_with fail
  go_at_call 27
  refine (plround_ps H3.out (by decide) (by decide)).mono ?_
  rintro e w36 ⟨rfl, _, h⟩
  have H4 := Lib.hid h
  clear h H3
  go_wp2_with fail
  go_at_call 28
  refine (plhold_ps (i := 1) H4.out (by decide) (by decide) (fun _ => rfl) (fun _ => rfl) (by decide)).mono ?_
  rintro e w37 ⟨rfl, rfl⟩
  go_wp2_with fail
  go_at_call 28
  refine (plhold_ps (i := 2) H4.out (by decide) (by decide) (fun _ => rfl) (fun _ => rfl) (by decide)).mono ?_
  rintro e w37 ⟨rfl, rfl⟩
  go_wp2_with fail
  go_ret
  exact ⟨rfl, H4.out.kept⟩
end Go.Proofs.Ytmggnalobfihnaa.Pl
