/-
  PACKAGE marchlandlaw12: told.
  PACKAGE marchlandref12: Put, Drain; a law's state beside a Pool.
-/
import Derived.Test.YtmggnalobfihnaaPlNew
import Derived.Test.YtmggnalobfihnaaJoined5
namespace Go.Proofs.Ytmggnalobfihnaa.Pl
open Go.RowKit Rw Pk Go.Maps Mm
open Batch (Ch tot sumsE sumsR)
set_option linter.unusedVariables false
theorem plch_new (w : World) (p t d : Int) (T : TypeId) (hw : (⟨p, t, d⟩ : Ch).Wf) : Batch.Sl (w.alloc (.cells #[.int .i64 p, .int .u64 t, .int .i64 d] T)) (.slice (some ⟨w.heap.size, 0, none⟩) 1 1) [⟨p, t, d⟩] := by
  have h := heap_alloc_new w (.cells #[.int .i64 p, .int .u64 t, .int .i64 d] T)
  have hc : ∀ o, (w.alloc (.cells #[.int .i64 p, .int .u64 t, .int .i64 d] T)).cell? ⟨w.heap.size, o, none⟩ = #[Value.int .i64 p, .int .u64 t, .int .i64 d][o]? := fun o => cell_of_row _ _ _ _ _ _ h
  refine ⟨_, _, rfl, .inr ⟨w.heap.size, 0, rfl, fun i x hx => ?_⟩, Nat.le_refl _, by decide, fun x hx => by simp at hx; subst hx; exact hw⟩
  cases i with
  | succ k => simp at hx
  | zero =>
    simp at hx
    subst hx
    exact ⟨hc _, hc _, hc _⟩
theorem cg_one {p t d K : Int} (hw : (⟨p, t, d⟩ : Ch).Wf) (hn : Batch.wrongN ⟨p, t, d⟩ = 0) (h0 : d ≠ 0) (hK : 0 ≤ K) (hd : -K ≤ d ∧ d ≤ K) : Cg K 12 [⟨p, t, d⟩] :=
  ⟨⟨fun x hx => by simp at hx; subst hx; exact ⟨hn, h0⟩, by simp⟩, fun x hx => by simp at hx; subst hx; exact hw, fun p' t' => by
    unfold tot tot
    dsimp only
    split <;> omega, by simp⟩
theorem told_1 : sumsR ([] ++ [(⟨1, 5, 1⟩ : Ch)]) = [⟨1, 5, 1⟩] := by rfl
theorem told_2 : sumsR ([(⟨1, 5, 1⟩ : Ch)] ++ [⟨1, 5, 2⟩]) = [⟨1, 5, 3⟩] := by rfl
theorem told_w {d : Int} (h : 0 ≤ d ∧ d ≤ 3) : (⟨1, 5, d⟩ : Ch).Wf := ⟨by show _ ≤ (1 : Int); decide, by show (1 : Int) ≤ _; decide, by show _ ≤ (5 : Int); decide, by show (5 : Int) ≤ _; decide, by show _ ≤ d; omega, by show d ≤ _; omega⟩
theorem fresh_m {dr : Bool} {k n : Nat} {b : List Ch} {X : Ax} (h : Fresh dr k n b X) (hn : n ≤ 8) : X.m ≤ 8 := by
  unfold Ax.m
  rw [h.hq]
  split
  · simp; exact hn
  · exact shQ_len n b
set_option maxRecDepth 1000000 in
set_option maxHeartbeats 16000000 in
theorem pltold_any (w : World) :
    Calls Try.prog 6 #[] w fun e w' => e = .returned (.bool true) ∧ Below w.heap.size w w' := by
  have HN : Hid (1 ≤ 2 ∧ 2 ≤ 8) := Lib.hid (by decide)
  go_enter Try.func6, Try.ntmps6
  go_wp2_with fail
  go_at_call 5
  refine (plbegin_any 2 HN.out w).mono ?_
  rintro e w1 ⟨p, s, zs0, rfl, h⟩
  have H0 := Lib.hid h
  clear h
  have HC0 : Hid (Cg 12000 100 []) := Lib.hid (cg_nil (by decide))
  go_wp2_with fail
  go_at_call 9
  have hb : Below w1.heap.size w1 (w1.alloc (.cells #[.int .i64 1, .int .u64 5, .int .i64 1] 58)) := (Below.refl _ _).alloc (Nat.le_refl _) _
  refine (ps_put (k := 0) (H0.out.below hb) rfl HN.out (plch_new w1 1 5 1 _ (told_w (by decide))) (cg_one (told_w (by decide)) rfl (by decide) (by decide) (by decide))).mono ?_
  rintro e w11 ⟨X0, zs0, rfl, _, hfr, _, _, _, h⟩
  have HF0 := Lib.hid hfr
  have HP0 := Lib.hid h
  clear hfr h hb
  go_wp2_with fail
  go_at_call 23
  refine (ps_finish (KC := 12000) (NC := 100) HP0.out (fun _ => rfl) (fun _ => rfl) HN.out (by decide) (by decide) HC0.out (by rw [HF0.out.hb]; exact cg_one (told_w (by decide)) rfl (by decide) (by decide) (by decide)) (by decide) (by decide) (by decide) (by decide) HF0.out.hj (fresh_m HF0.out (by decide))).mono ?_
  rintro e w12 ⟨rfl, Y0, ys0, N0, ea, eok, erd, emk, _, _, eD, ej, _, _, _, h⟩
  have hC : aftC X0 [] = [⟨1, 5, 1⟩] := by unfold aftC; rw [HF0.out.hdr, HF0.out.hb]; exact told_1
  have hR : aftR X0 0 = 0 := by unfold aftR; rw [HF0.out.hdr]; rfl
  rw [hC, hR] at h
  rw [hR] at erd
  have HY0 := Lib.hid h
  have HE0 := Lib.hid (And.intro ea (And.intro eok (And.intro erd (And.intro emk (And.intro eD ej)))))
  rw [← HE0.out.1]
  clear ea eok erd emk eD ej h hC hR HP0 HF0
  go_wp2_with fail
  go_at_call 17
  obtain ⟨o1, o2, _, _, _⟩ := HY0.out.over (updF_same _ _ _)
  refine (plok_any o1 o2).mono ?_
  rw [HE0.out.2.1, decide_eq_true HE0.out.2.2.2.2.1]
  rintro e w13 ⟨rfl, rfl⟩
  go_wp2_with fail
  go_at_call 16
  refine (plround_any o1).mono ?_
  rw [if_neg (by have := HE0.out.2.2.2.1; omega), HE0.out.2.2.1]
  rintro e w14 ⟨rfl, rfl⟩
  have HD := HY0.out.drop (updF_same _ _ _) HE0.out.2.2.2.2.2
  rw [updF_none (f := fun _ => none) rfl] at HD
  have H1 := Lib.hid HD
  clear HD o1 o2 HY0 HE0 H0
  have HC1 : Hid (Cg 24000 100 [(⟨1, 5, 1⟩ : Ch)]) := Lib.hid ((cg_one (K := 12000) (told_w (by decide)) rfl (by decide) (by decide) (by decide)).more (by decide) (by decide))
  go_wp2_with fail
  go_at_call 9
  have hb : Below w12.heap.size w12 (w12.alloc (.cells #[.int .i64 1, .int .u64 5, .int .i64 2] 58)) := (Below.refl _ _).alloc (Nat.le_refl _) _
  refine (ps_put (k := 1) (H1.out.below hb) rfl HN.out (plch_new w12 1 5 2 _ (told_w (by decide))) (cg_one (told_w (by decide)) rfl (by decide) (by decide) (by decide))).mono ?_
  rintro e w21 ⟨X1, zs1, rfl, _, hfr, _, _, _, h⟩
  have HF1 := Lib.hid hfr
  have HP1 := Lib.hid h
  clear hfr h hb
  go_wp2_with fail
  go_at_call 23
  refine (ps_finish (KC := 24000) (NC := 100) HP1.out (fun _ => rfl) (fun _ => rfl) HN.out (by decide) (by decide) HC1.out (by rw [HF1.out.hb]; exact cg_one (told_w (by decide)) rfl (by decide) (by decide) (by decide)) (by decide) (by decide) (by decide) (by decide) HF1.out.hj (fresh_m HF1.out (by decide))).mono ?_
  rintro e w22 ⟨rfl, Y1, ys1, N1, ea, eok, erd, emk, _, _, eD, ej, _, _, _, h⟩
  have hC : aftC X1 [(⟨1, 5, 1⟩ : Ch)] = [⟨1, 5, 3⟩] := by unfold aftC; rw [HF1.out.hdr, HF1.out.hb]; exact told_2
  have hR : aftR X1 0 = 0 := by unfold aftR; rw [HF1.out.hdr]; rfl
  rw [hC, hR] at h
  rw [hR] at erd
  have HY1 := Lib.hid h
  have HE1 := Lib.hid (And.intro ea (And.intro eok (And.intro erd (And.intro emk (And.intro eD ej)))))
  rw [← HE1.out.1]
  clear ea eok erd emk eD ej h hC hR HP1 HF1
  go_wp2_with fail
  go_at_call 17
  obtain ⟨o1, o2, _, _, _⟩ := HY1.out.over (updF_same _ _ _)
  refine (plok_any o1 o2).mono ?_
  rw [HE1.out.2.1, decide_eq_true HE1.out.2.2.2.2.1]
  rintro e w23 ⟨rfl, rfl⟩
  have HD := HY1.out.drop (updF_same _ _ _) HE1.out.2.2.2.2.2
  rw [updF_none (f := fun _ => none) rfl] at HD
  have H2 := Lib.hid HD
  clear HD o1 o2 HY1 HE1 H1
  have HC2 : Hid (Cg 24000 100 [(⟨1, 5, 3⟩ : Ch)]) := Lib.hid ((cg_one (K := 12000) (told_w (by decide)) rfl (by decide) (by decide) (by decide)).more (by decide) (by decide))
  go_wp2_with fail
  go_at_call 7
  refine (ps_drain (k := 2) H2.out rfl HN.out).mono ?_
  rintro e w31 ⟨X2, zs2, rfl, _, hfr, _, _, _, h⟩
  have HF2 := Lib.hid hfr
  have HP2 := Lib.hid h
  clear hfr h H2
  go_wp2_with fail
  go_at_call 23
  refine (ps_finish (KC := 24000) (NC := 100) HP2.out (fun _ => rfl) (fun _ => rfl) HN.out (by decide) (by decide) HC2.out (by rw [HF2.out.hb]; exact cg_nil (by decide)) (by decide) (by decide) (by decide) (by decide) HF2.out.hj (fresh_m HF2.out (by decide))).mono ?_
  rintro e w32 ⟨rfl, Y2, ys2, N2, ea, eok, erd, emk, eT, _, eD, ej, _, _, _, h⟩
  have hR : aftR X2 0 = 1 := by unfold aftR; rw [HF2.out.hdr]; rfl
  have hT := eT HF2.out.hdr
  rw [hR] at h erd
  have HY2 := Lib.hid h
  have HE2 := Lib.hid (And.intro ea (And.intro eok (And.intro erd (And.intro emk (And.intro eD (And.intro ej hT))))))
  rw [← HE2.out.1]
  clear ea eok erd emk eT eD ej hT h hR HP2 HF2
  go_wp2_with fail
  go_at_call 20
  obtain ⟨o1, o2, o3, _, _⟩ := HY2.out.over (updF_same _ _ _)
  rw [HE2.out.2.2.2.2.2.2] at o3
  refine (plbatch_any o1 o2 o3 HE2.out.2.1 HE2.out.2.2.2.2.1 (by decide)).mono ?_
  rintro e w33 ⟨v1, rfl, ho, hb⟩
  rcases ho.form with ⟨hx, _⟩ | ⟨g1, cap1, rfl, _⟩
  · cases hx
  obtain ⟨_, _, d2⟩ := ho.at (i := 0) (x := ⟨1, 5, 3⟩) rfl
  simp only [Nat.zero_mul, Nat.zero_add] at d2
  replace HY2 := Lib.hid (HY2.out.below hb)
  clear o1 o2 o3 ho hb
  clear d2
  go_wp2_with fail
  go_at_call 20
  obtain ⟨o1, o2, o3, _, _⟩ := HY2.out.over (updF_same _ _ _)
  rw [HE2.out.2.2.2.2.2.2] at o3
  refine (plbatch_any o1 o2 o3 HE2.out.2.1 HE2.out.2.2.2.2.1 (by decide)).mono ?_
  rintro e w34 ⟨v2, rfl, ho, hb⟩
  rcases ho.form with ⟨hx, _⟩ | ⟨g2, cap2, rfl, _⟩
  · cases hx
  obtain ⟨_, _, d2⟩ := ho.at (i := 0) (x := ⟨1, 5, 3⟩) rfl
  simp only [Nat.zero_mul, Nat.zero_add] at d2
  replace HY2 := Lib.hid (HY2.out.below hb)
  clear o1 o2 o3 ho hb
  go_wp2_with fail
  go_at_call 16
  obtain ⟨o1, o2, o3, _, _⟩ := HY2.out.over (updF_same _ _ _)
  refine (plround_any o1).mono ?_
  rw [if_neg (by have := HE2.out.2.2.2.1; omega), HE2.out.2.2.1]
  rintro e w35 ⟨rfl, rfl⟩
  have HD := HY2.out.drop (updF_same _ _ _) HE2.out.2.2.2.2.2.1
  rw [updF_none (f := fun _ => none) rfl] at HD
  have H3 := Lib.hid HD
  clear HD o1 o2 o3 HY2 d2
  go_wp2_with fail
  go_at_call 27
  refine (plround_ps H3.out (by decide) (by decide)).mono ?_
  rintro e w36 ⟨rfl, _, h⟩
  have H4 := Lib.hid h
  clear h H3
  go_wp2_with fail
  go_at_call 28
  refine (plhold_ps (i := 1) H4.out (by decide) (by decide) (fun _ => rfl) (fun _ => rfl) (by decide)).mono ?_
  rintro e w37 ⟨rfl, rfl⟩
  go_wp2_with fail
  go_at_call 28
  refine (plhold_ps (i := 2) H4.out (by decide) (by decide) (fun _ => rfl) (fun _ => rfl) (by decide)).mono ?_
  rintro e w37 ⟨rfl, rfl⟩
  go_wp2_with fail
  go_ret
  exact ⟨rfl, H4.out.kept⟩
end Go.Proofs.Ytmggnalobfihnaa.Pl
namespace Go.Proofs.Ytmggnalobfihnaa.Pl
open Go.RowKit Rw Pk Go.Maps Mm
open Batch (Ch tot sumsE sumsR)
set_option linter.unusedVariables false
theorem plport_of {n : Nat} (x : Int) (h1 : 1 ≤ n) (h2 : n ≤ 100) : ∃ q : Nat, q < n ∧ IntKind.u64.wrap (n : Int) = (n : Int) ∧ wrap64 ((IntKind.u64.wrap x).tmod (n : Int)) = (q : Int) ∧ IntKind.i64.wrap ((IntKind.u64.wrap x).tmod (n : Int)) = (q : Int) := by
  have h3 : (0 : Int) ≤ IntKind.u64.wrap x := by rw [u64_of]; exact Int.emod_nonneg _ (by decide)
  have h4 := Int.emod_nonneg (IntKind.u64.wrap x) (show (n : Int) ≠ 0 by omega)
  have h5 := Int.emod_lt_of_pos (IntKind.u64.wrap x) (show (0 : Int) < (n : Int) by omega)
  refine ⟨((IntKind.u64.wrap x) % (n : Int)).toNat, by omega, u_id ⟨by omega, by omega⟩, ?_, ?_⟩
  · rw [Int.tmod_eq_emod_of_nonneg h3, w64_id ⟨by omega, by omega⟩]; omega
  · rw [Int.tmod_eq_emod_of_nonneg h3, w_id ⟨by omega, by omega⟩]; omega
theorem plone_more {q n : Nat} (h : n = q + 1) (hq : q < 1000) : IntKind.i64.wrap (1 + (q : Int)) = (n : Int) ∧ wrap64 (1 + (q : Int)) = (n : Int) := ⟨by rw [w_id ⟨by omega, by omega⟩]; omega, by rw [w64_id ⟨by omega, by omega⟩]; omega⟩
def RPool (w : World) (r : Nat) (v : Value) (rnd : Int) : Prop := ∃ Ty, w.heap[r]? = some (.cells #[v, .int .u64 rnd] Ty (0, 0))
theorem RPool.cell {w : World} {r : Nat} {v : Value} {rnd : Int} (h : RPool w r v rnd) : w.cell? ⟨r, 0, none⟩ = some v ∧ w.cell? ⟨r, 1, none⟩ = some (.int .u64 rnd) ∧ (∀ o, w.frozen? ⟨r, o, none⟩ = false) ∧ r < w.heap.size := by
  obtain ⟨Ty, h⟩ := h
  exact ⟨by simp [World.cell?, h], by simp [World.cell?, h], by simp [World.frozen?, h], (Array.getElem?_eq_some_iff.1 h).1⟩
theorem RPool.of_block {w w' : World} {r : Nat} {v : Value} {rnd : Int} (h : RPool w r v rnd) (e : w'.heap[r]? = w.heap[r]?) : RPool w' r v rnd := by obtain ⟨Ty, h⟩ := h; exact ⟨Ty, e.trans h⟩
theorem RPool.set0 {w : World} {r : Nat} {v : Value} {rnd : Int} (h : RPool w r v rnd) (u : Value) : RPool (w.setCell ⟨r, 0, none⟩ u) r u rnd := by obtain ⟨Ty, h⟩ := h; exact ⟨Ty, heap_setCell_same w r 0 _ _ _ h⟩
theorem RPool.set1 {w : World} {r : Nat} {v : Value} {rnd : Int} (h : RPool w r v rnd) (x : Int) : RPool (w.setCell ⟨r, 1, none⟩ (.int .u64 x)) r v x := by obtain ⟨Ty, h⟩ := h; exact ⟨Ty, heap_setCell_same w r 1 _ _ _ h⟩
set_option maxRecDepth 1000000 in
set_option maxHeartbeats 8000000 in
theorem refdrain_any {w : World} {r : Nat} {v : Value} {rnd : Int} {C : List Ch} (h : RPool w r v rnd) (hs : Batch.Sl w v C) (hr : 0 ≤ rnd ∧ rnd ≤ 1000000) :
    Calls Try.prog 14 #[.pointer (some ⟨r, 0, none⟩)] w fun e w' => e = .returned v ∧ w' = (w.setCell ⟨r, 0, none⟩ (.slice none 0 0)).setCell ⟨r, 1, none⟩ (.int .u64 (rnd + 1)) := by
  obtain ⟨c0, c1, cf, _⟩ := h.cell
  obtain ⟨ao, n, c, hv⟩ := sl_open hs
  have h1 := (h.set0 (.slice none 0 0)).cell
  obtain ⟨d0, d1, df, _⟩ := h1
  have hw : IntKind.u64.wrap (rnd + 1) = rnd + 1 := u_id ⟨by omega, by omega⟩
  subst hv
  clear h hs hr
  go_enter Try.func14, Try.ntmps14
  go_wp2_with fail
  go_ret
  exact ⟨rfl, rfl⟩
set_option maxRecDepth 1000000 in
set_option maxHeartbeats 8000000 in
theorem refput_any {w : World} {r : Nat} {vB v : Value} {rnd : Int} {C b : List Ch} (h : RPool w r vB rnd) (hs : Batch.Sl w vB C) (hb : Batch.Sl w v b) (hl : C.length + b.length ≤ 100000) (hok : sumsE (C ++ b) = 0) :
    Calls Try.prog 15 #[.pointer (some ⟨r, 0, none⟩), v] w fun e w' => e = .returned (.bool true) ∧ ∃ v' w1, Batch.Own w1 w.heap.size 78 v' (sumsR (C ++ b)) ∧ Below w.heap.size w w1 ∧ w' = w1.setCell ⟨r, 0, none⟩ v' := by
  have HM := Lib.hid (Batch.refmerge_any hs hb hl)
  rw [hok] at HM
  obtain ⟨c0, c1, cf, hrl⟩ := h.cell
  have HR := Lib.hid h
  obtain ⟨ao, n, c, hv⟩ := sl_open hs
  subst hv
  clear h hs hb hok hl
  go_enter Try.func15, Try.ntmps15
  go_wp2_with fail
  go_at_call 37
  refine HM.out.mono ?_
  rintro e w1 ⟨v', rfl, ho, hb⟩
  obtain ⟨vo, vn, vc, rfl⟩ := own_open ho
  have HO := Lib.hid (And.intro ho hb)
  obtain ⟨d0, d1, df, _⟩ := (HR.out.of_block (hb.block r hrl)).cell
  clear ho hb c0 c1 cf
  go_wp2_with fail
  go_ret
  exact ⟨rfl, _, w1, HO.out.1, HO.out.2, rfl⟩
/-! ### blocks beside the acts -/
section
variable {n0 s p n kk k r : Nat} {w0 w w' w1 : World} {zs xs : List Nat} {f : Nat → Option Ax} {ext : Nat → Option Nat} {C b : List Ch} {rnd : Int} {M M' : Mm.St} {X : Ax} {v : Value}
theorem Ps.less {xs' : List Nat} (h : Ps n0 w0 s p n kk zs xs f ext C rnd M w) (hx : ∀ j ∈ xs', j ∈ xs) : Ps n0 w0 s p n kk zs xs' f ext C rnd M w :=
  ⟨⟨h.1.pq, h.1.g, h.1.d, fun j hj => h.1.x j (hx j hj), fun j hj => h.1.xa j (hx j hj)⟩, h.2⟩
theorem Ps.store (h : Ps n0 w0 s p n kk zs xs f ext C rnd M w) {g : Nat} (hg : g ∈ xs) (o : Nat) (u : Value) : Ps n0 w0 s p n kk zs xs f ext C rnd M (w.setCell ⟨g, o, none⟩ u) := ⟨h.1.store hg o u, h.2⟩
theorem Ps.more (h : Ps n0 w0 s p n kk zs xs f ext C rnd M w) {k' : Nat} (hk : kk ≤ k') : Ps n0 w0 s p n k' zs xs f ext C rnd M w := by
  obtain ⟨h1, Bx, hl, I⟩ := h
  exact ⟨h1, Bx, hl, I.wp.more hk, I.ok, I.h1, I.h2, I.h3, I.b1, I.b2⟩
/-- One block more, made since. -/
theorem Ps.with (h : Ps n0 w0 s p n kk zs xs f ext C rnd M w) (hb : Below w.heap.size w w') {g : Nat} (h1 : w.heap.size ≤ g) (h2 : g < w'.heap.size) : ∃ zs', (∀ j ∈ zs, j ∈ zs') ∧ (∀ j ∈ zs', j ∈ zs ∨ w.heap.size ≤ j) ∧ Ps n0 w0 s p n kk zs' (g :: xs) f ext C rnd M w' := by
  have hs := h.1.pq.pi.lt
  have hn := h.1.pq.mz.nl
  refine ⟨_, blk_old, blk_inv, (h.1.all hb).more (blk_mem h1 h2) (by omega) (by omega) (fun k X hf => ?_), h.2⟩
  have hX := h.1.g k X hf
  have hlt := h.1.lt
  exact ⟨by have := hX.pa.lt; omega, fun hg => by have := hlt g (hX.bl g hg).1; omega⟩
theorem Ps.withO (h : Ps n0 w0 s p n kk zs xs f ext C rnd M w) (hb : Below w.heap.size w w') (hv : ∀ g, v.ownBlock = some g → w.heap.size ≤ g ∧ g < w'.heap.size) : ∃ zs', (∀ j ∈ zs, j ∈ zs') ∧ (∀ j ∈ zs', j ∈ zs ∨ w.heap.size ≤ j) ∧ Ps n0 w0 s p n kk zs' (v.ownBlock.toList ++ xs) f ext C rnd M w' := by
  cases e : v.ownBlock with
  | none => exact ⟨zs, fun _ h => h, fun _ h => .inl h, h.below hb⟩
  | some g => exact h.with hb (hv g e).1 (hv g e).2
/-- The document's Pool beside it. -/
structure La (n0 : Nat) (w0 : World) (s p n kk r : Nat) (zs xs : List Nat) (v : Value) (f : Nat → Option Ax) (C : List Ch) (rnd : Int) (M : Mm.St) (w : World) : Prop where
  ps : Ps n0 w0 s p n kk zs (r :: (v.ownBlock.toList ++ xs)) f (fun _ => none) C rnd M w
  rs : RPool w r v rnd
  bs : Batch.Sl w v C
  nv : v.ownBlock ≠ some r
  nx : r ∉ xs
theorem La.below (h : La n0 w0 s p n kk r zs xs v f C rnd M w) (hb : Below w.heap.size w w') : La n0 w0 s p n kk r zs xs v f C rnd M w' :=
  ⟨h.ps.below hb, h.rs.of_block (hb.block r h.rs.cell.2.2.2), h.bs.below hb, h.nv, h.nx⟩
/-- Behind what keeps the law's blocks, and what is in the pool. -/
theorem La.keep (h : La n0 w0 s p n kk r zs xs v f C rnd M w) {zs' : List Nat} {f' : Nat → Option Ax} {kk' : Nat} (hk : KeepX (r :: (v.ownBlock.toList ++ xs)) w w') (hp : Ps n0 w0 s p n kk' zs' (r :: (v.ownBlock.toList ++ xs)) f' (fun _ => none) C rnd M' w') : La n0 w0 s p n kk' r zs' xs v f' C rnd M' w' :=
  ⟨hp, h.rs.of_block (hk.2 r (List.mem_cons_self ..)), blk_sl h.bs (fun g hg => hk.2 g (by simp [hg])), h.nv, h.nx⟩
theorem La.drop (h : La n0 w0 s p n kk r zs xs v f C rnd M w) (hf : f k = some X) (hj : X.j = 4 * X.m + X.e) : La n0 w0 s p n kk r zs xs v (updF f k none) C rnd M w := ⟨h.ps.drop hf hj, h.rs, h.bs, h.nv, h.nx⟩
theorem La.more (h : La n0 w0 s p n kk r zs xs v f C rnd M w) {k' : Nat} (hk : kk ≤ k') : La n0 w0 s p n k' r zs xs v f C rnd M w := ⟨h.ps.more hk, h.rs, h.bs, h.nv, h.nx⟩
/-- What was made since is kept, too. -/
theorem La.withX (h : La n0 w0 s p n kk r zs xs v f C rnd M w) (hb : Below w.heap.size w w') {u : Value} (hu : ∀ g, u.ownBlock = some g → w.heap.size ≤ g ∧ g < w'.heap.size) : ∃ zs', (∀ j ∈ zs, j ∈ zs') ∧ (∀ j ∈ zs', j ∈ zs ∨ w.heap.size ≤ j) ∧ La n0 w0 s p n kk r zs' (u.ownBlock.toList ++ xs) v f C rnd M w' := by
  obtain ⟨zs', z1, z2, hp⟩ := h.ps.withO hb hu
  have hrl := h.rs.cell.2.2.2
  refine ⟨zs', z1, z2, hp.less (fun j hj => ?_), h.rs.of_block (hb.block r hrl), h.bs.below hb, h.nv, fun hr => ?_⟩
  · simp only [List.mem_append, List.mem_cons] at hj ⊢
    rcases hj with hj | hj | hj | hj
    · exact .inr (.inl hj)
    · exact .inr (.inr (.inl hj))
    · exact .inl hj
    · exact .inr (.inr (.inr hj))
  · rcases List.mem_append.1 hr with e | e
    · have := hu r (by simpa using e)
      omega
    · exact h.nx e
theorem KeepX.less {xs xs' : List Nat} (h : KeepX xs w w') (hx : ∀ j ∈ xs', j ∈ xs) : KeepX xs' w w' := ⟨h.1, fun j hj => h.2 j (hx j hj)⟩
/-- Behind what changes the pool and then the document's: a Drain. -/
theorem La.drained {C0 : List Ch} {rnd0 : Int} (hrs : RPool w r v rnd0) (hp : Ps n0 w0 s p n kk zs (r :: (v.ownBlock.toList ++ xs)) f (fun _ => none) [] (rnd0 + 1) M w) (hnv : v.ownBlock ≠ some r) (hnx : r ∉ xs) :
    La n0 w0 s p n kk r zs xs (.slice none 0 0) f [] (rnd0 + 1) M ((w.setCell ⟨r, 0, none⟩ (.slice none 0 0)).setCell ⟨r, 1, none⟩ (.int .u64 (rnd0 + 1))) :=
  ⟨((hp.store (List.mem_cons_self ..) 0 _).store (List.mem_cons_self ..) 1 _).less (by simp only [Value.ownBlock, Option.toList_none, List.nil_append, List.mem_cons]; intro j hj; rcases hj with hj | hj; exact .inl hj; exact .inr (List.mem_append.2 (.inr hj))), (hrs.set0 _).set1 _, Batch.Sl.nil _, by simp [Value.ownBlock], hnx⟩
/-- .. a Put. -/
theorem La.wasput {C1 : List Ch} {v' : Value} (hrs : RPool w r v rnd) (hp : Ps n0 w0 s p n kk zs (r :: (v.ownBlock.toList ++ xs)) f (fun _ => none) C1 rnd M w) (hnx : r ∉ xs) (hb : Below w.heap.size w w1) (ho : Batch.Own w1 w.heap.size 78 v' C1) (hwf : ∀ x ∈ C1, x.Wf) :
    ∃ zs', (∀ j ∈ zs, j ∈ zs') ∧ (∀ j ∈ zs', j ∈ zs ∨ w.heap.size ≤ j) ∧ La n0 w0 s p n kk r zs' xs v' f C1 rnd M (w1.setCell ⟨r, 0, none⟩ v') := by
  have hv : ∀ g, v'.ownBlock = some g → w.heap.size ≤ g ∧ g < w1.heap.size := fun g hg => World.ownsRow.lt ho g hg
  have hrl := hrs.cell.2.2.2
  obtain ⟨zs', z1, z2, hq⟩ := hp.withO hb hv
  have hq2 := hq.store (g := r) (List.mem_append.2 (.inr (List.mem_cons_self ..))) 0 v'
  refine ⟨zs', z1, z2, hq2.less fun j hj => ?_, (hrs.of_block (hb.block r hrl)).set0 v', blk_sl (ho.sl hwf) (fun g hg => Below.heap_setCell _ _ _ _ (show g ≠ r by have := (hv g hg).1; omega)), fun e => by have := (hv r e).1; omega, hnx⟩
  simp only [List.mem_append, List.mem_cons] at hj ⊢
  rcases hj with rfl | hj | hj
  · exact .inr (.inl rfl)
  · exact .inl hj
  · exact .inr (.inr (.inr hj))
end
end Go.Proofs.Ytmggnalobfihnaa.Pl
