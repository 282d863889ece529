/-
  PACKAGE pool: a Put of what would be too great, from its first access to its last (a Merge that isn't).
-/
import Derived.Test.YtmggnalobfihnaaPlBad
import Derived.Test.YtmggnalobfihnaaPlNewB
import Derived.Test.YtmggnalobfihnaaJoined15
namespace Go.Proofs.Ytmggnalobfihnaa.PlB
open Pl
open Go.RowKit Rw Pk Go.Maps Mm
open Batch (Ch tot sumsE sumsR)
set_option linter.unusedVariables false
set_option linter.unusedSimpArgs false
def bG (x : Int) : List Ch := [⟨0, 5, 1⟩, ⟨1, 5, x⟩, ⟨2, 5, 1⟩]
def cG : List Ch := [⟨1, 5, 576460752303423488⟩]
section
variable {n0 s p n kk a : Nat} {w0 W0 w : World} {fs zs xs : List Nat} {A : Pa} {B Bx : Nat → List Ch} {T lf : List Ch} {M : Mm.St} {hl : Nat → Option Int} {rd0 : Int}
theorem mkP_kept (A : Pa) (D : List (Int × Int)) (t : Int) : (mkP A D t).who = A.who ∧ (mkP A D t).dr = A.dr ∧ (mkP A D t).ok = A.ok := by
  unfold mkP
  split
  · exact ⟨rfl, rfl, rfl⟩
  · exact ⟨rfl, rfl, rfl⟩
theorem nq_of {Q : List Nat} (hd : Q.Nodup) {i0 qf : Nat} (h0 : Q[i0]? = some qf) : ∀ (j : Nat) x, (castN Q)[j]? = some x → j ≠ i0 → x ≠ (qf : Int) := by
  intro j x hx hne e
  unfold castN at hx
  rw [List.getElem?_map] at hx
  obtain ⟨q', h1, rfl⟩ := Option.map_eq_some_iff.1 hx
  obtain rfl : q' = qf := by omega
  exact hne (nodup_at hd h1 h0)
/-- All at one step: what is to be done, who has which latch, whether it is ok yet. -/
def GbS (n0 : Nat) (w0 W0 : World) (s p n kk a : Nat) (fs zs : List Nat) (P : List Int) (Bx : Nat → List Ch) (T : List Ch) (rd0 : Int) (qf : Nat) (lf : List Ch) (q0 jg : Nat) (l0 : List Ch) (D : Nat → List (Int × Int)) (hl : Nat → Nat → Option Int) (okj : Nat → Bool) (j : Nat) (w : World) : Prop :=
  ∃ zs' M A B, (∀ i ∈ zs, i ∈ zs') ∧ (∀ i ∈ zs', i ∈ zs ∨ W0.heap.size ≤ i) ∧ A.who = 0 ∧ A.dr = false ∧ A.ok = okj j ∧ B qf = lf ∧ (j < jg → B q0 = l0) ∧ Wp n (kk + j) rd0 Bx (hl j) M ∧ Pg n0 w0 W0 fs zs' a s ⟨p, 2, 1, 1, n⟩ A P (D j) B T M w
def DA : Nat → List (Int × Int)
  | 0 => [(4, ((0 : Nat) : Int)), (2, ((0 : Nat) : Int)), (3, ((0 : Nat) : Int)), (0, 0), (5, ((0 : Nat) : Int))]
  | 1 => [(2, ((0 : Nat) : Int)), (3, ((0 : Nat) : Int)), (0, 0), (5, ((0 : Nat) : Int))]
  | 2 => [(0, 0), (5, ((0 : Nat) : Int))]
  | 3 => [(5, ((0 : Nat) : Int))]
  | _ => []
def HA (hl : Nat → Option Int) : Nat → Nat → Option Int
  | 0 => hl
  | 1 => (updH hl 0 (some 0))
  | 2 => (updH hl 0 (some 0))
  | 3 => (updH hl 0 (some 0))
  | _ => (updH (updH hl 0 (some 0)) 0 none)
def OA (j : Nat) : Bool := decide (j < 2)
set_option maxRecDepth 1000000 in
set_option maxHeartbeats 4000000 in
theorem gb_finA {l0 : List Ch} (hn : 0 < n ∧ n ≤ 8) (hkk : kk ≤ 80000) (f0 : hl 0 = none) (hXf : Bx 0 = cG) (hsf : Batch.Sorted lf) (hlf : lf.length ≤ 1000) (hbad : sumsE (cG ++ lf) ≠ 0) (h : (GbS n0 w0 W0 s p n kk a fs zs (castN [0]) Bx T rd0 0 lf 0 0 l0 DA (HA hl) OA) 0 w) :
    Calls Try.prog 23 #[.pointer (some ⟨a, 0, none⟩)] w fun e w' => e = .returned (.bool true) ∧ (GbS n0 w0 W0 s p n kk a fs zs (castN [0]) Bx T rd0 0 lf 0 0 l0 DA (HA hl) OA) 4 w' := by
  refine plfinish_any (K := 4) (by decide) (by decide) (S := (GbS n0 w0 W0 s p n kk a fs zs (castN [0]) Bx T rd0 0 lf 0 0 l0 DA (HA hl) OA)) h (fun j hj w1 hs => ?_) (fun w1 hs => ?_)
  · rcases (show j = 0 ∨ j = 1 ∨ j = 2 ∨ j = 3 by omega) with rfl | rfl | rfl | rfl
    · obtain ⟨zs', M', A', B', z1, z2, ew, ed, eo, ebf, ebg, hw, hp⟩ := hs
      refine (ps_take (i := 0) (D := DA 1) hp hw (by rw [ew]; decide) (by omega) hn.2 (by omega) (by simp [HA, updH, f0])).mono ?_
      rintro e w' ⟨he, M2, zs2, bx, tk, dv, hW, hlg, y1, y2, y3, hp2⟩
      rw [ew] at hW
      obtain ⟨k1, k2, k3⟩ := mkP_kept { A' with bx := bx, tk := tk, rd := A'.rd, dv := dv } (DA 1) ((M'.lg.length + 1 : Nat) : Int)
      exact ⟨by rw [he]; rfl, zs2, M2, _, B', fun i hi => y1 i (z1 i hi), fun i hi => (y2 i hi).elim (z2 i) (fun e => .inr (Nat.le_trans hp.sz e)), k1.trans ew, k2.trans ed, k3.trans (eo.trans rfl), ebf, fun hlt => absurd hlt (by decide), hW, hp2⟩
    · obtain ⟨zs', M', A', B', z1, z2, ew, ed, eo, ebf, ebg, hw, hp⟩ := hs
      refine (ps_getbad (i := 0) (i0 := 0) hp hw (by rw [ew]; decide) (by omega) hn.2 (by omega) ed (by rw [ebf]; exact hsf) (by rw [hXf]; exact List.pairwise_singleton _ _) (by rw [ebf]; exact hlf) (by rw [hXf, ebf]; exact hbad) (by decide) (by decide) rfl (nq_of (by decide) rfl)).mono ?_
      rintro e w' ⟨he, M2, zs2, bx, tk, dv, hW, y1, y2, y3, hp2⟩
      exact ⟨by rw [he]; rfl, zs2, M2, { A' with bx := bx, tk := tk, dv := dv, ok := false }, B', fun i hi => y1 i (z1 i hi), fun i hi => (y2 i hi).elim (z2 i) (fun e => .inr (Nat.le_trans hp.sz e)), ew, ed, rfl, ebf, fun hlt => absurd hlt (by decide), hW, hp2⟩
    · obtain ⟨zs', M', A', B', z1, z2, ew, ed, eo, ebf, ebg, hw, hp⟩ := hs
      refine (ps_load (D := DA 3) hp hw (by rw [ew]; decide) hn.2 (by omega)).mono ?_
      rintro e w' ⟨he, M2, zs2, bx, tk, dv, hW, hlg, y1, y2, y3, hp2⟩
      obtain ⟨k1, k2, k3⟩ := mkP_kept { A' with bx := bx, tk := tk, rd := rd0, dv := dv } (DA 3) ((M'.lg.length + 1 : Nat) : Int)
      exact ⟨by rw [he]; rfl, zs2, M2, _, B', fun i hi => y1 i (z1 i hi), fun i hi => (y2 i hi).elim (z2 i) (fun e => .inr (Nat.le_trans hp.sz e)), k1.trans ew, k2.trans ed, k3.trans (eo.trans rfl), ebf, fun hlt => absurd hlt (by decide), hW, hp2⟩
    · obtain ⟨zs', M', A', B', z1, z2, ew, ed, eo, ebf, ebg, hw, hp⟩ := hs
      refine (ps_free (i := 0) (D := DA 4) hp hw (by rw [ew]; decide) (by omega) hn.2 (by omega) (by rw [ew]; simp [HA, updH])).mono ?_
      rintro e w' ⟨he, M2, zs2, bx, tk, dv, hW, hlg, y1, y2, y3, hp2⟩
      obtain ⟨k1, k2, k3⟩ := mkP_kept { A' with bx := bx, tk := tk, rd := A'.rd, dv := dv } (DA 4) ((M'.lg.length + 1 : Nat) : Int)
      exact ⟨by rw [he]; rfl, zs2, M2, _, B', fun i hi => y1 i (z1 i hi), fun i hi => (y2 i hi).elim (z2 i) (fun e => .inr (Nat.le_trans hp.sz e)), k1.trans ew, k2.trans ed, k3.trans (eo.trans rfl), ebf, fun hlt => absurd hlt (by decide), hW, hp2⟩
  · obtain ⟨zs', M', A', B', z1, z2, ew, ed, eo, ebf, ebg, hw, hp⟩ := hs
    refine (plover_any hp.pa hp.tod).mono fun e w' h => ⟨h.1.trans rfl, h.2⟩
def DB : Nat → List (Int × Int)
  | 0 => [(4, ((0 : Nat) : Int)), (4, ((1 : Nat) : Int)), (2, ((0 : Nat) : Int)), (2, ((1 : Nat) : Int)), (3, ((0 : Nat) : Int)), (3, ((1 : Nat) : Int)), (0, 0), (5, ((0 : Nat) : Int)), (5, ((1 : Nat) : Int))]
  | 1 => [(4, ((1 : Nat) : Int)), (2, ((0 : Nat) : Int)), (2, ((1 : Nat) : Int)), (3, ((0 : Nat) : Int)), (3, ((1 : Nat) : Int)), (0, 0), (5, ((0 : Nat) : Int)), (5, ((1 : Nat) : Int))]
  | 2 => [(2, ((0 : Nat) : Int)), (2, ((1 : Nat) : Int)), (3, ((0 : Nat) : Int)), (3, ((1 : Nat) : Int)), (0, 0), (5, ((0 : Nat) : Int)), (5, ((1 : Nat) : Int))]
  | 3 => [(2, ((1 : Nat) : Int)), (3, ((0 : Nat) : Int)), (3, ((1 : Nat) : Int)), (0, 0), (5, ((0 : Nat) : Int)), (5, ((1 : Nat) : Int))]
  | 4 => [(0, 0), (5, ((0 : Nat) : Int)), (5, ((1 : Nat) : Int))]
  | 5 => [(5, ((0 : Nat) : Int)), (5, ((1 : Nat) : Int))]
  | 6 => [(5, ((1 : Nat) : Int))]
  | _ => []
def HB (hl : Nat → Option Int) : Nat → Nat → Option Int
  | 0 => hl
  | 1 => (updH hl 0 (some 0))
  | 2 => (updH (updH hl 0 (some 0)) 1 (some 0))
  | 3 => (updH (updH hl 0 (some 0)) 1 (some 0))
  | 4 => (updH (updH hl 0 (some 0)) 1 (some 0))
  | 5 => (updH (updH hl 0 (some 0)) 1 (some 0))
  | 6 => (updH (updH (updH hl 0 (some 0)) 1 (some 0)) 0 none)
  | _ => (updH (updH (updH (updH hl 0 (some 0)) 1 (some 0)) 0 none) 1 none)
def OB (j : Nat) : Bool := decide (j < 4)
set_option maxRecDepth 1000000 in
set_option maxHeartbeats 4000000 in
theorem gb_finB {l0 : List Ch} (hn : 1 < n ∧ n ≤ 8) (hkk : kk ≤ 80000) (f0 : hl 0 = none) (f1 : hl 1 = none) (hXf : Bx 1 = cG) (hsf : Batch.Sorted lf) (hlf : lf.length ≤ 1000) (hbad : sumsE (cG ++ lf) ≠ 0) (hX0 : Bx 0 = []) (hs0 : Batch.Sorted l0) (hl0 : l0.length ≤ 1000) (hok0 : sumsE ([] ++ l0) = 0) (h : (GbS n0 w0 W0 s p n kk a fs zs (castN [0, 1]) Bx T rd0 1 lf 0 3 l0 DB (HB hl) OB) 0 w) :
    Calls Try.prog 23 #[.pointer (some ⟨a, 0, none⟩)] w fun e w' => e = .returned (.bool true) ∧ (GbS n0 w0 W0 s p n kk a fs zs (castN [0, 1]) Bx T rd0 1 lf 0 3 l0 DB (HB hl) OB) 7 w' := by
  refine plfinish_any (K := 7) (by decide) (by decide) (S := (GbS n0 w0 W0 s p n kk a fs zs (castN [0, 1]) Bx T rd0 1 lf 0 3 l0 DB (HB hl) OB)) h (fun j hj w1 hs => ?_) (fun w1 hs => ?_)
  · rcases (show j = 0 ∨ j = 1 ∨ j = 2 ∨ j = 3 ∨ j = 4 ∨ j = 5 ∨ j = 6 by omega) with rfl | rfl | rfl | rfl | rfl | rfl | rfl
    · obtain ⟨zs', M', A', B', z1, z2, ew, ed, eo, ebf, ebg, hw, hp⟩ := hs
      refine (ps_take (i := 0) (D := DB 1) hp hw (by rw [ew]; decide) (by omega) hn.2 (by omega) (by simp [HB, updH, f0, f1])).mono ?_
      rintro e w' ⟨he, M2, zs2, bx, tk, dv, hW, hlg, y1, y2, y3, hp2⟩
      rw [ew] at hW
      obtain ⟨k1, k2, k3⟩ := mkP_kept { A' with bx := bx, tk := tk, rd := A'.rd, dv := dv } (DB 1) ((M'.lg.length + 1 : Nat) : Int)
      exact ⟨by rw [he]; rfl, zs2, M2, _, B', fun i hi => y1 i (z1 i hi), fun i hi => (y2 i hi).elim (z2 i) (fun e => .inr (Nat.le_trans hp.sz e)), k1.trans ew, k2.trans ed, k3.trans (eo.trans rfl), ebf, fun _ => ebg (by decide), hW, hp2⟩
    · obtain ⟨zs', M', A', B', z1, z2, ew, ed, eo, ebf, ebg, hw, hp⟩ := hs
      refine (ps_take (i := 1) (D := DB 2) hp hw (by rw [ew]; decide) (by omega) hn.2 (by omega) (by simp [HB, updH, f0, f1])).mono ?_
      rintro e w' ⟨he, M2, zs2, bx, tk, dv, hW, hlg, y1, y2, y3, hp2⟩
      rw [ew] at hW
      obtain ⟨k1, k2, k3⟩ := mkP_kept { A' with bx := bx, tk := tk, rd := A'.rd, dv := dv } (DB 2) ((M'.lg.length + 1 : Nat) : Int)
      exact ⟨by rw [he]; rfl, zs2, M2, _, B', fun i hi => y1 i (z1 i hi), fun i hi => (y2 i hi).elim (z2 i) (fun e => .inr (Nat.le_trans hp.sz e)), k1.trans ew, k2.trans ed, k3.trans (eo.trans rfl), ebf, fun _ => ebg (by decide), hW, hp2⟩
    · obtain ⟨zs', M', A', B', z1, z2, ew, ed, eo, ebf, ebg, hw, hp⟩ := hs
      have e0 := ebg (by decide)
      refine (ps_getp (i := 0) (D := DB 3) hp hw (by rw [ew]; decide) (by omega) hn.2 (by omega) ed (by rw [e0]; exact hs0) (by rw [hX0]; exact List.Pairwise.nil) (by rw [e0]; exact hl0) (by rw [hX0, e0]; exact hok0)).mono ?_
      rintro e w' ⟨he, M2, zs2, bx, tk, dv, hW, hlg, y1, y2, y3, hp2⟩
      obtain ⟨k1, k2, k3⟩ := mkP_kept { A' with bx := bx, tk := tk, rd := A'.rd, dv := dv } (DB 3) ((M'.lg.length + 1 : Nat) : Int)
      exact ⟨by rw [he]; rfl, zs2, M2, _, _, fun i hi => y1 i (z1 i hi), fun i hi => (y2 i hi).elim (z2 i) (fun e => .inr (Nat.le_trans hp.sz e)), k1.trans ew, k2.trans ed, k3.trans (eo.trans rfl), (show boxB B' 0 _ 1 = lf by unfold boxB; rw [if_neg (by decide)]; exact ebf), fun hlt => absurd hlt (by decide), hW, hp2⟩
    · obtain ⟨zs', M', A', B', z1, z2, ew, ed, eo, ebf, ebg, hw, hp⟩ := hs
      refine (ps_getbad (i := 1) (i0 := 1) hp hw (by rw [ew]; decide) (by omega) hn.2 (by omega) ed (by rw [ebf]; exact hsf) (by rw [hXf]; exact List.pairwise_singleton _ _) (by rw [ebf]; exact hlf) (by rw [hXf, ebf]; exact hbad) (by decide) (by decide) rfl (nq_of (by decide) rfl)).mono ?_
      rintro e w' ⟨he, M2, zs2, bx, tk, dv, hW, y1, y2, y3, hp2⟩
      exact ⟨by rw [he]; rfl, zs2, M2, { A' with bx := bx, tk := tk, dv := dv, ok := false }, B', fun i hi => y1 i (z1 i hi), fun i hi => (y2 i hi).elim (z2 i) (fun e => .inr (Nat.le_trans hp.sz e)), ew, ed, rfl, ebf, fun hlt => absurd hlt (by decide), hW, hp2⟩
    · obtain ⟨zs', M', A', B', z1, z2, ew, ed, eo, ebf, ebg, hw, hp⟩ := hs
      refine (ps_load (D := DB 5) hp hw (by rw [ew]; decide) hn.2 (by omega)).mono ?_
      rintro e w' ⟨he, M2, zs2, bx, tk, dv, hW, hlg, y1, y2, y3, hp2⟩
      obtain ⟨k1, k2, k3⟩ := mkP_kept { A' with bx := bx, tk := tk, rd := rd0, dv := dv } (DB 5) ((M'.lg.length + 1 : Nat) : Int)
      exact ⟨by rw [he]; rfl, zs2, M2, _, B', fun i hi => y1 i (z1 i hi), fun i hi => (y2 i hi).elim (z2 i) (fun e => .inr (Nat.le_trans hp.sz e)), k1.trans ew, k2.trans ed, k3.trans (eo.trans rfl), ebf, fun hlt => absurd hlt (by decide), hW, hp2⟩
    · obtain ⟨zs', M', A', B', z1, z2, ew, ed, eo, ebf, ebg, hw, hp⟩ := hs
      refine (ps_free (i := 0) (D := DB 6) hp hw (by rw [ew]; decide) (by omega) hn.2 (by omega) (by rw [ew]; simp [HB, updH])).mono ?_
      rintro e w' ⟨he, M2, zs2, bx, tk, dv, hW, hlg, y1, y2, y3, hp2⟩
      obtain ⟨k1, k2, k3⟩ := mkP_kept { A' with bx := bx, tk := tk, rd := A'.rd, dv := dv } (DB 6) ((M'.lg.length + 1 : Nat) : Int)
      exact ⟨by rw [he]; rfl, zs2, M2, _, B', fun i hi => y1 i (z1 i hi), fun i hi => (y2 i hi).elim (z2 i) (fun e => .inr (Nat.le_trans hp.sz e)), k1.trans ew, k2.trans ed, k3.trans (eo.trans rfl), ebf, fun hlt => absurd hlt (by decide), hW, hp2⟩
    · obtain ⟨zs', M', A', B', z1, z2, ew, ed, eo, ebf, ebg, hw, hp⟩ := hs
      refine (ps_free (i := 1) (D := DB 7) hp hw (by rw [ew]; decide) (by omega) hn.2 (by omega) (by rw [ew]; simp [HB, updH])).mono ?_
      rintro e w' ⟨he, M2, zs2, bx, tk, dv, hW, hlg, y1, y2, y3, hp2⟩
      obtain ⟨k1, k2, k3⟩ := mkP_kept { A' with bx := bx, tk := tk, rd := A'.rd, dv := dv } (DB 7) ((M'.lg.length + 1 : Nat) : Int)
      exact ⟨by rw [he]; rfl, zs2, M2, _, B', fun i hi => y1 i (z1 i hi), fun i hi => (y2 i hi).elim (z2 i) (fun e => .inr (Nat.le_trans hp.sz e)), k1.trans ew, k2.trans ed, k3.trans (eo.trans rfl), ebf, fun hlt => absurd hlt (by decide), hW, hp2⟩
  · obtain ⟨zs', M', A', B', z1, z2, ew, ed, eo, ebf, ebg, hw, hp⟩ := hs
    refine (plover_any hp.pa hp.tod).mono fun e w' h => ⟨h.1.trans rfl, h.2⟩
def DC : Nat → List (Int × Int)
  | 0 => [(4, ((0 : Nat) : Int)), (4, ((1 : Nat) : Int)), (4, ((2 : Nat) : Int)), (2, ((0 : Nat) : Int)), (2, ((1 : Nat) : Int)), (2, ((2 : Nat) : Int)), (3, ((0 : Nat) : Int)), (3, ((1 : Nat) : Int)), (3, ((2 : Nat) : Int)), (0, 0), (5, ((0 : Nat) : Int)), (5, ((1 : Nat) : Int)), (5, ((2 : Nat) : Int))]
  | 1 => [(4, ((1 : Nat) : Int)), (4, ((2 : Nat) : Int)), (2, ((0 : Nat) : Int)), (2, ((1 : Nat) : Int)), (2, ((2 : Nat) : Int)), (3, ((0 : Nat) : Int)), (3, ((1 : Nat) : Int)), (3, ((2 : Nat) : Int)), (0, 0), (5, ((0 : Nat) : Int)), (5, ((1 : Nat) : Int)), (5, ((2 : Nat) : Int))]
  | 2 => [(4, ((2 : Nat) : Int)), (2, ((0 : Nat) : Int)), (2, ((1 : Nat) : Int)), (2, ((2 : Nat) : Int)), (3, ((0 : Nat) : Int)), (3, ((1 : Nat) : Int)), (3, ((2 : Nat) : Int)), (0, 0), (5, ((0 : Nat) : Int)), (5, ((1 : Nat) : Int)), (5, ((2 : Nat) : Int))]
  | 3 => [(2, ((0 : Nat) : Int)), (2, ((1 : Nat) : Int)), (2, ((2 : Nat) : Int)), (3, ((0 : Nat) : Int)), (3, ((1 : Nat) : Int)), (3, ((2 : Nat) : Int)), (0, 0), (5, ((0 : Nat) : Int)), (5, ((1 : Nat) : Int)), (5, ((2 : Nat) : Int))]
  | 4 => [(2, ((1 : Nat) : Int)), (2, ((2 : Nat) : Int)), (3, ((0 : Nat) : Int)), (3, ((1 : Nat) : Int)), (3, ((2 : Nat) : Int)), (0, 0), (5, ((0 : Nat) : Int)), (5, ((1 : Nat) : Int)), (5, ((2 : Nat) : Int))]
  | 5 => [(0, 0), (5, ((0 : Nat) : Int)), (5, ((2 : Nat) : Int)), (5, ((1 : Nat) : Int))]
  | 6 => [(5, ((0 : Nat) : Int)), (5, ((2 : Nat) : Int)), (5, ((1 : Nat) : Int))]
  | 7 => [(5, ((2 : Nat) : Int)), (5, ((1 : Nat) : Int))]
  | 8 => [(5, ((1 : Nat) : Int))]
  | _ => []
def HC (hl : Nat → Option Int) : Nat → Nat → Option Int
  | 0 => hl
  | 1 => (updH hl 0 (some 0))
  | 2 => (updH (updH hl 0 (some 0)) 1 (some 0))
  | 3 => (updH (updH (updH hl 0 (some 0)) 1 (some 0)) 2 (some 0))
  | 4 => (updH (updH (updH hl 0 (some 0)) 1 (some 0)) 2 (some 0))
  | 5 => (updH (updH (updH hl 0 (some 0)) 1 (some 0)) 2 (some 0))
  | 6 => (updH (updH (updH hl 0 (some 0)) 1 (some 0)) 2 (some 0))
  | 7 => (updH (updH (updH (updH hl 0 (some 0)) 1 (some 0)) 2 (some 0)) 0 none)
  | 8 => (updH (updH (updH (updH (updH hl 0 (some 0)) 1 (some 0)) 2 (some 0)) 0 none) 2 none)
  | _ => (updH (updH (updH (updH (updH (updH hl 0 (some 0)) 1 (some 0)) 2 (some 0)) 0 none) 2 none) 1 none)
def OC (j : Nat) : Bool := decide (j < 5)
set_option maxRecDepth 1000000 in
set_option maxHeartbeats 4000000 in
theorem gb_finC {l0 : List Ch} (hn : 2 < n ∧ n ≤ 8) (hkk : kk ≤ 80000) (f0 : hl 0 = none) (f1 : hl 1 = none) (f2 : hl 2 = none) (hXf : Bx 1 = cG) (hsf : Batch.Sorted lf) (hlf : lf.length ≤ 1000) (hbad : sumsE (cG ++ lf) ≠ 0) (hX0 : Bx 0 = []) (hs0 : Batch.Sorted l0) (hl0 : l0.length ≤ 1000) (hok0 : sumsE ([] ++ l0) = 0) (h : (GbS n0 w0 W0 s p n kk a fs zs (castN [0, 1, 2]) Bx T rd0 1 lf 0 4 l0 DC (HC hl) OC) 0 w) :
    Calls Try.prog 23 #[.pointer (some ⟨a, 0, none⟩)] w fun e w' => e = .returned (.bool true) ∧ (GbS n0 w0 W0 s p n kk a fs zs (castN [0, 1, 2]) Bx T rd0 1 lf 0 4 l0 DC (HC hl) OC) 9 w' := by
  refine plfinish_any (K := 9) (by decide) (by decide) (S := (GbS n0 w0 W0 s p n kk a fs zs (castN [0, 1, 2]) Bx T rd0 1 lf 0 4 l0 DC (HC hl) OC)) h (fun j hj w1 hs => ?_) (fun w1 hs => ?_)
  · rcases (show j = 0 ∨ j = 1 ∨ j = 2 ∨ j = 3 ∨ j = 4 ∨ j = 5 ∨ j = 6 ∨ j = 7 ∨ j = 8 by omega) with rfl | rfl | rfl | rfl | rfl | rfl | rfl | rfl | rfl
    · obtain ⟨zs', M', A', B', z1, z2, ew, ed, eo, ebf, ebg, hw, hp⟩ := hs
      refine (ps_take (i := 0) (D := DC 1) hp hw (by rw [ew]; decide) (by omega) hn.2 (by omega) (by simp [HC, updH, f0, f1, f2])).mono ?_
      rintro e w' ⟨he, M2, zs2, bx, tk, dv, hW, hlg, y1, y2, y3, hp2⟩
      rw [ew] at hW
      obtain ⟨k1, k2, k3⟩ := mkP_kept { A' with bx := bx, tk := tk, rd := A'.rd, dv := dv } (DC 1) ((M'.lg.length + 1 : Nat) : Int)
      exact ⟨by rw [he]; rfl, zs2, M2, _, B', fun i hi => y1 i (z1 i hi), fun i hi => (y2 i hi).elim (z2 i) (fun e => .inr (Nat.le_trans hp.sz e)), k1.trans ew, k2.trans ed, k3.trans (eo.trans rfl), ebf, fun _ => ebg (by decide), hW, hp2⟩
    · obtain ⟨zs', M', A', B', z1, z2, ew, ed, eo, ebf, ebg, hw, hp⟩ := hs
      refine (ps_take (i := 1) (D := DC 2) hp hw (by rw [ew]; decide) (by omega) hn.2 (by omega) (by simp [HC, updH, f0, f1, f2])).mono ?_
      rintro e w' ⟨he, M2, zs2, bx, tk, dv, hW, hlg, y1, y2, y3, hp2⟩
      rw [ew] at hW
      obtain ⟨k1, k2, k3⟩ := mkP_kept { A' with bx := bx, tk := tk, rd := A'.rd, dv := dv } (DC 2) ((M'.lg.length + 1 : Nat) : Int)
      exact ⟨by rw [he]; rfl, zs2, M2, _, B', fun i hi => y1 i (z1 i hi), fun i hi => (y2 i hi).elim (z2 i) (fun e => .inr (Nat.le_trans hp.sz e)), k1.trans ew, k2.trans ed, k3.trans (eo.trans rfl), ebf, fun _ => ebg (by decide), hW, hp2⟩
    · obtain ⟨zs', M', A', B', z1, z2, ew, ed, eo, ebf, ebg, hw, hp⟩ := hs
      refine (ps_take (i := 2) (D := DC 3) hp hw (by rw [ew]; decide) (by omega) hn.2 (by omega) (by simp [HC, updH, f0, f1, f2])).mono ?_
      rintro e w' ⟨he, M2, zs2, bx, tk, dv, hW, hlg, y1, y2, y3, hp2⟩
      rw [ew] at hW
      obtain ⟨k1, k2, k3⟩ := mkP_kept { A' with bx := bx, tk := tk, rd := A'.rd, dv := dv } (DC 3) ((M'.lg.length + 1 : Nat) : Int)
      exact ⟨by rw [he]; rfl, zs2, M2, _, B', fun i hi => y1 i (z1 i hi), fun i hi => (y2 i hi).elim (z2 i) (fun e => .inr (Nat.le_trans hp.sz e)), k1.trans ew, k2.trans ed, k3.trans (eo.trans rfl), ebf, fun _ => ebg (by decide), hW, hp2⟩
    · obtain ⟨zs', M', A', B', z1, z2, ew, ed, eo, ebf, ebg, hw, hp⟩ := hs
      have e0 := ebg (by decide)
      refine (ps_getp (i := 0) (D := DC 4) hp hw (by rw [ew]; decide) (by omega) hn.2 (by omega) ed (by rw [e0]; exact hs0) (by rw [hX0]; exact List.Pairwise.nil) (by rw [e0]; exact hl0) (by rw [hX0, e0]; exact hok0)).mono ?_
      rintro e w' ⟨he, M2, zs2, bx, tk, dv, hW, hlg, y1, y2, y3, hp2⟩
      obtain ⟨k1, k2, k3⟩ := mkP_kept { A' with bx := bx, tk := tk, rd := A'.rd, dv := dv } (DC 4) ((M'.lg.length + 1 : Nat) : Int)
      exact ⟨by rw [he]; rfl, zs2, M2, _, _, fun i hi => y1 i (z1 i hi), fun i hi => (y2 i hi).elim (z2 i) (fun e => .inr (Nat.le_trans hp.sz e)), k1.trans ew, k2.trans ed, k3.trans (eo.trans rfl), (show boxB B' 0 _ 1 = lf by unfold boxB; rw [if_neg (by decide)]; exact ebf), fun hlt => absurd hlt (by decide), hW, hp2⟩
    · obtain ⟨zs', M', A', B', z1, z2, ew, ed, eo, ebf, ebg, hw, hp⟩ := hs
      refine (ps_getbad (i := 1) (i0 := 1) hp hw (by rw [ew]; decide) (by omega) hn.2 (by omega) ed (by rw [ebf]; exact hsf) (by rw [hXf]; exact List.pairwise_singleton _ _) (by rw [ebf]; exact hlf) (by rw [hXf, ebf]; exact hbad) (by decide) (by decide) rfl (nq_of (by decide) rfl)).mono ?_
      rintro e w' ⟨he, M2, zs2, bx, tk, dv, hW, y1, y2, y3, hp2⟩
      exact ⟨by rw [he]; rfl, zs2, M2, { A' with bx := bx, tk := tk, dv := dv, ok := false }, B', fun i hi => y1 i (z1 i hi), fun i hi => (y2 i hi).elim (z2 i) (fun e => .inr (Nat.le_trans hp.sz e)), ew, ed, rfl, ebf, fun hlt => absurd hlt (by decide), hW, hp2⟩
    · obtain ⟨zs', M', A', B', z1, z2, ew, ed, eo, ebf, ebg, hw, hp⟩ := hs
      refine (ps_load (D := DC 6) hp hw (by rw [ew]; decide) hn.2 (by omega)).mono ?_
      rintro e w' ⟨he, M2, zs2, bx, tk, dv, hW, hlg, y1, y2, y3, hp2⟩
      obtain ⟨k1, k2, k3⟩ := mkP_kept { A' with bx := bx, tk := tk, rd := rd0, dv := dv } (DC 6) ((M'.lg.length + 1 : Nat) : Int)
      exact ⟨by rw [he]; rfl, zs2, M2, _, B', fun i hi => y1 i (z1 i hi), fun i hi => (y2 i hi).elim (z2 i) (fun e => .inr (Nat.le_trans hp.sz e)), k1.trans ew, k2.trans ed, k3.trans (eo.trans rfl), ebf, fun hlt => absurd hlt (by decide), hW, hp2⟩
    · obtain ⟨zs', M', A', B', z1, z2, ew, ed, eo, ebf, ebg, hw, hp⟩ := hs
      refine (ps_free (i := 0) (D := DC 7) hp hw (by rw [ew]; decide) (by omega) hn.2 (by omega) (by rw [ew]; simp [HC, updH])).mono ?_
      rintro e w' ⟨he, M2, zs2, bx, tk, dv, hW, hlg, y1, y2, y3, hp2⟩
      obtain ⟨k1, k2, k3⟩ := mkP_kept { A' with bx := bx, tk := tk, rd := A'.rd, dv := dv } (DC 7) ((M'.lg.length + 1 : Nat) : Int)
      exact ⟨by rw [he]; rfl, zs2, M2, _, B', fun i hi => y1 i (z1 i hi), fun i hi => (y2 i hi).elim (z2 i) (fun e => .inr (Nat.le_trans hp.sz e)), k1.trans ew, k2.trans ed, k3.trans (eo.trans rfl), ebf, fun hlt => absurd hlt (by decide), hW, hp2⟩
    · obtain ⟨zs', M', A', B', z1, z2, ew, ed, eo, ebf, ebg, hw, hp⟩ := hs
      refine (ps_free (i := 2) (D := DC 8) hp hw (by rw [ew]; decide) (by omega) hn.2 (by omega) (by rw [ew]; simp [HC, updH])).mono ?_
      rintro e w' ⟨he, M2, zs2, bx, tk, dv, hW, hlg, y1, y2, y3, hp2⟩
      obtain ⟨k1, k2, k3⟩ := mkP_kept { A' with bx := bx, tk := tk, rd := A'.rd, dv := dv } (DC 8) ((M'.lg.length + 1 : Nat) : Int)
      exact ⟨by rw [he]; rfl, zs2, M2, _, B', fun i hi => y1 i (z1 i hi), fun i hi => (y2 i hi).elim (z2 i) (fun e => .inr (Nat.le_trans hp.sz e)), k1.trans ew, k2.trans ed, k3.trans (eo.trans rfl), ebf, fun hlt => absurd hlt (by decide), hW, hp2⟩
    · obtain ⟨zs', M', A', B', z1, z2, ew, ed, eo, ebf, ebg, hw, hp⟩ := hs
      refine (ps_free (i := 1) (D := DC 9) hp hw (by rw [ew]; decide) (by omega) hn.2 (by omega) (by rw [ew]; simp [HC, updH])).mono ?_
      rintro e w' ⟨he, M2, zs2, bx, tk, dv, hW, hlg, y1, y2, y3, hp2⟩
      obtain ⟨k1, k2, k3⟩ := mkP_kept { A' with bx := bx, tk := tk, rd := A'.rd, dv := dv } (DC 9) ((M'.lg.length + 1 : Nat) : Int)
      exact ⟨by rw [he]; rfl, zs2, M2, _, B', fun i hi => y1 i (z1 i hi), fun i hi => (y2 i hi).elim (z2 i) (fun e => .inr (Nat.le_trans hp.sz e)), k1.trans ew, k2.trans ed, k3.trans (eo.trans rfl), ebf, fun hlt => absurd hlt (by decide), hW, hp2⟩
  · obtain ⟨zs', M', A', B', z1, z2, ew, ed, eo, ebf, ebg, hw, hp⟩ := hs
    refine (plover_any hp.pa hp.tod).mono fun e w' h => ⟨h.1.trans rfl, h.2⟩
end
end Go.Proofs.Ytmggnalobfihnaa.PlB
