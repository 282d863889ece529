/-
  THE LAW PoolTurns: its walk.
-/
import Derived.Test.YtmggnalobfihnaaPlTurnS
import Derived.Test.YtmggnalobfihnaaJoined17
import Derived.Test.YtmggnalobfihnaaCkRace
import Derived.Test.YtmggnalobfihnaaCkNumd
import Derived.Deep.CutRange
import Derived.Deep.RegionHeldLaw
import Derived.BigQuiet
namespace Go.Proofs.Ytmggnalobfihnaa.Pl
open Go.RowKit Rw Pk Go.Maps Mm
open Batch (Ch tot sumsE sumsR)
set_option linter.unusedVariables false
theorem eqL_sameT (l : List Ch) : Batch.eqL l l = true := by first | exact Batch.eqL_self l | (unfold Batch.eqL; simp) | simp [Batch.eqL]
set_option maxRecDepth 1000000 in
set_option maxHeartbeats 16000000 in
theorem poolTurns_any {w : World} (x : Int) {v1 v2 : Value} {L : List (List (List Ch))} {PL : List Int} (hl : RdLL w v1 L) (hp : Rr intK w v2 PL) :
    Calls Try.prog 3 #[.int .i64 x, v1, v2] w fun e w' => e = .returned (.bool true) ∧ Below w.heap.size w w' := by
  have HL := Lib.hid hl
  obtain ⟨po, pc, rfl, hp1, hp2⟩ := id hp.form
  obtain ⟨lo, lc, rfl, hl1, _⟩ := hl
  obtain ⟨P, hPd⟩ : ∃ P, P = min PL.length 900 := ⟨_, rfl⟩
  have hmin : min (PL.length : Int) 900 = (P : Int) := by omega
  have hPn : P ≤ PL.length := by omega
  have HP := Lib.hid (hp.take (k := P) hPn)
  have HP9 : Hid (P ≤ 900 ∧ (PL.take P).length = P) := Lib.hid ⟨by omega, by rw [List.length_take]; omega⟩
  have hP0 : (0 : Int) ≤ (P : Int) := Int.natCast_nonneg _
  have hP1 : (P : Int) ≤ (pc : Int) := by omega
  obtain ⟨q, hq, _, p2, p3⟩ := plport_of (n := 8) x (by decide) (by decide)
  obtain ⟨n, hnp⟩ : ∃ n : Nat, n = q + 1 := ⟨_, rfl⟩
  have HN : Hid (1 ≤ n ∧ n ≤ 8) := Lib.hid (by omega)
  have HPP := Lib.hid (And.intro p2 p3)
  obtain ⟨p6, p7⟩ := plone_more hnp (Nat.lt_trans hq (by decide))
  clear hq hnp p2 p3 hp hPd hPn
  have p4 : wrap64 ((IntKind.u64.wrap x).tmod 8) = (q : Int) := HPP.out.1
  have p5 : IntKind.i64.wrap ((IntKind.u64.wrap x).tmod 8) = (q : Int) := HPP.out.2
  go_enter Try.func3, Try.ntmps3
  go_wp2_with fail
  go_at_call 5
  try rw [p6]
  refine (plbegin_any n HN.out w).mono ?_
  rintro e w1 ⟨p, s, zs0, rfl, h⟩
  have H0 := Lib.hid h
  clear h p4 p5 p6 p7
  go_wp2_with fail
  go_at_call 6
  refine (pltold_any w1).mono ?_
  rintro e w2 ⟨rfl, hb⟩
  have H1 := Lib.hid (H0.out.below hb)
  clear hb H0
  obtain ⟨zs1, Bx1, hl1', htc⟩ := tc_start H1.out 31 33 34 37
  have HT0 := Lib.hid htc
  have HTP0 := Lib.hid (tp_start n P HP9.out.1 hl1')
  clear htc H1 hp1
  go_upto_region 11 with fail
  have hP2 : IntKind.i64.wrap ((P : Int) + 2000) = (P : Int) + 2000 := w_id ⟨by omega, by have := HP9.out.1; omega⟩
  unfold four at HT0
  dsimp only at HT0
  generalize w2.heap.size + 1 + 1 + 1 = r at *
  generalize w2.heap.size + 1 + 1 = st at *
  generalize w2.heap.size + 1 = wt at *
  generalize w2.heap.size = nw at *
  go_loopg [14] (P + 2000) (fun m t wr => ∃ (i b c : Nat) (zs bl : List Nat) (vB : Value) (f : Nat → Option Ax) (wv : Nat → Value) (wl : Nat → List Ch) (ai : Nat → Nat) (C : List Ch) (rnd : Int) (Bx : Nat → List Ch) (hl : Nat → Option Int) (M : Mm.St), i + m = P + 2000 ∧ t = .int .i64 (i : Int) ∧ Hid (b ≤ i) ∧ Hid (Tc w.heap.size w s p n r nw wt st (i) zs bl vB f (fun j => ptA (f j)) wv wl ai C C rnd rnd Bx hl M wr) ∧ Hid (Tp n P i b c f wl ai C rnd hl M.lg))
  case atStart => exact ⟨0, 0, 0, zs1, [], .slice none 0 0, fun _ => none, fun _ => .slice none 0 0, fun _ => [], fun _ => 0, [], 0, Bx1, hl1', _, by omega, rfl, Lib.hid (Nat.le_refl _), HT0, HTP0⟩
  case round =>
    obtain ⟨i, b, c, zs, bl, vB, f, wv, wl, ai, C, rnd, Bx, hl, M, him, rfl, HBI, HT, HTP⟩ := hrel
    have hi3 : i ≤ 2900 := by have := HP9.out.1; omega
    have hi0 : (0 : Int) ≤ (i : Int) := Int.natCast_nonneg _
    have HIM := Lib.hid him
    clear him HT0 HTP0
    by_cases hend : i < P + 2000
    · have h1' : (i : Int) < (P : Int) + 2000 := by omega
      have h2' : (i : Int) < 3000 := by omega
      have htm := tmod4n i
      have HEND := Lib.hid hend
      have hik1 : IntKind.i64.wrap ((i : Int) + 1) = ((i + 1 : Nat) : Int) := by rw [w_id ⟨by omega, by omega⟩]; omega
      clear hend
      go_upto_if 61 with fail
      go_cut [15] from 45 to 201 (fun t wx => ∃ k : Nat, t = .int .i64 (k : Int) ∧ Hid (k < 4 ∧ (P ≤ i → k = i % 4)) ∧ Hid (wr = wx))
      case first =>
        by_cases hip : i < P
        · have hip' : (i : Int) < (P : Int) := by omega
          obtain ⟨y, hx⟩ : ∃ y, (PL.take P)[i]? = some y := ⟨_, List.getElem?_eq_getElem (by rw [HP9.out.2]; exact hip)⟩
          obtain ⟨pb, poff, rfl, hbl, qx⟩ := HP.out.at hx
          have c0 := at1 (qx.below HT.out.kept hbl)
          simp only [intK_k, Nat.mul_one] at c0
          obtain ⟨k, hk, _, k2, k3⟩ := plport_of (n := 4) y (by decide) (by decide)
          have HK := Lib.hid (And.intro hk (And.intro k2 k3))
          have k2' : wrap64 ((IntKind.u64.wrap y).tmod 4) = (k : Int) := k2
          have k3' : IntKind.i64.wrap ((IntKind.u64.wrap y).tmod 4) = (k : Int) := k3
          clear hk k2 k3 hx qx htm
          go_wp2_with fail
          go_meet
          exact ⟨k, by first | rfl | simp, Lib.hid ⟨HK.out.1, fun h => by omega⟩, Lib.hid rfl⟩
        · have hip' : ¬ (i : Int) < (P : Int) := by omega
          go_wp2_with fail
          go_meet
          exact ⟨i % 4, by first | rfl | rw [htm] | simp [htm], Lib.hid ⟨by omega, fun _ => rfl⟩, Lib.hid rfl⟩
      case rest =>
        obtain ⟨k, rfl, HK, HW⟩ := hcut
        obtain rfl := HW.out
        have hk4 : (k : Int) < 4 := by have := HK.out.1; omega
        have hk0 : (0 : Int) ≤ (k : Int) := Int.natCast_nonneg _
        clear htm HW
        go_upto_region 16 with fail
        go_cut [72] from 45 to 201 (fun t wx => ∃ bn : Bool, t = .bool bn ∧ Hid (bn = (f k).isNone) ∧ Hid (wr = wx))
        case first =>
          have hkn := HK.out.1
          rcases hfk : f k with _ | X
          · have n0 := HT.out.nowNone hkn hfk
            go_wp2_with fail
            go_meet
            exact ⟨true, by first | rfl | simp, Lib.hid (by rw [hfk]; rfl), Lib.hid rfl⟩
          · have n0 := HT.out.nowAt hkn hfk
            go_wp2_with fail
            go_meet
            exact ⟨false, by first | rfl | simp, Lib.hid (by rw [hfk]; rfl), Lib.hid rfl⟩
        case rest =>
          obtain ⟨bn, rfl, HBN, HW⟩ := hcut
          obtain rfl := HW.out
          clear HW
          go_upto_if 72 with fail
          go_cut [] from 45 to 201 (fun wx => ∃ (X : Ax) (b : Nat) (zs bl : List Nat) (f : Nat → Option Ax) (wv : Nat → Value) (wl : Nat → List Ch) (ai : Nat → Nat), Hid (f k = some X) ∧ Hid (b ≤ i + 1) ∧ Hid (Tc w.heap.size w s p n r nw wt st (i) zs bl vB f (fun j => ptA (f j)) wv wl ai C C rnd rnd Bx hl M wx) ∧ Hid (Tp n P i b c f wl ai C rnd hl M.lg))
          case first =>
            as_aux_lemma =>
              have hkn := HK.out.1
              cases bn with
              | false =>
                obtain ⟨X, hfk⟩ : ∃ X, f k = some X := by
                  have h := HBN.out
                  cases e : f k with
                  | none => rw [e] at h; cases h
                  | some X => exact ⟨X, rfl⟩
                go_wp2_with fail
                go_meet
                exact ⟨X, b, zs, bl, f, wv, wl, ai, Lib.hid hfk, Lib.hid (by have := HBI.out; omega), HT, HTP⟩
              | true =>
                have hfk : f k = none := by
                  have h := HBN.out
                  cases e : f k with
                  | none => rfl
                  | some X => rw [e] at h; cases h
                have HFK := Lib.hid hfk
                have n0 := HT.out.nowNone hkn hfk
                by_cases hip : i < P
                · have hip' : ¬ (P : Int) ≤ (i : Int) := by omega
                  have HIP := Lib.hid hip
                  clear hip hfk
                  by_cases hk3 : k = 3
                  · have HK3 := Lib.hid hk3
                    have hk3' : (k : Int) = 3 := by omega
                    have hk3b : ((k : Int) == 3) = true := by rw [hk3']; rfl
                    clear hk3 hk3' hkn
                    go_wp2_with fail
                    go_at_call 7
                    refine (tc_drain (k := 3) HT.out (by have := HFK.out; rwa [HK3.out] at this) HN.out).mono ?_
                    rintro e w4 ⟨X, zs4, rfl, hfr, htc⟩
                    have HF4 := Lib.hid (HTP.out.drain HIP.out (by have := HFK.out; rwa [HK3.out] at this) hfr HN.out)
                    have HT4 := Lib.hid htc
                    have n1 := HT4.out.cn.cell HK.out.1
                    have nf := HT4.out.cn.fz k
                    have HT5 : Hid (Tc w.heap.size w s p n r nw wt st (i) zs4 bl vB (updF f k (some X)) (fun j => ptA ((updF f k (some X)) j)) wv wl ai C C rnd rnd Bx hl M (w4.setCell ⟨nw, k, none⟩ (.pointer (some ⟨X.a, 0, none⟩)))) := Lib.hid (by have e := HK3.out; subst e; exact HT4.out.laid (by decide))
                    have HTP5 : Hid (Tp n P i b c (updF f k (some X)) wl ai C rnd hl M.lg) := Lib.hid (by have e := HK3.out; subst e; exact HF4.out)
                    clear hfr htc
                    go_upto_region 24 with fail
                    generalize w4.setCell ⟨nw, k, none⟩ (.pointer (some ⟨X.a, 0, none⟩)) = w5 at *
                    clear n0 n1 nf
                    have n2 := HT5.out.nowAt HK.out.1 (updF_same _ _ _)
                    go_wp2_with fail
                    go_meet
                    exact ⟨X, b, zs4, bl, _, wv, wl, ai, Lib.hid (updF_same _ _ _), Lib.hid (by have := HBI.out; omega), HT5, HTP5⟩
                  · have HK3 : Hid (k < 3) := Lib.hid (by omega)
                    have hk3' : ¬ (k : Int) = 3 := by omega
                    have hk3b : ((k : Int) == 3) = false := by rw [beq_eq_false_iff_ne]; exact hk3'
                    clear hk3 hkn
                    by_cases hkl : k < L.length
                    · have hkl' : (k : Int) < (L.length : Int) := by omega
                      have hkld : decide ((k : Int) < (L.length : Int)) = true := decide_eq_true hkl'
                      obtain ⟨l, hll⟩ : ∃ l, L[k]? = some l := ⟨_, List.getElem?_eq_getElem hkl⟩
                      obtain ⟨lb, loff, u, rfl, hu, hr⟩ := HL.out.at hll
                      have HR := Lib.hid hr
                      obtain ⟨uo, uc, rfl, hln⟩ : ∃ uo uc, u = .slice uo l.length uc ∧ l.length ≤ 9223372036854775807 := by obtain ⟨uo, uc, h1, h2, _⟩ := hr; exact ⟨uo, uc, h1, h2⟩
                      have HU := Lib.hid hu
                      have hcell := HT.out.argAt hu rfl
                      have hcs := HT.out.cs.cell HK.out.1
                      clear hr hll hkl
                      by_cases hal : ai k < l.length
                      · have hal' : (ai k : Int) < (l.length : Int) := by omega
                        have hald : decide ((ai k : Int) < (l.length : Int)) = true := decide_eq_true hal'
                        have HAL := Lib.hid hal
                        clear hal
                        go_upto_region 20 with fail
                        refine wp_region_held_drew (S := (fun w' => w'.cell? ⟨st, k, none⟩ = some (.int .i64 (ai k : Int)) ∧ w'.cell? ⟨lb, loff + k, none⟩ = some (.slice uo l.length uc))) (by kernel_rfl) ?_ (fun hHeld => ?_)
                        · ((try dsimp only); exact ⟨hcs, hcell⟩)
                        refine wpAnyH_take (i := 0) (v := ?_) rfl (by kernel_rfl) (by kernel_rfl) (by kernel_rfl) (fun _ _ _ h => h) (Or.inl ⟨by rfl, ?_⟩) (by assumption) ?_
                        rotate_left 1
                        · (intro w hSw; (try dsimp only at hSw); first | (go_simp; done) | (go_simp; with_reducible rfl))
                        try simp only [Act.put, List.setIfInBounds_toArray, List.set_cons_zero, List.set_cons_succ, List.getElem_toArray, List.getElem_cons_zero]
                        refine wpAnyH_take (i := 1) (v := ?_) rfl (by kernel_rfl) (by kernel_rfl) (by kernel_rfl) (fun _ _ _ h => h) (Or.inl ⟨by rfl, ?_⟩) (by assumption) ?_
                        rotate_left 1
                        · (intro w hSw; (try dsimp only at hSw); first | (go_simp; done) | (go_simp; with_reducible rfl))
                        try simp only [Act.put, List.setIfInBounds_toArray, List.set_cons_zero, List.set_cons_succ, List.getElem_toArray, List.getElem_cons_zero, List.getElem_cons_succ]
                        refine wpAnyH_take (i := 2) (v := ?_) rfl (by kernel_rfl) (by kernel_rfl) (by kernel_rfl) (fun _ _ _ h => h) (Or.inl ⟨by rfl, ?_⟩) (by assumption) ?_
                        rotate_left 1
                        · (intro w hSw; (try dsimp only at hSw); first | (go_simp; done) | (go_simp; with_reducible rfl))
                        try simp only [Act.put, List.setIfInBounds_toArray, List.set_cons_zero, List.set_cons_succ, List.getElem_toArray, List.getElem_cons_zero, List.getElem_cons_succ]
                        refine wpAnyH_take (i := 3) (v := ?_) rfl (by kernel_rfl) (by kernel_rfl) (by kernel_rfl) (fun _ _ _ h => h) (Or.inl ⟨by rfl, ?_⟩) (by assumption) ?_
                        rotate_left 1
                        · (intro w hSw; (try dsimp only at hSw); first | (go_simp; done) | (go_simp; with_reducible rfl))
                        try simp only [Act.put, List.setIfInBounds_toArray, List.set_cons_zero, List.set_cons_succ, List.getElem_toArray, List.getElem_cons_zero, List.getElem_cons_succ]
                        refine wpAnyH_take (i := 4) (v := ?_) rfl (by kernel_rfl) (by kernel_rfl) (by kernel_rfl) (fun _ _ _ h => h) (Or.inl ⟨by rfl, ?_⟩) (by assumption) ?_
                        rotate_left 1
                        · (intro w hSw; (try dsimp only at hSw); first | (go_simp; done) | (go_simp; with_reducible rfl))
                        try simp only [Act.put, List.setIfInBounds_toArray, List.set_cons_zero, List.set_cons_succ, List.getElem_toArray, List.getElem_cons_zero, List.getElem_cons_succ]
                        refine wpAnyH_take (i := 5) (v := ?_) rfl (by kernel_rfl) (by kernel_rfl) (by kernel_rfl) (fun _ _ _ h => h) (Or.inl ⟨by rfl, ?_⟩) (by assumption) ?_
                        rotate_left 1
                        · (intro w hSw; (try dsimp only at hSw); first | (go_simp; done) | (go_simp; with_reducible rfl))
                        try simp only [Act.put, List.setIfInBounds_toArray, List.set_cons_zero, List.set_cons_succ, List.getElem_toArray, List.getElem_cons_zero, List.getElem_cons_succ]
                        refine wpAnyH_take (i := 6) (v := ?_) rfl (by kernel_rfl) (by kernel_rfl) (by kernel_rfl) (fun _ _ _ h => h) (Or.inl ⟨by rfl, ?_⟩) (by assumption) ?_
                        rotate_left 1
                        · (intro w hSw; (try dsimp only at hSw); first | (go_simp; done) | (go_simp; with_reducible rfl))
                        try simp only [Act.put, List.setIfInBounds_toArray, List.set_cons_zero, List.set_cons_succ, List.getElem_toArray, List.getElem_cons_zero, List.getElem_cons_succ]
                        refine wpAnyH_take (i := 7) (v := ?_) rfl (by kernel_rfl) (by kernel_rfl) (by kernel_rfl) (fun _ _ _ h => h) (Or.inl ⟨by rfl, ?_⟩) (by assumption) ?_
                        rotate_left 1
                        · (intro w hSw; (try dsimp only at hSw); first | (go_simp; done) | (go_simp; with_reducible rfl))
                        try simp only [Act.put, List.setIfInBounds_toArray, List.set_cons_zero, List.set_cons_succ, List.getElem_toArray, List.getElem_cons_zero, List.getElem_cons_succ]
                        refine wpAnyH_take (i := 8) (v := ?_) rfl (by kernel_rfl) (by kernel_rfl) (by kernel_rfl) (fun _ _ _ h => h) (Or.inl ⟨by rfl, ?_⟩) (by assumption) ?_
                        rotate_left 1
                        · (intro w hSw; (try dsimp only at hSw); first | (go_simp; done) | (go_simp; with_reducible rfl))
                        try simp only [Act.put, List.setIfInBounds_toArray, List.set_cons_zero, List.set_cons_succ, List.getElem_toArray, List.getElem_cons_zero, List.getElem_cons_succ]
                        refine wpAnyH_take (i := 9) (v := ?_) rfl (by kernel_rfl) (by kernel_rfl) (by kernel_rfl) (fun _ _ _ h => h) (Or.inl ⟨by rfl, ?_⟩) (by assumption) ?_
                        rotate_left 1
                        · (intro w hSw; (try dsimp only at hSw); first | (go_simp; done) | (go_simp; with_reducible rfl))
                        try simp only [Act.put, List.setIfInBounds_toArray, List.set_cons_zero, List.set_cons_succ, List.getElem_toArray, List.getElem_cons_zero, List.getElem_cons_succ]
                        refine wpAnyH_take (i := 10) (v := ?_) rfl (by kernel_rfl) (by kernel_rfl) (by kernel_rfl) (fun _ _ _ h => h) (Or.inl ⟨by rfl, ?_⟩) (by assumption) ?_
                        rotate_left 1
                        · (intro w hSw; (try dsimp only at hSw); first | (go_simp; done) | (go_simp; with_reducible rfl))
                        try simp only [Act.put, List.setIfInBounds_toArray, List.set_cons_zero, List.set_cons_succ, List.getElem_toArray, List.getElem_cons_zero, List.getElem_cons_succ]
                        refine wpAnyH_take (i := 11) (v := ?_) rfl (by kernel_rfl) (by kernel_rfl) (by kernel_rfl) (fun _ _ _ h => h) (Or.inl ⟨by rfl, ?_⟩) (by assumption) ?_
                        rotate_left 1
                        · (intro w hSw; (try dsimp only at hSw); first | (go_simp; done) | (go_simp; with_reducible rfl))
                        try simp only [Act.put, List.setIfInBounds_toArray, List.set_cons_zero, List.set_cons_succ, List.getElem_toArray, List.getElem_cons_zero, List.getElem_cons_succ]
                        refine wpAnyH_take (i := 12) (v := ?_) rfl (by kernel_rfl) (by kernel_rfl) (by kernel_rfl) (fun _ _ _ h => h) (Or.inl ⟨by rfl, ?_⟩) (by assumption) ?_
                        rotate_left 1
                        · (intro w hSw; (try dsimp only at hSw); first | (go_simp; done) | (go_simp; with_reducible rfl))
                        try simp only [Act.put, List.setIfInBounds_toArray, List.set_cons_zero, List.set_cons_succ, List.getElem_toArray, List.getElem_cons_zero, List.getElem_cons_succ]
                        refine wpAnyH_take (i := 13) (v := ?_) rfl (by kernel_rfl) (by kernel_rfl) (by kernel_rfl) (fun _ _ _ h => h) (Or.inl ⟨by rfl, ?_⟩) (by assumption) ?_
                        rotate_left 1
                        · (intro w hSw; (try dsimp only at hSw); first | (go_simp; done) | (go_simp; with_reducible rfl))
                        try simp only [Act.put, List.setIfInBounds_toArray, List.set_cons_zero, List.set_cons_succ, List.getElem_toArray, List.getElem_cons_zero, List.getElem_cons_succ]
                        refine wpAnyH_take (i := 14) (v := ?_) rfl (by kernel_rfl) (by kernel_rfl) (by kernel_rfl) (fun _ _ _ h => h) (Or.inl ⟨by rfl, ?_⟩) (by assumption) ?_
                        rotate_left 1
                        · (intro w hSw; (try dsimp only at hSw); first | (go_simp; done) | (go_simp; with_reducible rfl))
                        try simp only [Act.put, List.setIfInBounds_toArray, List.set_cons_zero, List.set_cons_succ, List.getElem_toArray, List.getElem_cons_zero, List.getElem_cons_succ]
                        refine wpAnyH_done (by kernel_rfl) ?_ _
                        obtain ⟨cl, hcl⟩ : ∃ cl, l[ai k]? = some cl := ⟨_, List.getElem?_eq_getElem HAL.out⟩
                        obtain ⟨lb2, loff2, u2, rfl, hu2, hr2⟩ := rdl_at HR.out hcl
                        have HU2 := Lib.hid hu2
                        have HR2 := Lib.hid hr2
                        have hcell2 := HT.out.argAt hu2 rfl
                        have ha0 : (0 : Int) ≤ (ai k : Int) := Int.natCast_nonneg _
                        obtain ⟨bL, hbL⟩ : ∃ bL, Batch.fixL cl = bL := ⟨_, rfl⟩
                        clear hu2 hr2 hcl
                        have HT3 := Lib.hid (HT.out.below (Below.refl _ _).drew)
                        go_upto_region 21 with fail
                        have HD := Lib.hid (HT3.out.below (Below.refl _ _).drew)
                        refine wp_region_held_drew (S := (fun w' => w'.cell? ⟨st, k, none⟩ = some (.int .i64 (ai k : Int)) ∧ w'.cell? ⟨lb, loff + k, none⟩ = some (.slice (some ⟨lb2, loff2, none⟩) l.length uc) ∧ w'.cell? ⟨lb2, loff2 + ai k, none⟩ = some u2)) (by kernel_rfl) ?_ (fun hHeld => ?_)
                        · ((try dsimp only); first | exact ⟨hcs, hcell, hcell2⟩ | exact ⟨HT4.out.cs.cell HK.out.1, HT4.out.argAt HU.out rfl, HT4.out.argAt HU2.out rfl⟩ | exact ⟨HT5.out.cs.cell HK.out.1, HT5.out.argAt HU.out rfl, HT5.out.argAt HU2.out rfl⟩)
                        refine wpAnyH_take (i := 0) (v := ?_) rfl (by kernel_rfl) (by kernel_rfl) (by kernel_rfl) (fun _ _ _ h => h) (Or.inl ⟨by rfl, ?_⟩) (by assumption) ?_
                        rotate_left 1
                        · (intro w hSw; (try dsimp only at hSw); first | (go_simp; done) | (go_simp; with_reducible rfl))
                        try simp only [Act.put, List.setIfInBounds_toArray, List.set_cons_zero, List.set_cons_succ, List.getElem_toArray, List.getElem_cons_zero]
                        refine wpAnyH_take (i := 1) (v := ?_) rfl (by kernel_rfl) (by kernel_rfl) (by kernel_rfl) (fun _ _ _ h => h) (Or.inl ⟨by rfl, ?_⟩) (by assumption) ?_
                        rotate_left 1
                        · (intro w hSw; (try dsimp only at hSw); first | (go_simp; done) | (go_simp; with_reducible rfl))
                        try simp only [Act.put, List.setIfInBounds_toArray, List.set_cons_zero, List.set_cons_succ, List.getElem_toArray, List.getElem_cons_zero, List.getElem_cons_succ]
                        refine wpAnyH_take (i := 2) (v := ?_) rfl (by kernel_rfl) (by kernel_rfl) (by kernel_rfl) (fun _ _ _ h => h) (Or.inl ⟨by rfl, ?_⟩) (by assumption) ?_
                        rotate_left 1
                        · (intro w hSw; (try dsimp only at hSw); first | (go_simp; done) | (go_simp; with_reducible rfl))
                        try simp only [Act.put, List.setIfInBounds_toArray, List.set_cons_zero, List.set_cons_succ, List.getElem_toArray, List.getElem_cons_zero, List.getElem_cons_succ]
                        refine wpAnyH_take (i := 3) (v := ?_) rfl (by kernel_rfl) (by kernel_rfl) (by kernel_rfl) (fun _ _ _ h => h) (Or.inl ⟨by rfl, ?_⟩) (by assumption) ?_
                        rotate_left 1
                        · (intro w hSw; (try dsimp only at hSw); first | (go_simp; done) | (go_simp; with_reducible rfl))
                        try simp only [Act.put, List.setIfInBounds_toArray, List.set_cons_zero, List.set_cons_succ, List.getElem_toArray, List.getElem_cons_zero, List.getElem_cons_succ]
                        refine wpAnyH_take (i := 4) (v := ?_) rfl (by kernel_rfl) (by kernel_rfl) (by kernel_rfl) (fun _ _ _ h => h) (Or.inl ⟨by rfl, ?_⟩) (by assumption) ?_
                        rotate_left 1
                        · (intro w hSw; (try dsimp only at hSw); first | (go_simp; done) | (go_simp; with_reducible rfl))
                        try simp only [Act.put, List.setIfInBounds_toArray, List.set_cons_zero, List.set_cons_succ, List.getElem_toArray, List.getElem_cons_zero, List.getElem_cons_succ]
                        refine wpAnyH_take (i := 5) (v := ?_) rfl (by kernel_rfl) (by kernel_rfl) (by kernel_rfl) (fun _ _ _ h => h) (Or.inl ⟨by rfl, ?_⟩) (by assumption) ?_
                        rotate_left 1
                        · (intro w hSw; (try dsimp only at hSw); first | (go_simp; done) | (go_simp; with_reducible rfl))
                        try simp only [Act.put, List.setIfInBounds_toArray, List.set_cons_zero, List.set_cons_succ, List.getElem_toArray, List.getElem_cons_zero, List.getElem_cons_succ]
                        refine wpAnyH_take (i := 6) (v := ?_) rfl (by kernel_rfl) (by kernel_rfl) (by kernel_rfl) (fun _ _ _ h => h) (Or.inl ⟨by rfl, ?_⟩) (by assumption) ?_
                        rotate_left 1
                        · (intro w hSw; (try dsimp only at hSw); first | (go_simp; done) | (go_simp; with_reducible rfl))
                        try simp only [Act.put, List.setIfInBounds_toArray, List.set_cons_zero, List.set_cons_succ, List.getElem_toArray, List.getElem_cons_zero, List.getElem_cons_succ]
                        refine wpAnyH_take (i := 7) (v := ?_) rfl (by kernel_rfl) (by kernel_rfl) (by kernel_rfl) (fun _ _ _ h => h) (Or.inl ⟨by rfl, ?_⟩) (by assumption) ?_
                        rotate_left 1
                        · (intro w hSw; (try dsimp only at hSw); first | (go_simp; done) | (go_simp; with_reducible rfl))
                        try simp only [Act.put, List.setIfInBounds_toArray, List.set_cons_zero, List.set_cons_succ, List.getElem_toArray, List.getElem_cons_zero, List.getElem_cons_succ]
                        refine wpAnyH_take (i := 8) (v := ?_) rfl (by kernel_rfl) (by kernel_rfl) (by kernel_rfl) (fun _ _ _ h => h) (Or.inl ⟨by rfl, ?_⟩) (by assumption) ?_
                        rotate_left 1
                        · (intro w hSw; (try dsimp only at hSw); first | (go_simp; done) | (go_simp; with_reducible rfl))
                        try simp only [Act.put, List.setIfInBounds_toArray, List.set_cons_zero, List.set_cons_succ, List.getElem_toArray, List.getElem_cons_zero, List.getElem_cons_succ]
                        refine wpAnyH_take (i := 9) (v := ?_) rfl (by kernel_rfl) (by kernel_rfl) (by kernel_rfl) (fun _ _ _ h => h) (Or.inl ⟨by rfl, ?_⟩) (by assumption) ?_
                        rotate_left 1
                        · (intro w hSw; (try dsimp only at hSw); first | (go_simp; done) | (go_simp; with_reducible rfl))
                        try simp only [Act.put, List.setIfInBounds_toArray, List.set_cons_zero, List.set_cons_succ, List.getElem_toArray, List.getElem_cons_zero, List.getElem_cons_succ]
                        refine wpAnyH_ready (rs := [10]) (by kernel_rfl) (by simp) ?_
                        refine AllReadyH.cons rfl (fun K hK => ?_) AllReadyH.nil
                        go_simp
                        go_at_call 8
                        refine (Batch.fix_any (HR2.out.below (HD.out.kept))).mono ?_
                        rintro e w4 ⟨v4, rfl, ho, hb⟩
                        have hnice := Batch.fix_nice HR2.out.wf
                        have HCB := Lib.hid (nice_cg hnice)
                        have HV4 := Lib.hid (ho.sl hnice.wf)
                        obtain ⟨zs4, h4⟩ := HD.out.withO hb (fun g hg => World.ownsRow.lt ho g hg)
                        have HT4 := Lib.hid h4
                        obtain ⟨vo, vn, vc, rfl⟩ := own_open ho
                        have m1 := HT4.out.cw.cell HK.out.1
                        have mf := HT4.out.cw.fz k
                        clear h4 ho hb hnice
                        try go_wp2_with fail
                        refine hK.out _ _ ?_ (fun hHeld => ?_)
                        · ((try dsimp only); first | exact ⟨hcs, hcell, hcell2⟩ | exact ⟨HT4.out.cs.cell HK.out.1, HT4.out.argAt HU.out rfl, HT4.out.argAt HU2.out rfl⟩ | exact ⟨HT5.out.cs.cell HK.out.1, HT5.out.argAt HU.out rfl, HT5.out.argAt HU2.out rfl⟩)
                        clear hK K
                        try simp only [Act.put, List.setIfInBounds_toArray, List.set_cons_zero, List.set_cons_succ, List.getElem_toArray, List.getElem_cons_zero, List.getElem_cons_succ]
                        refine wpAnyH_take (i := 11) (v := ?_) rfl (by kernel_rfl) (by kernel_rfl) (by kernel_rfl) (fun _ _ _ h => h) (Or.inl ⟨by rfl, ?_⟩) (by assumption) ?_
                        rotate_left 1
                        · (intro w hSw; (try dsimp only at hSw); first | (go_simp; done) | (go_simp; with_reducible rfl))
                        try simp only [Act.put, List.setIfInBounds_toArray, List.set_cons_zero, List.set_cons_succ, List.getElem_toArray, List.getElem_cons_zero, List.getElem_cons_succ]
                        have HT5 := Lib.hid (HT4.out.setW HK.out.1 HV4.out (fun g hg => List.mem_append.2 (.inl (by simp only [hg, Option.mem_toList])))) 
                        refine wpAnyH_ready (rs := [12]) (by kernel_rfl) (by simp) ?_
                        refine AllReadyH.cons rfl (fun K hK => ?_) AllReadyH.nil
                        go_simp
                        skip
                        try go_wp2_with fail
                        refine hK.out _ _ ?_ (fun hHeld => ?_)
                        · ((try dsimp only); first | exact ⟨hcs, hcell, hcell2⟩ | exact ⟨HT4.out.cs.cell HK.out.1, HT4.out.argAt HU.out rfl, HT4.out.argAt HU2.out rfl⟩ | exact ⟨HT5.out.cs.cell HK.out.1, HT5.out.argAt HU.out rfl, HT5.out.argAt HU2.out rfl⟩)
                        clear hK K
                        try simp only [Act.put, List.setIfInBounds_toArray, List.set_cons_zero, List.set_cons_succ, List.getElem_toArray, List.getElem_cons_zero, List.getElem_cons_succ]
                        refine wpAnyH_done (by kernel_rfl) ?_ _
                        have HT6 := Lib.hid HT5.out
                        clear m1 mf hcs hcell hcell2 n0 HV4
                        generalize w4.setCell ⟨wt, k, none⟩ (.slice vo vn vc) = w6 at *
                        have m1 := HT6.out.cw.cell HK.out.1
                        rw [upV_same] at m1
                        have HS6 := Lib.hid (HT6.out.ws k HK.out.1)
                        rw [upV_same, upV_same] at HS6
                        go_wp2_with fail
                        go_at_call 10
                        refine (Batch.to_any HS6.out.rd (by have := HCB.out.len; omega)).mono ?_
                        rintro e w7 ⟨v7, rfl, ho, hb⟩
                        have HV7 := Lib.hid (ho.sl HCB.out.wf)
                        have HT7 := Lib.hid (HT6.out.below hb)
                        clear ho hb m1 HS6
                        go_wp2_with fail
                        go_at_call 9
                        refine (tc_put (k := k) HT7.out HFK.out HN.out HV7.out HCB.out).mono ?_
                        rintro e w8 ⟨X, zs8, rfl, hfr, h8⟩
                        have HT8 := Lib.hid h8
                        have HF8 := Lib.hid (HTP.out.put HIP.out HBI.out HK3.out HFK.out hfr HN.out)
                        have n1 := HT8.out.cn.cell HK.out.1
                        have nf := HT8.out.cn.fz k
                        have HT9 := Lib.hid (HT8.out.laid HK.out.1)
                        obtain ⟨z, hz⟩ : ∃ z, z = ai k + 1 := ⟨_, rfl⟩
                        have hwz : IntKind.i64.wrap ((ai k : Int) + 1) = (z : Int) := by rw [w_id ⟨by omega, by have := HTP.out.ai k; have := HTP.out.bp; have := HP9.out.1; omega⟩]; omega
                        rw [← hz] at HF8
                        clear hfr h8 HT7 HV7 hz
                        go_upto_region 23 with fail
                        clear n1 nf
                        generalize w8.setCell ⟨nw, k, none⟩ (.pointer (some ⟨X.a, 0, none⟩)) = w9 at *
                        have s1 := HT9.out.cs.cell HK.out.1
                        have sf := HT9.out.cs.fz k
                        have HT10 := Lib.hid (HT9.out.setS HK.out.1 z)
                        go_upto_region 24 with fail
                        clear s1 sf
                        generalize w9.setCell ⟨st, k, none⟩ (.int .i64 (z : Int)) = w10 at *
                        have n2 := HT10.out.nowAt HK.out.1 (updF_same _ _ _)
                        go_wp2_with fail
                        go_meet
                        exact ⟨X, b + 1, zs8, _, _, _, _, _, Lib.hid (updF_same _ _ _), Lib.hid (by have := HBI.out; omega), HT10, HF8⟩
                      · have hal' : ¬ (ai k : Int) < (l.length : Int) := by omega
                        have hald : decide ((ai k : Int) < (l.length : Int)) = false := decide_eq_false hal'
                        clear hal
                        go_upto_region 20 with fail
                        refine wp_region_held_drew (S := (fun w' => w'.cell? ⟨st, k, none⟩ = some (.int .i64 (ai k : Int)) ∧ w'.cell? ⟨lb, loff + k, none⟩ = some (.slice uo l.length uc))) (by kernel_rfl) ?_ (fun hHeld => ?_)
                        · ((try dsimp only); exact ⟨hcs, hcell⟩)
                        refine wpAnyH_take (i := 0) (v := ?_) rfl (by kernel_rfl) (by kernel_rfl) (by kernel_rfl) (fun _ _ _ h => h) (Or.inl ⟨by rfl, ?_⟩) (by assumption) ?_
                        rotate_left 1
                        · (intro w hSw; (try dsimp only at hSw); first | (go_simp; done) | (go_simp; with_reducible rfl))
                        try simp only [Act.put, List.setIfInBounds_toArray, List.set_cons_zero, List.set_cons_succ, List.getElem_toArray, List.getElem_cons_zero]
                        refine wpAnyH_take (i := 1) (v := ?_) rfl (by kernel_rfl) (by kernel_rfl) (by kernel_rfl) (fun _ _ _ h => h) (Or.inl ⟨by rfl, ?_⟩) (by assumption) ?_
                        rotate_left 1
                        · (intro w hSw; (try dsimp only at hSw); first | (go_simp; done) | (go_simp; with_reducible rfl))
                        try simp only [Act.put, List.setIfInBounds_toArray, List.set_cons_zero, List.set_cons_succ, List.getElem_toArray, List.getElem_cons_zero, List.getElem_cons_succ]
                        refine wpAnyH_take (i := 2) (v := ?_) rfl (by kernel_rfl) (by kernel_rfl) (by kernel_rfl) (fun _ _ _ h => h) (Or.inl ⟨by rfl, ?_⟩) (by assumption) ?_
                        rotate_left 1
                        · (intro w hSw; (try dsimp only at hSw); first | (go_simp; done) | (go_simp; with_reducible rfl))
                        try simp only [Act.put, List.setIfInBounds_toArray, List.set_cons_zero, List.set_cons_succ, List.getElem_toArray, List.getElem_cons_zero, List.getElem_cons_succ]
                        refine wpAnyH_take (i := 3) (v := ?_) rfl (by kernel_rfl) (by kernel_rfl) (by kernel_rfl) (fun _ _ _ h => h) (Or.inl ⟨by rfl, ?_⟩) (by assumption) ?_
                        rotate_left 1
                        · (intro w hSw; (try dsimp only at hSw); first | (go_simp; done) | (go_simp; with_reducible rfl))
                        try simp only [Act.put, List.setIfInBounds_toArray, List.set_cons_zero, List.set_cons_succ, List.getElem_toArray, List.getElem_cons_zero, List.getElem_cons_succ]
                        refine wpAnyH_take (i := 4) (v := ?_) rfl (by kernel_rfl) (by kernel_rfl) (by kernel_rfl) (fun _ _ _ h => h) (Or.inl ⟨by rfl, ?_⟩) (by assumption) ?_
                        rotate_left 1
                        · (intro w hSw; (try dsimp only at hSw); first | (go_simp; done) | (go_simp; with_reducible rfl))
                        try simp only [Act.put, List.setIfInBounds_toArray, List.set_cons_zero, List.set_cons_succ, List.getElem_toArray, List.getElem_cons_zero, List.getElem_cons_succ]
                        refine wpAnyH_take (i := 5) (v := ?_) rfl (by kernel_rfl) (by kernel_rfl) (by kernel_rfl) (fun _ _ _ h => h) (Or.inl ⟨by rfl, ?_⟩) (by assumption) ?_
                        rotate_left 1
                        · (intro w hSw; (try dsimp only at hSw); first | (go_simp; done) | (go_simp; with_reducible rfl))
                        try simp only [Act.put, List.setIfInBounds_toArray, List.set_cons_zero, List.set_cons_succ, List.getElem_toArray, List.getElem_cons_zero, List.getElem_cons_succ]
                        refine wpAnyH_take (i := 6) (v := ?_) rfl (by kernel_rfl) (by kernel_rfl) (by kernel_rfl) (fun _ _ _ h => h) (Or.inl ⟨by rfl, ?_⟩) (by assumption) ?_
                        rotate_left 1
                        · (intro w hSw; (try dsimp only at hSw); first | (go_simp; done) | (go_simp; with_reducible rfl))
                        try simp only [Act.put, List.setIfInBounds_toArray, List.set_cons_zero, List.set_cons_succ, List.getElem_toArray, List.getElem_cons_zero, List.getElem_cons_succ]
                        refine wpAnyH_take (i := 7) (v := ?_) rfl (by kernel_rfl) (by kernel_rfl) (by kernel_rfl) (fun _ _ _ h => h) (Or.inl ⟨by rfl, ?_⟩) (by assumption) ?_
                        rotate_left 1
                        · (intro w hSw; (try dsimp only at hSw); first | (go_simp; done) | (go_simp; with_reducible rfl))
                        try simp only [Act.put, List.setIfInBounds_toArray, List.set_cons_zero, List.set_cons_succ, List.getElem_toArray, List.getElem_cons_zero, List.getElem_cons_succ]
                        refine wpAnyH_take (i := 8) (v := ?_) rfl (by kernel_rfl) (by kernel_rfl) (by kernel_rfl) (fun _ _ _ h => h) (Or.inl ⟨by rfl, ?_⟩) (by assumption) ?_
                        rotate_left 1
                        · (intro w hSw; (try dsimp only at hSw); first | (go_simp; done) | (go_simp; with_reducible rfl))
                        try simp only [Act.put, List.setIfInBounds_toArray, List.set_cons_zero, List.set_cons_succ, List.getElem_toArray, List.getElem_cons_zero, List.getElem_cons_succ]
                        refine wpAnyH_take (i := 9) (v := ?_) rfl (by kernel_rfl) (by kernel_rfl) (by kernel_rfl) (fun _ _ _ h => h) (Or.inl ⟨by rfl, ?_⟩) (by assumption) ?_
                        rotate_left 1
                        · (intro w hSw; (try dsimp only at hSw); first | (go_simp; done) | (go_simp; with_reducible rfl))
                        try simp only [Act.put, List.setIfInBounds_toArray, List.set_cons_zero, List.set_cons_succ, List.getElem_toArray, List.getElem_cons_zero, List.getElem_cons_succ]
                        refine wpAnyH_take (i := 10) (v := ?_) rfl (by kernel_rfl) (by kernel_rfl) (by kernel_rfl) (fun _ _ _ h => h) (Or.inl ⟨by rfl, ?_⟩) (by assumption) ?_
                        rotate_left 1
                        · (intro w hSw; (try dsimp only at hSw); first | (go_simp; done) | (go_simp; with_reducible rfl))
                        try simp only [Act.put, List.setIfInBounds_toArray, List.set_cons_zero, List.set_cons_succ, List.getElem_toArray, List.getElem_cons_zero, List.getElem_cons_succ]
                        refine wpAnyH_take (i := 11) (v := ?_) rfl (by kernel_rfl) (by kernel_rfl) (by kernel_rfl) (fun _ _ _ h => h) (Or.inl ⟨by rfl, ?_⟩) (by assumption) ?_
                        rotate_left 1
                        · (intro w hSw; (try dsimp only at hSw); first | (go_simp; done) | (go_simp; with_reducible rfl))
                        try simp only [Act.put, List.setIfInBounds_toArray, List.set_cons_zero, List.set_cons_succ, List.getElem_toArray, List.getElem_cons_zero, List.getElem_cons_succ]
                        refine wpAnyH_take (i := 12) (v := ?_) rfl (by kernel_rfl) (by kernel_rfl) (by kernel_rfl) (fun _ _ _ h => h) (Or.inl ⟨by rfl, ?_⟩) (by assumption) ?_
                        rotate_left 1
                        · (intro w hSw; (try dsimp only at hSw); first | (go_simp; done) | (go_simp; with_reducible rfl))
                        try simp only [Act.put, List.setIfInBounds_toArray, List.set_cons_zero, List.set_cons_succ, List.getElem_toArray, List.getElem_cons_zero, List.getElem_cons_succ]
                        refine wpAnyH_take (i := 13) (v := ?_) rfl (by kernel_rfl) (by kernel_rfl) (by kernel_rfl) (fun _ _ _ h => h) (Or.inl ⟨by rfl, ?_⟩) (by assumption) ?_
                        rotate_left 1
                        · (intro w hSw; (try dsimp only at hSw); first | (go_simp; done) | (go_simp; with_reducible rfl))
                        try simp only [Act.put, List.setIfInBounds_toArray, List.set_cons_zero, List.set_cons_succ, List.getElem_toArray, List.getElem_cons_zero, List.getElem_cons_succ]
                        refine wpAnyH_take (i := 14) (v := ?_) rfl (by kernel_rfl) (by kernel_rfl) (by kernel_rfl) (fun _ _ _ h => h) (Or.inl ⟨by rfl, ?_⟩) (by assumption) ?_
                        rotate_left 1
                        · (intro w hSw; (try dsimp only at hSw); first | (go_simp; done) | (go_simp; with_reducible rfl))
                        try simp only [Act.put, List.setIfInBounds_toArray, List.set_cons_zero, List.set_cons_succ, List.getElem_toArray, List.getElem_cons_zero, List.getElem_cons_succ]
                        refine wpAnyH_done (by kernel_rfl) ?_ _
                        have n0 := (HT.out.below (Below.refl _ _).drew).nowNone HK.out.1 HFK.out
                        go_wp2_with fail
                        have HIDLE : Hid (Tp n P (i + 1) b c f wl ai C rnd hl M.lg) := Lib.hid (HTP.out.idle HT.out.iv (fun h => by have := HIP.out; omega))
                        have HT2 := Lib.hid ((HT.out.below (Below.refl _ _).drew).more (Nat.le_succ i))
                        go_roundg (gk - 1)
                        case measure => have := HIM.out; have := HEND.out; omega
                        case rel => exact ⟨i + 1, b, c, zs, bl, vB, f, wv, wl, ai, C, rnd, Bx, hl, M, by have := HIM.out; have := HEND.out; omega, by first | rfl | simp, Lib.hid (by have := HBI.out; omega), HT2, HIDLE⟩
                    · have hkl' : ¬ (k : Int) < (L.length : Int) := by omega
                      have hkld : decide ((k : Int) < (L.length : Int)) = false := decide_eq_false hkl'
                      clear hkl
                      go_upto_region 20 with fail
                      refine wp_region_held_drew (S := (fun _ => True)) (by kernel_rfl) ?_ (fun hHeld => ?_)
                      · ((try dsimp only); all_goals trivial)
                      refine wpAnyH_take (i := 0) (v := ?_) rfl (by kernel_rfl) (by kernel_rfl) (by kernel_rfl) (fun _ _ _ h => h) (Or.inl ⟨by rfl, ?_⟩) (by assumption) ?_
                      rotate_left 1
                      · (intro w hSw; (try dsimp only at hSw); first | (go_simp; done) | (go_simp; with_reducible rfl))
                      try simp only [Act.put, List.setIfInBounds_toArray, List.set_cons_zero, List.set_cons_succ, List.getElem_toArray, List.getElem_cons_zero]
                      refine wpAnyH_take (i := 1) (v := ?_) rfl (by kernel_rfl) (by kernel_rfl) (by kernel_rfl) (fun _ _ _ h => h) (Or.inl ⟨by rfl, ?_⟩) (by assumption) ?_
                      rotate_left 1
                      · (intro w hSw; (try dsimp only at hSw); first | (go_simp; done) | (go_simp; with_reducible rfl))
                      try simp only [Act.put, List.setIfInBounds_toArray, List.set_cons_zero, List.set_cons_succ, List.getElem_toArray, List.getElem_cons_zero, List.getElem_cons_succ]
                      refine wpAnyH_take (i := 2) (v := ?_) rfl (by kernel_rfl) (by kernel_rfl) (by kernel_rfl) (fun _ _ _ h => h) (Or.inl ⟨by rfl, ?_⟩) (by assumption) ?_
                      rotate_left 1
                      · (intro w hSw; (try dsimp only at hSw); first | (go_simp; done) | (go_simp; with_reducible rfl))
                      try simp only [Act.put, List.setIfInBounds_toArray, List.set_cons_zero, List.set_cons_succ, List.getElem_toArray, List.getElem_cons_zero, List.getElem_cons_succ]
                      refine wpAnyH_take (i := 3) (v := ?_) rfl (by kernel_rfl) (by kernel_rfl) (by kernel_rfl) (fun _ _ _ h => h) (Or.inl ⟨by rfl, ?_⟩) (by assumption) ?_
                      rotate_left 1
                      · (intro w hSw; (try dsimp only at hSw); first | (go_simp; done) | (go_simp; with_reducible rfl))
                      try simp only [Act.put, List.setIfInBounds_toArray, List.set_cons_zero, List.set_cons_succ, List.getElem_toArray, List.getElem_cons_zero, List.getElem_cons_succ]
                      refine wpAnyH_take (i := 4) (v := ?_) rfl (by kernel_rfl) (by kernel_rfl) (by kernel_rfl) (fun _ _ _ h => h) (Or.inl ⟨by rfl, ?_⟩) (by assumption) ?_
                      rotate_left 1
                      · (intro w hSw; (try dsimp only at hSw); first | (go_simp; done) | (go_simp; with_reducible rfl))
                      try simp only [Act.put, List.setIfInBounds_toArray, List.set_cons_zero, List.set_cons_succ, List.getElem_toArray, List.getElem_cons_zero, List.getElem_cons_succ]
                      refine wpAnyH_take (i := 5) (v := undef) rfl (by kernel_rfl) (by kernel_rfl) (by kernel_rfl) (fun _ _ _ h => h) (Or.inr ⟨by rfl, rfl⟩) (by assumption) ?_
                      try simp only [Act.put, List.setIfInBounds_toArray, List.set_cons_zero, List.set_cons_succ, List.getElem_toArray, List.getElem_cons_zero, List.getElem_cons_succ]
                      refine wpAnyH_take (i := 6) (v := undef) rfl (by kernel_rfl) (by kernel_rfl) (by kernel_rfl) (fun _ _ _ h => h) (Or.inr ⟨by rfl, rfl⟩) (by assumption) ?_
                      try simp only [Act.put, List.setIfInBounds_toArray, List.set_cons_zero, List.set_cons_succ, List.getElem_toArray, List.getElem_cons_zero, List.getElem_cons_succ]
                      refine wpAnyH_take (i := 7) (v := undef) rfl (by kernel_rfl) (by kernel_rfl) (by kernel_rfl) (fun _ _ _ h => h) (Or.inr ⟨by rfl, rfl⟩) (by assumption) ?_
                      try simp only [Act.put, List.setIfInBounds_toArray, List.set_cons_zero, List.set_cons_succ, List.getElem_toArray, List.getElem_cons_zero, List.getElem_cons_succ]
                      refine wpAnyH_take (i := 8) (v := undef) rfl (by kernel_rfl) (by kernel_rfl) (by kernel_rfl) (fun _ _ _ h => h) (Or.inr ⟨by rfl, rfl⟩) (by assumption) ?_
                      try simp only [Act.put, List.setIfInBounds_toArray, List.set_cons_zero, List.set_cons_succ, List.getElem_toArray, List.getElem_cons_zero, List.getElem_cons_succ]
                      refine wpAnyH_take (i := 9) (v := undef) rfl (by kernel_rfl) (by kernel_rfl) (by kernel_rfl) (fun _ _ _ h => h) (Or.inr ⟨by rfl, rfl⟩) (by assumption) ?_
                      try simp only [Act.put, List.setIfInBounds_toArray, List.set_cons_zero, List.set_cons_succ, List.getElem_toArray, List.getElem_cons_zero, List.getElem_cons_succ]
                      refine wpAnyH_take (i := 10) (v := undef) rfl (by kernel_rfl) (by kernel_rfl) (by kernel_rfl) (fun _ _ _ h => h) (Or.inr ⟨by rfl, rfl⟩) (by assumption) ?_
                      try simp only [Act.put, List.setIfInBounds_toArray, List.set_cons_zero, List.set_cons_succ, List.getElem_toArray, List.getElem_cons_zero, List.getElem_cons_succ]
                      refine wpAnyH_take (i := 11) (v := undef) rfl (by kernel_rfl) (by kernel_rfl) (by kernel_rfl) (fun _ _ _ h => h) (Or.inr ⟨by rfl, rfl⟩) (by assumption) ?_
                      try simp only [Act.put, List.setIfInBounds_toArray, List.set_cons_zero, List.set_cons_succ, List.getElem_toArray, List.getElem_cons_zero, List.getElem_cons_succ]
                      refine wpAnyH_take (i := 12) (v := undef) rfl (by kernel_rfl) (by kernel_rfl) (by kernel_rfl) (fun _ _ _ h => h) (Or.inr ⟨by rfl, rfl⟩) (by assumption) ?_
                      try simp only [Act.put, List.setIfInBounds_toArray, List.set_cons_zero, List.set_cons_succ, List.getElem_toArray, List.getElem_cons_zero, List.getElem_cons_succ]
                      refine wpAnyH_take (i := 13) (v := undef) rfl (by kernel_rfl) (by kernel_rfl) (by kernel_rfl) (fun _ _ _ h => h) (Or.inr ⟨by rfl, rfl⟩) (by assumption) ?_
                      try simp only [Act.put, List.setIfInBounds_toArray, List.set_cons_zero, List.set_cons_succ, List.getElem_toArray, List.getElem_cons_zero, List.getElem_cons_succ]
                      refine wpAnyH_take (i := 14) (v := ?_) rfl (by kernel_rfl) (by kernel_rfl) (by kernel_rfl) (fun _ _ _ h => h) (Or.inl ⟨by rfl, ?_⟩) (by assumption) ?_
                      rotate_left 1
                      · (intro w hSw; (try dsimp only at hSw); first | (go_simp; done) | (go_simp; with_reducible rfl))
                      try simp only [Act.put, List.setIfInBounds_toArray, List.set_cons_zero, List.set_cons_succ, List.getElem_toArray, List.getElem_cons_zero, List.getElem_cons_succ]
                      refine wpAnyH_done (by kernel_rfl) ?_ _
                      have n0 := (HT.out.below (Below.refl _ _).drew).nowNone HK.out.1 HFK.out
                      go_wp2_with fail
                      have HIDLE : Hid (Tp n P (i + 1) b c f wl ai C rnd hl M.lg) := Lib.hid (HTP.out.idle HT.out.iv (fun h => by have := HIP.out; omega))
                      have HT2 := Lib.hid ((HT.out.below (Below.refl _ _).drew).more (Nat.le_succ i))
                      go_roundg (gk - 1)
                      case measure => have := HIM.out; have := HEND.out; omega
                      case rel => exact ⟨i + 1, b, c, zs, bl, vB, f, wv, wl, ai, C, rnd, Bx, hl, M, by have := HIM.out; have := HEND.out; omega, by first | rfl | simp, Lib.hid (by have := HBI.out; omega), HT2, HIDLE⟩
                · have hip' : (P : Int) ≤ (i : Int) := by omega
                  have HIDLE : Hid (Tp n P (i + 1) b c f wl ai C rnd hl M.lg) := Lib.hid (HTP.out.idle HT.out.iv (fun h => by rw [← HK.out.2 h]; exact HFK.out))
                  have HT2 := Lib.hid (HT.out.more (Nat.le_succ i))
                  go_wp2_with fail
                  go_roundg (gk - 1)
                  case measure => have := HIM.out; have := HEND.out; omega
                  case rel => exact ⟨i + 1, b, c, zs, bl, vB, f, wv, wl, ai, C, rnd, Bx, hl, M, by have := HIM.out; have := HEND.out; omega, by first | rfl | simp, Lib.hid (by have := HBI.out; omega), HT2, HIDLE⟩
          case rest =>
            obtain ⟨X, b, zs, bl, f, wv, wl, ai, HFK, HBI, HT, HTP⟩ := hcut
            have hfk := HFK.out
            have n0 := HT.out.nowAt HK.out.1 hfk
            obtain ⟨mk, hmk⟩ : ∃ mk, X.A.mk' = mk := ⟨_, rfl⟩
            obtain ⟨bo, bn2, bc, rfl⟩ := sl_open HT.out.bs
            have HLB : Hid (M.lg.length ≤ 2900) := Lib.hid (by have := HTP.out.lg; omega)
            have hwt : IntKind.i64.wrap ((M.lg.length : Int) + 1) = (M.lg.length : Int) + 1 := by rw [w_id ⟨by omega, by have := HLB.out; omega⟩]
            clear HBN
            go_wp2_with fail
            go_at_call 11
            obtain ⟨o1, _, _, _, _⟩ := HT.out.tells hfk
            refine (plmark_any o1).mono ?_
            rw [hmk]
            rintro e w5 ⟨rfl, rfl⟩
            clear o1
            go_wp2_with fail
            go_at_call 12
            refine HT.out.time.mono ?_
            rintro e w5 ⟨rfl, rfl⟩
            go_wp2_with fail
            go_at_call 13
            refine (tc_step HT.out HTP.out hfk HN.out (by omega) HK.out.2).mono ?_
            intro e w5 hst
            clear n0 hfk
            cases hst with
            | no zs' Bx' hl' M' he hmk0 hlg tc tp =>
              subst he
              have HTE := Lib.hid tc
              have HPE := Lib.hid tp
              have HMK' := Lib.hid hmk
              obtain rfl : mk = 0 := by rw [← hmk]; exact hmk0
              clear hmk hmk0 tc tp
              as_aux_lemma =>
                have hgt : ¬ ((M.lg.length : Int) + 1 < (M'.lg.length : Int)) := by omega
                have HLG := Lib.hid hlg
                clear hlg
                go_wp2_with fail
                go_at_call 12
                refine HTE.out.time.mono ?_
                rintro e w6 ⟨rfl, rfl⟩
                go_wp2_with fail
                go_at_call 11
                obtain ⟨o1, _, _, _, _⟩ := HTE.out.tells HFK.out
                have hcc := plmark_any o1
                rw [HMK'.out] at hcc
                refine hcc.mono ?_
                clear hcc o1
                rintro e w7 ⟨rfl, rfl⟩
                go_wp2_with fail
                go_roundg (gk - 1)
                case measure => have := HIM.out; have := HEND.out; omega
                case rel => exact ⟨i + 1, b, c, zs', bl, (.slice bo bn2 bc), f, wv, wl, ai, C, rnd, Bx', hl', M', by have := HIM.out; have := HEND.out; omega, by first | rfl | simp, HBI, HTE, HPE⟩
            | go zs' Bx' hl' M' X' c' he ha hmk1 hlg tc tp =>
              subst he
              have HTE := Lib.hid tc
              have HPE := Lib.hid tp
              have HA := Lib.hid ha
              have HMK' := Lib.hid (hmk1.trans hmk)
              clear hmk hmk1 tc tp ha
              as_aux_lemma =>
                by_cases hmz : mk = 0
                · subst hmz
                  have hgt : ¬ ((M.lg.length : Int) + 1 < (M'.lg.length : Int)) := by omega
                  have HLG := Lib.hid hlg
                  clear hlg
                  go_wp2_with fail
                  go_at_call 12
                  refine HTE.out.time.mono ?_
                  rintro e w6 ⟨rfl, rfl⟩
                  go_wp2_with fail
                  go_at_call 11
                  obtain ⟨o1, _, _, _, _⟩ := HTE.out.tells (updF_same _ _ _)
                  have hcc := plmark_any o1
                  rw [HA.out, HMK'.out] at hcc
                  refine hcc.mono ?_
                  clear hcc o1
                  rintro e w7 ⟨rfl, rfl⟩
                  go_wp2_with fail
                  go_roundg (gk - 1)
                  case measure => have := HIM.out; have := HEND.out; omega
                  case rel => exact ⟨i + 1, b, c', zs', bl, (.slice bo bn2 bc), (updF f k (some X')), wv, wl, ai, C, rnd, Bx', hl', M', by have := HIM.out; have := HEND.out; omega, by first | rfl | simp, HBI, HTE, HPE⟩
                · have hmzb : (mk == 0) = false := by rw [beq_eq_false_iff_ne]; exact hmz
                  have hgt : ¬ ((M.lg.length : Int) + 1 < (M'.lg.length : Int)) := by omega
                  have HLG := Lib.hid hlg
                  clear hlg
                  go_wp2_with fail
                  go_at_call 12
                  refine HTE.out.time.mono ?_
                  rintro e w6 ⟨rfl, rfl⟩
                  go_wp2_with fail
                  go_roundg (gk - 1)
                  case measure => have := HIM.out; have := HEND.out; omega
                  case rel => exact ⟨i + 1, b, c', zs', bl, (.slice bo bn2 bc), (updF f k (some X')), wv, wl, ai, C, rnd, Bx', hl', M', by have := HIM.out; have := HEND.out; omega, by first | rfl | simp, HBI, HTE, HPE⟩
            | over zs' Bx' hl' M' X' c' he ha hmk1 hm0 hlg hj hT tc tp =>
              subst he
              have HT2 := Lib.hid tc
              have HPE := Lib.hid tp
              have HA := Lib.hid ha
              have HMK' := Lib.hid (hmk1.trans hmk)
              have HJE := Lib.hid hj
              have hmz : ¬ mk = 0 := by rw [hmk] at hm0; omega
              have hmzb : (mk == 0) = false := by rw [beq_eq_false_iff_ne]; exact hmz
              clear hmk hmk1 hm0 tc tp ha hj
              as_aux_lemma =>
                by_cases hk3 : k = 3
                · have HK3 := Lib.hid hk3
                  have HTT := Lib.hid (hT hk3)
                  clear hk3 hT
                  have hgt : ¬ ((M.lg.length : Int) + 1 < (M'.lg.length : Int)) := by omega
                  have HLG := Lib.hid hlg
                  clear hlg
                  go_wp2_with fail
                  go_at_call 12
                  refine HT2.out.time.mono ?_
                  rintro e w6 ⟨rfl, rfl⟩
                  go_wp2_with fail
                  have HWF : Hid (∀ x ∈ wl 3, x.Wf) := Lib.hid (HT2.out.ws 3 (by decide)).wf
                  have hk3' : (k : Int) = 3 := by have := HK3.out; omega
                  have hk3b : ((k : Int) == 3) = true := by rw [hk3']; rfl
                  have hk3d : decide ((k : Int) = 3) = true := decide_eq_true hk3'
                  clear hk3'
                  go_upto_region 40 with fail
                  have HD := Lib.hid (HT2.out.below (Below.refl _ _).drew)
                  refine wp_region_held_drew (S := (fun w' => w'.cell? ⟨wt, 3, none⟩ = some (wv 3))) (by kernel_rfl) ?_ (fun hHeld => ?_)
                  · ((try dsimp only); first | exact HD4.out.cw.cell (by decide) | exact HD3.out.cw.cell (by decide) | exact HD2.out.cw.cell (by decide) | exact HD.out.cw.cell (by decide))
                  refine wpAnyH_take (i := 0) (v := ?_) rfl (by kernel_rfl) (by kernel_rfl) (by kernel_rfl) (fun _ _ _ h => h) (Or.inl ⟨by rfl, ?_⟩) (by assumption) ?_
                  rotate_left 1
                  · (intro w hSw; (try dsimp only at hSw); first | (go_simp; done) | (go_simp; with_reducible rfl))
                  try simp only [Act.put, List.setIfInBounds_toArray, List.set_cons_zero, List.set_cons_succ, List.getElem_toArray, List.getElem_cons_zero]
                  refine wpAnyH_ready (rs := [1]) (by kernel_rfl) (by simp) ?_
                  refine AllReadyH.cons rfl (fun K hK => ?_) AllReadyH.nil
                  go_simp
                  go_at_call 17
                  obtain ⟨o1, o2, _, ook, o5⟩ := HD.out.tells (updF_same _ _ _)
                  have hcc := plok_any o1 o2
                  rw [HA.out, ook, decide_eq_true (o5.2 (Nat.le_of_eq HJE.out.symm))] at hcc
                  refine hcc.mono ?_
                  clear hcc o1 o2 ook o5
                  rintro e w21 ⟨rfl, rfl⟩
                  try go_wp2_with fail
                  refine hK.out _ _ ?_ (fun hHeld => ?_)
                  · ((try dsimp only); first | exact HD4.out.cw.cell (by decide) | exact HD3.out.cw.cell (by decide) | exact HD2.out.cw.cell (by decide) | exact HD.out.cw.cell (by decide))
                  clear hK K
                  try simp only [Act.put, List.setIfInBounds_toArray, List.set_cons_zero, List.set_cons_succ, List.getElem_toArray, List.getElem_cons_zero, List.getElem_cons_succ]
                  refine wpAnyH_take (i := 2) (v := ?_) rfl (by kernel_rfl) (by kernel_rfl) (by kernel_rfl) (fun _ _ _ h => h) (Or.inl ⟨by rfl, ?_⟩) (by assumption) ?_
                  rotate_left 1
                  · (intro w hSw; (try dsimp only at hSw); first | (go_simp; done) | (go_simp; with_reducible rfl))
                  try simp only [Act.put, List.setIfInBounds_toArray, List.set_cons_zero, List.set_cons_succ, List.getElem_toArray, List.getElem_cons_zero, List.getElem_cons_succ]
                  refine wpAnyH_take (i := 3) (v := ?_) rfl (by kernel_rfl) (by kernel_rfl) (by kernel_rfl) (fun _ _ _ h => h) (Or.inl ⟨by rfl, ?_⟩) (by assumption) ?_
                  rotate_left 1
                  · (intro w hSw; (try dsimp only at hSw); first | (go_simp; done) | (go_simp; with_reducible rfl))
                  try simp only [Act.put, List.setIfInBounds_toArray, List.set_cons_zero, List.set_cons_succ, List.getElem_toArray, List.getElem_cons_zero, List.getElem_cons_succ]
                  refine wpAnyH_take (i := 4) (v := ?_) rfl (by kernel_rfl) (by kernel_rfl) (by kernel_rfl) (fun _ _ _ h => h) (Or.inl ⟨by rfl, ?_⟩) (by assumption) ?_
                  rotate_left 1
                  · (intro w hSw; (try dsimp only at hSw); first | (go_simp; done) | (go_simp; with_reducible rfl))
                  try simp only [Act.put, List.setIfInBounds_toArray, List.set_cons_zero, List.set_cons_succ, List.getElem_toArray, List.getElem_cons_zero, List.getElem_cons_succ]
                  refine wpAnyH_ready (rs := [5]) (by kernel_rfl) (by simp) ?_
                  refine AllReadyH.cons rfl (fun K hK => ?_) AllReadyH.nil
                  go_simp
                  go_at_call 11
                  obtain ⟨o1, _, _, _, _⟩ := HD.out.tells (updF_same _ _ _)
                  have hcc := plmark_any o1
                  rw [HA.out, HMK'.out] at hcc
                  refine hcc.mono ?_
                  clear hcc o1
                  rintro e w22 ⟨rfl, rfl⟩
                  try go_wp2_with fail
                  refine hK.out _ _ ?_ (fun hHeld => ?_)
                  · ((try dsimp only); first | exact HD4.out.cw.cell (by decide) | exact HD3.out.cw.cell (by decide) | exact HD2.out.cw.cell (by decide) | exact HD.out.cw.cell (by decide))
                  clear hK K
                  try simp only [Act.put, List.setIfInBounds_toArray, List.set_cons_zero, List.set_cons_succ, List.getElem_toArray, List.getElem_cons_zero, List.getElem_cons_succ]
                  refine wpAnyH_take (i := 6) (v := ?_) rfl (by kernel_rfl) (by kernel_rfl) (by kernel_rfl) (fun _ _ _ h => h) (Or.inl ⟨by rfl, ?_⟩) (by assumption) ?_
                  rotate_left 1
                  · (intro w hSw; (try dsimp only at hSw); first | (go_simp; done) | (go_simp; with_reducible rfl))
                  try simp only [Act.put, List.setIfInBounds_toArray, List.set_cons_zero, List.set_cons_succ, List.getElem_toArray, List.getElem_cons_zero, List.getElem_cons_succ]
                  refine wpAnyH_take (i := 7) (v := ?_) rfl (by kernel_rfl) (by kernel_rfl) (by kernel_rfl) (fun _ _ _ h => h) (Or.inl ⟨by rfl, ?_⟩) (by assumption) ?_
                  rotate_left 1
                  · (intro w hSw; (try dsimp only at hSw); first | (go_simp; done) | (go_simp; with_reducible rfl))
                  try simp only [Act.put, List.setIfInBounds_toArray, List.set_cons_zero, List.set_cons_succ, List.getElem_toArray, List.getElem_cons_zero, List.getElem_cons_succ]
                  refine wpAnyH_take (i := 8) (v := ?_) rfl (by kernel_rfl) (by kernel_rfl) (by kernel_rfl) (fun _ _ _ h => h) (Or.inl ⟨by rfl, ?_⟩) (by assumption) ?_
                  rotate_left 1
                  · (intro w hSw; (try dsimp only at hSw); first | (go_simp; done) | (go_simp; with_reducible rfl))
                  try simp only [Act.put, List.setIfInBounds_toArray, List.set_cons_zero, List.set_cons_succ, List.getElem_toArray, List.getElem_cons_zero, List.getElem_cons_succ]
                  refine wpAnyH_take (i := 9) (v := ?_) rfl (by kernel_rfl) (by kernel_rfl) (by kernel_rfl) (fun _ _ _ h => h) (Or.inl ⟨by rfl, ?_⟩) (by assumption) ?_
                  rotate_left 1
                  · (intro w hSw; (try dsimp only at hSw); first | (go_simp; done) | (go_simp; with_reducible rfl))
                  try simp only [Act.put, List.setIfInBounds_toArray, List.set_cons_zero, List.set_cons_succ, List.getElem_toArray, List.getElem_cons_zero, List.getElem_cons_succ]
                  refine wpAnyH_take (i := 10) (v := ?_) rfl (by kernel_rfl) (by kernel_rfl) (by kernel_rfl) (fun _ _ _ h => h) (Or.inl ⟨by rfl, ?_⟩) (by assumption) ?_
                  rotate_left 1
                  · (intro w hSw; (try dsimp only at hSw); first | (go_simp; done) | (go_simp; with_reducible rfl))
                  try simp only [Act.put, List.setIfInBounds_toArray, List.set_cons_zero, List.set_cons_succ, List.getElem_toArray, List.getElem_cons_zero, List.getElem_cons_succ]
                  refine wpAnyH_take (i := 11) (v := ?_) rfl (by kernel_rfl) (by kernel_rfl) (by kernel_rfl) (fun _ _ _ h => h) (Or.inl ⟨by rfl, ?_⟩) (by assumption) ?_
                  rotate_left 1
                  · (intro w hSw; (try dsimp only at hSw); first | (go_simp; done) | (go_simp; with_reducible rfl))
                  try simp only [Act.put, List.setIfInBounds_toArray, List.set_cons_zero, List.set_cons_succ, List.getElem_toArray, List.getElem_cons_zero, List.getElem_cons_succ]
                  refine wpAnyH_take (i := 12) (v := ?_) rfl (by kernel_rfl) (by kernel_rfl) (by kernel_rfl) (fun _ _ _ h => h) (Or.inl ⟨by rfl, ?_⟩) (by assumption) ?_
                  rotate_left 1
                  · (intro w hSw; (try dsimp only at hSw); first | (go_simp; done) | (go_simp; with_reducible rfl))
                  try simp only [Act.put, List.setIfInBounds_toArray, List.set_cons_zero, List.set_cons_succ, List.getElem_toArray, List.getElem_cons_zero, List.getElem_cons_succ]
                  refine wpAnyH_take (i := 15) (v := ?_) rfl (by kernel_rfl) (by kernel_rfl) (by kernel_rfl) (fun _ _ _ h => h) (Or.inl ⟨by rfl, ?_⟩) (by assumption) ?_
                  rotate_left 1
                  · (intro w hSw; (try dsimp only at hSw); first | (go_simp; done) | (go_simp; with_reducible rfl))
                  try simp only [Act.put, List.setIfInBounds_toArray, List.set_cons_zero, List.set_cons_succ, List.getElem_toArray, List.getElem_cons_zero, List.getElem_cons_succ]
                  refine wpAnyH_take (i := 16) (v := ?_) rfl (by kernel_rfl) (by kernel_rfl) (by kernel_rfl) (fun _ _ _ h => h) (Or.inl ⟨by rfl, ?_⟩) (by assumption) ?_
                  rotate_left 1
                  · (intro w hSw; (try dsimp only at hSw); first | (go_simp; done) | (go_simp; with_reducible rfl))
                  try simp only [Act.put, List.setIfInBounds_toArray, List.set_cons_zero, List.set_cons_succ, List.getElem_toArray, List.getElem_cons_zero, List.getElem_cons_succ]
                  refine wpAnyH_ready (rs := [13]) (by kernel_rfl) (by simp) ?_
                  refine AllReadyH.cons rfl (fun K hK => ?_) AllReadyH.nil
                  go_simp
                  go_at_call 20
                  obtain ⟨o1, o2, o3, ook, o5⟩ := HD.out.tells (updF_same _ _ _)
                  rw [HTT.out] at o3
                  have hcc := plbatch_any o1 o2 o3 ook (o5.2 (Nat.le_of_eq HJE.out.symm)) (by have := HTP.out.w3; omega)
                  rw [HA.out] at hcc
                  refine hcc.mono ?_
                  clear hcc
                  rintro e w23 ⟨v23, rfl, ho, hb⟩
                  have HV23 := Lib.hid (ho.sl HWF.out)
                  have HD2 := Lib.hid (HD.out.below hb)
                  clear ho hb o1 o2 o3 ook o5
                  try go_wp2_with fail
                  refine hK.out _ _ ?_ (fun hHeld => ?_)
                  · ((try dsimp only); first | exact HD4.out.cw.cell (by decide) | exact HD3.out.cw.cell (by decide) | exact HD2.out.cw.cell (by decide) | exact HD.out.cw.cell (by decide))
                  clear hK K
                  try simp only [Act.put, List.setIfInBounds_toArray, List.set_cons_zero, List.set_cons_succ, List.getElem_toArray, List.getElem_cons_zero, List.getElem_cons_succ]
                  refine wpAnyH_ready (rs := [14]) (by kernel_rfl) (by simp) ?_
                  refine AllReadyH.cons rfl (fun K hK => ?_) AllReadyH.nil
                  go_simp
                  go_at_call 19
                  refine (Batch.from_any HV23.out.rd (by have := HTP.out.w3; omega)).mono ?_
                  rintro e w24 ⟨v24, rfl, ho, hb⟩
                  have HV24 := Lib.hid (ho.sl HWF.out)
                  have HD3 := Lib.hid (HD2.out.below hb)
                  clear ho hb
                  try go_wp2_with fail
                  refine hK.out _ _ ?_ (fun hHeld => ?_)
                  · ((try dsimp only); first | exact HD4.out.cw.cell (by decide) | exact HD3.out.cw.cell (by decide) | exact HD2.out.cw.cell (by decide) | exact HD.out.cw.cell (by decide))
                  clear hK K
                  try simp only [Act.put, List.setIfInBounds_toArray, List.set_cons_zero, List.set_cons_succ, List.getElem_toArray, List.getElem_cons_zero, List.getElem_cons_succ]
                  refine wpAnyH_ready (rs := [17]) (by kernel_rfl) (by simp) ?_
                  refine AllReadyH.cons rfl (fun K hK => ?_) AllReadyH.nil
                  go_simp
                  go_at_call 18
                  refine (Batch.refsame_any HV24.out.rd (HD3.out.ws 3 (by decide)).rd).mono ?_
                  rw [eqL_sameT]
                  rintro e w25 ⟨rfl, hb⟩
                  have HD4 := Lib.hid (HD3.out.below hb)
                  clear hb
                  try go_wp2_with fail
                  refine hK.out _ _ ?_ (fun hHeld => ?_)
                  · ((try dsimp only); first | exact HD4.out.cw.cell (by decide) | exact HD3.out.cw.cell (by decide) | exact HD2.out.cw.cell (by decide) | exact HD.out.cw.cell (by decide))
                  clear hK K
                  try simp only [Act.put, List.setIfInBounds_toArray, List.set_cons_zero, List.set_cons_succ, List.getElem_toArray, List.getElem_cons_zero, List.getElem_cons_succ]
                  refine wpAnyH_take (i := 18) (v := ?_) rfl (by kernel_rfl) (by kernel_rfl) (by kernel_rfl) (fun _ _ _ h => h) (Or.inl ⟨by rfl, ?_⟩) (by assumption) ?_
                  rotate_left 1
                  · (intro w hSw; (try dsimp only at hSw); first | (go_simp; done) | (go_simp; with_reducible rfl))
                  try simp only [Act.put, List.setIfInBounds_toArray, List.set_cons_zero, List.set_cons_succ, List.getElem_toArray, List.getElem_cons_zero, List.getElem_cons_succ]
                  refine wpAnyH_take (i := 19) (v := ?_) rfl (by kernel_rfl) (by kernel_rfl) (by kernel_rfl) (fun _ _ _ h => h) (Or.inl ⟨by rfl, ?_⟩) (by assumption) ?_
                  rotate_left 1
                  · (intro w hSw; (try dsimp only at hSw); first | (go_simp; done) | (go_simp; with_reducible rfl))
                  try simp only [Act.put, List.setIfInBounds_toArray, List.set_cons_zero, List.set_cons_succ, List.getElem_toArray, List.getElem_cons_zero, List.getElem_cons_succ]
                  refine wpAnyH_take (i := 20) (v := ?_) rfl (by kernel_rfl) (by kernel_rfl) (by kernel_rfl) (fun _ _ _ h => h) (Or.inl ⟨by rfl, ?_⟩) (by assumption) ?_
                  rotate_left 1
                  · (intro w hSw; (try dsimp only at hSw); first | (go_simp; done) | (go_simp; with_reducible rfl))
                  try simp only [Act.put, List.setIfInBounds_toArray, List.set_cons_zero, List.set_cons_succ, List.getElem_toArray, List.getElem_cons_zero, List.getElem_cons_succ]
                  refine wpAnyH_done (by kernel_rfl) ?_ _
                  have n3 := HD4.out.cn.cell HK.out.1
                  have nf3 := HD4.out.cn.fz k
                  have HTE := Lib.hid (HD4.out.fin HK.out.1 HJE.out)
                  clear HT2 HD HD2 HD3 HD4
                  go_wp2_with fail
                  go_roundg (gk - 1)
                  case measure => have := HIM.out; have := HEND.out; omega
                  case rel => exact ⟨i + 1, b, c', zs', bl, (.slice bo bn2 bc), (updF f k none), wv, wl, ai, C, rnd, Bx', hl', M', by have := HIM.out; have := HEND.out; omega, by first | rfl | simp, HBI, HTE, HPE⟩
                · have HKP : Hid (k < 3) := Lib.hid (by have := HK.out.1; omega)
                  clear hk3 hT
                  have hgt : ¬ ((M.lg.length : Int) + 1 < (M'.lg.length : Int)) := by omega
                  have HLG := Lib.hid hlg
                  clear hlg
                  go_wp2_with fail
                  go_at_call 12
                  refine HT2.out.time.mono ?_
                  rintro e w6 ⟨rfl, rfl⟩
                  go_wp2_with fail
                  have HK3 : Hid (k < 3) := HKP
                  have hk3' : ¬ (k : Int) = 3 := by have := HK3.out; omega
                  have hk3b : ((k : Int) == 3) = false := by rw [beq_eq_false_iff_ne]; exact hk3'
                  have hk3d : decide ((k : Int) = 3) = false := decide_eq_false hk3'
                  go_upto_region 40 with fail
                  have HD := Lib.hid (HT2.out.below (Below.refl _ _).drew)
                  refine wp_region_held_drew (S := (fun _ => True)) (by kernel_rfl) ?_ (fun hHeld => ?_)
                  · ((try dsimp only); all_goals trivial)
                  refine wpAnyH_take (i := 0) (v := ?_) rfl (by kernel_rfl) (by kernel_rfl) (by kernel_rfl) (fun _ _ _ h => h) (Or.inl ⟨by rfl, ?_⟩) (by assumption) ?_
                  rotate_left 1
                  · (intro w hSw; (try dsimp only at hSw); first | (go_simp; done) | (go_simp; with_reducible rfl))
                  try simp only [Act.put, List.setIfInBounds_toArray, List.set_cons_zero, List.set_cons_succ, List.getElem_toArray, List.getElem_cons_zero]
                  refine wpAnyH_ready (rs := [1]) (by kernel_rfl) (by simp) ?_
                  refine AllReadyH.cons rfl (fun K hK => ?_) AllReadyH.nil
                  go_simp
                  go_at_call 17
                  obtain ⟨o1, o2, _, ook, o5⟩ := HD.out.tells (updF_same _ _ _)
                  have hcc := plok_any o1 o2
                  rw [HA.out, ook, decide_eq_true (o5.2 (Nat.le_of_eq HJE.out.symm))] at hcc
                  refine hcc.mono ?_
                  clear hcc o1 o2 ook o5
                  rintro e w21 ⟨rfl, rfl⟩
                  try go_wp2_with fail
                  refine hK.out _ _ ?_ (fun hHeld => ?_)
                  · ((try dsimp only); all_goals trivial)
                  clear hK K
                  try simp only [Act.put, List.setIfInBounds_toArray, List.set_cons_zero, List.set_cons_succ, List.getElem_toArray, List.getElem_cons_zero, List.getElem_cons_succ]
                  refine wpAnyH_take (i := 2) (v := ?_) rfl (by kernel_rfl) (by kernel_rfl) (by kernel_rfl) (fun _ _ _ h => h) (Or.inl ⟨by rfl, ?_⟩) (by assumption) ?_
                  rotate_left 1
                  · (intro w hSw; (try dsimp only at hSw); first | (go_simp; done) | (go_simp; with_reducible rfl))
                  try simp only [Act.put, List.setIfInBounds_toArray, List.set_cons_zero, List.set_cons_succ, List.getElem_toArray, List.getElem_cons_zero, List.getElem_cons_succ]
                  refine wpAnyH_take (i := 3) (v := ?_) rfl (by kernel_rfl) (by kernel_rfl) (by kernel_rfl) (fun _ _ _ h => h) (Or.inl ⟨by rfl, ?_⟩) (by assumption) ?_
                  rotate_left 1
                  · (intro w hSw; (try dsimp only at hSw); first | (go_simp; done) | (go_simp; with_reducible rfl))
                  try simp only [Act.put, List.setIfInBounds_toArray, List.set_cons_zero, List.set_cons_succ, List.getElem_toArray, List.getElem_cons_zero, List.getElem_cons_succ]
                  refine wpAnyH_take (i := 4) (v := ?_) rfl (by kernel_rfl) (by kernel_rfl) (by kernel_rfl) (fun _ _ _ h => h) (Or.inl ⟨by rfl, ?_⟩) (by assumption) ?_
                  rotate_left 1
                  · (intro w hSw; (try dsimp only at hSw); first | (go_simp; done) | (go_simp; with_reducible rfl))
                  try simp only [Act.put, List.setIfInBounds_toArray, List.set_cons_zero, List.set_cons_succ, List.getElem_toArray, List.getElem_cons_zero, List.getElem_cons_succ]
                  refine wpAnyH_ready (rs := [5]) (by kernel_rfl) (by simp) ?_
                  refine AllReadyH.cons rfl (fun K hK => ?_) AllReadyH.nil
                  go_simp
                  go_at_call 11
                  obtain ⟨o1, _, _, _, _⟩ := HD.out.tells (updF_same _ _ _)
                  have hcc := plmark_any o1
                  rw [HA.out, HMK'.out] at hcc
                  refine hcc.mono ?_
                  clear hcc o1
                  rintro e w22 ⟨rfl, rfl⟩
                  try go_wp2_with fail
                  refine hK.out _ _ ?_ (fun hHeld => ?_)
                  · ((try dsimp only); all_goals trivial)
                  clear hK K
                  try simp only [Act.put, List.setIfInBounds_toArray, List.set_cons_zero, List.set_cons_succ, List.getElem_toArray, List.getElem_cons_zero, List.getElem_cons_succ]
                  refine wpAnyH_take (i := 6) (v := ?_) rfl (by kernel_rfl) (by kernel_rfl) (by kernel_rfl) (fun _ _ _ h => h) (Or.inl ⟨by rfl, ?_⟩) (by assumption) ?_
                  rotate_left 1
                  · (intro w hSw; (try dsimp only at hSw); first | (go_simp; done) | (go_simp; with_reducible rfl))
                  try simp only [Act.put, List.setIfInBounds_toArray, List.set_cons_zero, List.set_cons_succ, List.getElem_toArray, List.getElem_cons_zero, List.getElem_cons_succ]
                  refine wpAnyH_take (i := 7) (v := ?_) rfl (by kernel_rfl) (by kernel_rfl) (by kernel_rfl) (fun _ _ _ h => h) (Or.inl ⟨by rfl, ?_⟩) (by assumption) ?_
                  rotate_left 1
                  · (intro w hSw; (try dsimp only at hSw); first | (go_simp; done) | (go_simp; with_reducible rfl))
                  try simp only [Act.put, List.setIfInBounds_toArray, List.set_cons_zero, List.set_cons_succ, List.getElem_toArray, List.getElem_cons_zero, List.getElem_cons_succ]
                  refine wpAnyH_take (i := 8) (v := ?_) rfl (by kernel_rfl) (by kernel_rfl) (by kernel_rfl) (fun _ _ _ h => h) (Or.inl ⟨by rfl, ?_⟩) (by assumption) ?_
                  rotate_left 1
                  · (intro w hSw; (try dsimp only at hSw); first | (go_simp; done) | (go_simp; with_reducible rfl))
                  try simp only [Act.put, List.setIfInBounds_toArray, List.set_cons_zero, List.set_cons_succ, List.getElem_toArray, List.getElem_cons_zero, List.getElem_cons_succ]
                  refine wpAnyH_take (i := 9) (v := ?_) rfl (by kernel_rfl) (by kernel_rfl) (by kernel_rfl) (fun _ _ _ h => h) (Or.inl ⟨by rfl, ?_⟩) (by assumption) ?_
                  rotate_left 1
                  · (intro w hSw; (try dsimp only at hSw); first | (go_simp; done) | (go_simp; with_reducible rfl))
                  try simp only [Act.put, List.setIfInBounds_toArray, List.set_cons_zero, List.set_cons_succ, List.getElem_toArray, List.getElem_cons_zero, List.getElem_cons_succ]
                  refine wpAnyH_take (i := 10) (v := ?_) rfl (by kernel_rfl) (by kernel_rfl) (by kernel_rfl) (fun _ _ _ h => h) (Or.inl ⟨by rfl, ?_⟩) (by assumption) ?_
                  rotate_left 1
                  · (intro w hSw; (try dsimp only at hSw); first | (go_simp; done) | (go_simp; with_reducible rfl))
                  try simp only [Act.put, List.setIfInBounds_toArray, List.set_cons_zero, List.set_cons_succ, List.getElem_toArray, List.getElem_cons_zero, List.getElem_cons_succ]
                  refine wpAnyH_take (i := 11) (v := ?_) rfl (by kernel_rfl) (by kernel_rfl) (by kernel_rfl) (fun _ _ _ h => h) (Or.inl ⟨by rfl, ?_⟩) (by assumption) ?_
                  rotate_left 1
                  · (intro w hSw; (try dsimp only at hSw); first | (go_simp; done) | (go_simp; with_reducible rfl))
                  try simp only [Act.put, List.setIfInBounds_toArray, List.set_cons_zero, List.set_cons_succ, List.getElem_toArray, List.getElem_cons_zero, List.getElem_cons_succ]
                  refine wpAnyH_take (i := 12) (v := undef) rfl (by kernel_rfl) (by kernel_rfl) (by kernel_rfl) (fun _ _ _ h => h) (Or.inr ⟨by rfl, rfl⟩) (by assumption) ?_
                  try simp only [Act.put, List.setIfInBounds_toArray, List.set_cons_zero, List.set_cons_succ, List.getElem_toArray, List.getElem_cons_zero, List.getElem_cons_succ]
                  refine wpAnyH_take (i := 13) (v := undef) rfl (by kernel_rfl) (by kernel_rfl) (by kernel_rfl) (fun _ _ _ h => h) (Or.inr ⟨by rfl, rfl⟩) (by assumption) ?_
                  try simp only [Act.put, List.setIfInBounds_toArray, List.set_cons_zero, List.set_cons_succ, List.getElem_toArray, List.getElem_cons_zero, List.getElem_cons_succ]
                  refine wpAnyH_take (i := 14) (v := undef) rfl (by kernel_rfl) (by kernel_rfl) (by kernel_rfl) (fun _ _ _ h => h) (Or.inr ⟨by rfl, rfl⟩) (by assumption) ?_
                  try simp only [Act.put, List.setIfInBounds_toArray, List.set_cons_zero, List.set_cons_succ, List.getElem_toArray, List.getElem_cons_zero, List.getElem_cons_succ]
                  refine wpAnyH_take (i := 15) (v := undef) rfl (by kernel_rfl) (by kernel_rfl) (by kernel_rfl) (fun _ _ _ h => h) (Or.inr ⟨by rfl, rfl⟩) (by assumption) ?_
                  try simp only [Act.put, List.setIfInBounds_toArray, List.set_cons_zero, List.set_cons_succ, List.getElem_toArray, List.getElem_cons_zero, List.getElem_cons_succ]
                  refine wpAnyH_take (i := 16) (v := undef) rfl (by kernel_rfl) (by kernel_rfl) (by kernel_rfl) (fun _ _ _ h => h) (Or.inr ⟨by rfl, rfl⟩) (by assumption) ?_
                  try simp only [Act.put, List.setIfInBounds_toArray, List.set_cons_zero, List.set_cons_succ, List.getElem_toArray, List.getElem_cons_zero, List.getElem_cons_succ]
                  refine wpAnyH_take (i := 17) (v := undef) rfl (by kernel_rfl) (by kernel_rfl) (by kernel_rfl) (fun _ _ _ h => h) (Or.inr ⟨by rfl, rfl⟩) (by assumption) ?_
                  try simp only [Act.put, List.setIfInBounds_toArray, List.set_cons_zero, List.set_cons_succ, List.getElem_toArray, List.getElem_cons_zero, List.getElem_cons_succ]
                  refine wpAnyH_take (i := 18) (v := undef) rfl (by kernel_rfl) (by kernel_rfl) (by kernel_rfl) (fun _ _ _ h => h) (Or.inr ⟨by rfl, rfl⟩) (by assumption) ?_
                  try simp only [Act.put, List.setIfInBounds_toArray, List.set_cons_zero, List.set_cons_succ, List.getElem_toArray, List.getElem_cons_zero, List.getElem_cons_succ]
                  refine wpAnyH_take (i := 19) (v := ?_) rfl (by kernel_rfl) (by kernel_rfl) (by kernel_rfl) (fun _ _ _ h => h) (Or.inl ⟨by rfl, ?_⟩) (by assumption) ?_
                  rotate_left 1
                  · (intro w hSw; (try dsimp only at hSw); first | (go_simp; done) | (go_simp; with_reducible rfl))
                  try simp only [Act.put, List.setIfInBounds_toArray, List.set_cons_zero, List.set_cons_succ, List.getElem_toArray, List.getElem_cons_zero, List.getElem_cons_succ]
                  refine wpAnyH_take (i := 20) (v := ?_) rfl (by kernel_rfl) (by kernel_rfl) (by kernel_rfl) (fun _ _ _ h => h) (Or.inl ⟨by rfl, ?_⟩) (by assumption) ?_
                  rotate_left 1
                  · (intro w hSw; (try dsimp only at hSw); first | (go_simp; done) | (go_simp; with_reducible rfl))
                  try simp only [Act.put, List.setIfInBounds_toArray, List.set_cons_zero, List.set_cons_succ, List.getElem_toArray, List.getElem_cons_zero, List.getElem_cons_succ]
                  refine wpAnyH_done (by kernel_rfl) ?_ _
                  have n3 := HD.out.cn.cell HK.out.1
                  have nf3 := HD.out.cn.fz k
                  have HTE := Lib.hid (HD.out.fin HK.out.1 HJE.out)
                  have HPE := HPE
                  clear HT2 HD
                  go_wp2_with fail
                  go_roundg (gk - 1)
                  case measure => have := HIM.out; have := HEND.out; omega
                  case rel => exact ⟨i + 1, b, c', zs', bl, (.slice bo bn2 bc), (updF f k none), wv, wl, ai, C, rnd, Bx', hl', M', by have := HIM.out; have := HEND.out; omega, by first | rfl | simp, HBI, HTE, HPE⟩
            | put zs' Bx' hl' M' X' c' C' ov hk he ha hmk0 hlg hmk1 hrd hC hE hlen hwf hj tc tp =>
              subst he
              have HT2 := Lib.hid tc
              have HP2 := Lib.hid tp
              have HA := Lib.hid ha
              have HMK' := Lib.hid hmk1
              have HRD := Lib.hid hrd
              have HKP := Lib.hid hk
              have HJ := Lib.hid hj
              have HCC := Lib.hid (And.intro hC (And.intro hE (And.intro hlen hwf)))
              obtain rfl : mk = 0 := by rw [← hmk]; exact hmk0
              have hmz : ¬ (M'.lg.length : Int) = 0 := by omega
              have hmzb : ((M'.lg.length : Int) == 0) = false := by rw [beq_eq_false_iff_ne]; exact hmz
              have hmw : ¬ (M'.lg.length : Int) = (M.lg.length : Int) := by omega
              have hmwb : ((M'.lg.length : Int) == (M.lg.length : Int)) = false := by rw [beq_eq_false_iff_ne]; exact hmw
              have hk3' : ¬ (k : Int) = 3 := by omega
              have hk3b : ((k : Int) == 3) = false := by rw [beq_eq_false_iff_ne]; exact hk3'
              clear hmk hmk0 tc tp ha hmk1 hrd hk hC hE hlen hwf hj
              as_aux_lemma =>
                have hws := HT2.out.cw.cell HK.out.1
                have hgt : ¬ ((M.lg.length : Int) + 1 < (M'.lg.length : Int)) := by omega
                have HLG := Lib.hid hlg
                clear hlg
                go_wp2_with fail
                go_at_call 12
                refine HT2.out.time.mono ?_
                rintro e w6 ⟨rfl, rfl⟩
                go_wp2_with fail
                go_at_call 11
                obtain ⟨o1, _, _, _, _⟩ := HT2.out.tells (updF_same _ _ _)
                have hcc := plmark_any o1
                rw [HA.out, HMK'.out] at hcc
                refine hcc.mono ?_
                clear hcc o1
                rintro e w7 ⟨rfl, rfl⟩
                go_wp2_with fail
                go_at_call 11
                obtain ⟨o1, _, _, _, _⟩ := HT2.out.tells (updF_same _ _ _)
                have hcc := plmark_any o1
                rw [HA.out, HMK'.out] at hcc
                refine hcc.mono ?_
                clear hcc o1
                rintro e w7 ⟨rfl, rfl⟩
                go_wp2_with fail
                go_at_call 12
                refine HT2.out.time.mono ?_
                rintro e w8 ⟨rfl, rfl⟩
                go_wp2_with fail
                go_at_call 11
                obtain ⟨o1, _, _, _, _⟩ := HT2.out.tells (updF_same _ _ _)
                have hcc := plmark_any o1
                rw [HA.out, HMK'.out] at hcc
                refine hcc.mono ?_
                clear hcc o1
                rintro e w7 ⟨rfl, rfl⟩
                go_wp2_with fail
                go_at_call 15
                refine (refput_any HT2.out.rs HT2.out.bs (HT2.out.ws k HK.out.1) HCC.out.2.2.1 HCC.out.2.1).mono ?_
                rintro e w10 ⟨rfl, v', w1', ho, hb, rfl⟩
                rw [← HCC.out.1] at ho
                obtain ⟨zs10, h10⟩ := HT2.out.wasput hb ho HCC.out.2.2.2
                have HT3 := Lib.hid h10
                clear h10 ho hb HT2 hws
                generalize w1'.setCell ⟨r, 0, none⟩ v' = w10 at *
                go_upto_region 37 with fail
                have HE := Lib.hid (HT3.out.below (Below.refl _ _).drew)
                refine wp_region_held_drew (S := (fun w' => w'.cell? ⟨r, 1, none⟩ = some (.int .u64 rnd))) (by kernel_rfl) ?_ (fun hHeld => ?_)
                · ((try dsimp only); exact HE.out.rs.cell.2.1)
                refine wpAnyH_take (i := 0) (v := ?_) rfl (by kernel_rfl) (by kernel_rfl) (by kernel_rfl) (fun _ _ _ h => h) (Or.inl ⟨by rfl, ?_⟩) (by assumption) ?_
                rotate_left 1
                · (intro w hSw; (try dsimp only at hSw); first | (go_simp; done) | (go_simp; with_reducible rfl))
                try simp only [Act.put, List.setIfInBounds_toArray, List.set_cons_zero, List.set_cons_succ, List.getElem_toArray, List.getElem_cons_zero]
                refine wpAnyH_take (i := 2) (v := ?_) rfl (by kernel_rfl) (by kernel_rfl) (by kernel_rfl) (fun _ _ _ h => h) (Or.inl ⟨by rfl, ?_⟩) (by assumption) ?_
                rotate_left 1
                · (intro w hSw; (try dsimp only at hSw); first | (go_simp; done) | (go_simp; with_reducible rfl))
                try simp only [Act.put, List.setIfInBounds_toArray, List.set_cons_zero, List.set_cons_succ, List.getElem_toArray, List.getElem_cons_zero, List.getElem_cons_succ]
                refine wpAnyH_take (i := 3) (v := ?_) rfl (by kernel_rfl) (by kernel_rfl) (by kernel_rfl) (fun _ _ _ h => h) (Or.inl ⟨by rfl, ?_⟩) (by assumption) ?_
                rotate_left 1
                · (intro w hSw; (try dsimp only at hSw); first | (go_simp; done) | (go_simp; with_reducible rfl))
                try simp only [Act.put, List.setIfInBounds_toArray, List.set_cons_zero, List.set_cons_succ, List.getElem_toArray, List.getElem_cons_zero, List.getElem_cons_succ]
                refine wpAnyH_take (i := 4) (v := ?_) rfl (by kernel_rfl) (by kernel_rfl) (by kernel_rfl) (fun _ _ _ h => h) (Or.inl ⟨by rfl, ?_⟩) (by assumption) ?_
                rotate_left 1
                · (intro w hSw; (try dsimp only at hSw); first | (go_simp; done) | (go_simp; with_reducible rfl))
                try simp only [Act.put, List.setIfInBounds_toArray, List.set_cons_zero, List.set_cons_succ, List.getElem_toArray, List.getElem_cons_zero, List.getElem_cons_succ]
                refine wpAnyH_take (i := 5) (v := ?_) rfl (by kernel_rfl) (by kernel_rfl) (by kernel_rfl) (fun _ _ _ h => h) (Or.inl ⟨by rfl, ?_⟩) (by assumption) ?_
                rotate_left 1
                · (intro w hSw; (try dsimp only at hSw); first | (go_simp; done) | (go_simp; with_reducible rfl))
                try simp only [Act.put, List.setIfInBounds_toArray, List.set_cons_zero, List.set_cons_succ, List.getElem_toArray, List.getElem_cons_zero, List.getElem_cons_succ]
                refine wpAnyH_ready (rs := [1]) (by kernel_rfl) (by simp) ?_
                refine AllReadyH.cons rfl (fun K hK => ?_) AllReadyH.nil
                go_simp
                go_at_call 16
                obtain ⟨o1, _, _, _, _⟩ := HE.out.tells (updF_same _ _ _)
                have hcc := plround_any o1
                rw [HA.out, if_neg (by rw [HMK'.out]; exact hmz), HRD.out] at hcc
                refine hcc.mono ?_
                clear hcc o1
                rintro e w27 ⟨rfl, rfl⟩
                try go_wp2_with fail
                refine hK.out _ _ ?_ (fun hHeld => ?_)
                · ((try dsimp only); exact HE.out.rs.cell.2.1)
                clear hK K
                try simp only [Act.put, List.setIfInBounds_toArray, List.set_cons_zero, List.set_cons_succ, List.getElem_toArray, List.getElem_cons_zero, List.getElem_cons_succ]
                refine wpAnyH_take (i := 6) (v := ?_) rfl (by kernel_rfl) (by kernel_rfl) (by kernel_rfl) (fun _ _ _ h => h) (Or.inl ⟨by rfl, ?_⟩) (by assumption) ?_
                rotate_left 1
                · (intro w hSw; (try dsimp only at hSw); first | (go_simp; done) | (go_simp; with_reducible rfl))
                try simp only [Act.put, List.setIfInBounds_toArray, List.set_cons_zero, List.set_cons_succ, List.getElem_toArray, List.getElem_cons_zero, List.getElem_cons_succ]
                refine wpAnyH_done (by kernel_rfl) ?_ _
                have HT4 := Lib.hid HE.out
                clear HT3 HE
                cases ov with
                | false =>
                  go_wp2_with fail
                  go_roundg (gk - 1)
                  case measure => have := HIM.out; have := HEND.out; omega
                  case rel => exact ⟨i + 1, b, c', zs10, _, v', (updF f k (some X')), wv, wl, ai, C', rnd, Bx', hl', M', by have := HIM.out; have := HEND.out; omega, by first | rfl | simp, HBI, HT4, HP2⟩
                | true =>
                  have HJE := Lib.hid (HJ.out rfl)
                  go_wp2_with fail
                  have HK3 : Hid (k < 3) := HKP
                  have hk3' : ¬ (k : Int) = 3 := by have := HK3.out; omega
                  have hk3b : ((k : Int) == 3) = false := by rw [beq_eq_false_iff_ne]; exact hk3'
                  have hk3d : decide ((k : Int) = 3) = false := decide_eq_false hk3'
                  go_upto_region 40 with fail
                  have HD := Lib.hid (HT4.out.below (Below.refl _ _).drew)
                  refine wp_region_held_drew (S := (fun _ => True)) (by kernel_rfl) ?_ (fun hHeld => ?_)
                  · ((try dsimp only); all_goals trivial)
                  refine wpAnyH_take (i := 0) (v := ?_) rfl (by kernel_rfl) (by kernel_rfl) (by kernel_rfl) (fun _ _ _ h => h) (Or.inl ⟨by rfl, ?_⟩) (by assumption) ?_
                  rotate_left 1
                  · (intro w hSw; (try dsimp only at hSw); first | (go_simp; done) | (go_simp; with_reducible rfl))
                  try simp only [Act.put, List.setIfInBounds_toArray, List.set_cons_zero, List.set_cons_succ, List.getElem_toArray, List.getElem_cons_zero]
                  refine wpAnyH_ready (rs := [1]) (by kernel_rfl) (by simp) ?_
                  refine AllReadyH.cons rfl (fun K hK => ?_) AllReadyH.nil
                  go_simp
                  go_at_call 17
                  obtain ⟨o1, o2, _, ook, o5⟩ := HD.out.tells (updF_same _ _ _)
                  have hcc := plok_any o1 o2
                  rw [HA.out, ook, decide_eq_true (o5.2 (Nat.le_of_eq HJE.out.symm))] at hcc
                  refine hcc.mono ?_
                  clear hcc o1 o2 ook o5
                  rintro e w21 ⟨rfl, rfl⟩
                  try go_wp2_with fail
                  refine hK.out _ _ ?_ (fun hHeld => ?_)
                  · ((try dsimp only); all_goals trivial)
                  clear hK K
                  try simp only [Act.put, List.setIfInBounds_toArray, List.set_cons_zero, List.set_cons_succ, List.getElem_toArray, List.getElem_cons_zero, List.getElem_cons_succ]
                  refine wpAnyH_take (i := 2) (v := ?_) rfl (by kernel_rfl) (by kernel_rfl) (by kernel_rfl) (fun _ _ _ h => h) (Or.inl ⟨by rfl, ?_⟩) (by assumption) ?_
                  rotate_left 1
                  · (intro w hSw; (try dsimp only at hSw); first | (go_simp; done) | (go_simp; with_reducible rfl))
                  try simp only [Act.put, List.setIfInBounds_toArray, List.set_cons_zero, List.set_cons_succ, List.getElem_toArray, List.getElem_cons_zero, List.getElem_cons_succ]
                  refine wpAnyH_take (i := 3) (v := ?_) rfl (by kernel_rfl) (by kernel_rfl) (by kernel_rfl) (fun _ _ _ h => h) (Or.inl ⟨by rfl, ?_⟩) (by assumption) ?_
                  rotate_left 1
                  · (intro w hSw; (try dsimp only at hSw); first | (go_simp; done) | (go_simp; with_reducible rfl))
                  try simp only [Act.put, List.setIfInBounds_toArray, List.set_cons_zero, List.set_cons_succ, List.getElem_toArray, List.getElem_cons_zero, List.getElem_cons_succ]
                  refine wpAnyH_take (i := 4) (v := ?_) rfl (by kernel_rfl) (by kernel_rfl) (by kernel_rfl) (fun _ _ _ h => h) (Or.inl ⟨by rfl, ?_⟩) (by assumption) ?_
                  rotate_left 1
                  · (intro w hSw; (try dsimp only at hSw); first | (go_simp; done) | (go_simp; with_reducible rfl))
                  try simp only [Act.put, List.setIfInBounds_toArray, List.set_cons_zero, List.set_cons_succ, List.getElem_toArray, List.getElem_cons_zero, List.getElem_cons_succ]
                  refine wpAnyH_ready (rs := [5]) (by kernel_rfl) (by simp) ?_
                  refine AllReadyH.cons rfl (fun K hK => ?_) AllReadyH.nil
                  go_simp
                  go_at_call 11
                  obtain ⟨o1, _, _, _, _⟩ := HD.out.tells (updF_same _ _ _)
                  have hcc := plmark_any o1
                  rw [HA.out, HMK'.out] at hcc
                  refine hcc.mono ?_
                  clear hcc o1
                  rintro e w22 ⟨rfl, rfl⟩
                  try go_wp2_with fail
                  refine hK.out _ _ ?_ (fun hHeld => ?_)
                  · ((try dsimp only); all_goals trivial)
                  clear hK K
                  try simp only [Act.put, List.setIfInBounds_toArray, List.set_cons_zero, List.set_cons_succ, List.getElem_toArray, List.getElem_cons_zero, List.getElem_cons_succ]
                  refine wpAnyH_take (i := 6) (v := ?_) rfl (by kernel_rfl) (by kernel_rfl) (by kernel_rfl) (fun _ _ _ h => h) (Or.inl ⟨by rfl, ?_⟩) (by assumption) ?_
                  rotate_left 1
                  · (intro w hSw; (try dsimp only at hSw); first | (go_simp; done) | (go_simp; with_reducible rfl))
                  try simp only [Act.put, List.setIfInBounds_toArray, List.set_cons_zero, List.set_cons_succ, List.getElem_toArray, List.getElem_cons_zero, List.getElem_cons_succ]
                  refine wpAnyH_take (i := 7) (v := ?_) rfl (by kernel_rfl) (by kernel_rfl) (by kernel_rfl) (fun _ _ _ h => h) (Or.inl ⟨by rfl, ?_⟩) (by assumption) ?_
                  rotate_left 1
                  · (intro w hSw; (try dsimp only at hSw); first | (go_simp; done) | (go_simp; with_reducible rfl))
                  try simp only [Act.put, List.setIfInBounds_toArray, List.set_cons_zero, List.set_cons_succ, List.getElem_toArray, List.getElem_cons_zero, List.getElem_cons_succ]
                  refine wpAnyH_take (i := 8) (v := ?_) rfl (by kernel_rfl) (by kernel_rfl) (by kernel_rfl) (fun _ _ _ h => h) (Or.inl ⟨by rfl, ?_⟩) (by assumption) ?_
                  rotate_left 1
                  · (intro w hSw; (try dsimp only at hSw); first | (go_simp; done) | (go_simp; with_reducible rfl))
                  try simp only [Act.put, List.setIfInBounds_toArray, List.set_cons_zero, List.set_cons_succ, List.getElem_toArray, List.getElem_cons_zero, List.getElem_cons_succ]
                  refine wpAnyH_take (i := 9) (v := ?_) rfl (by kernel_rfl) (by kernel_rfl) (by kernel_rfl) (fun _ _ _ h => h) (Or.inl ⟨by rfl, ?_⟩) (by assumption) ?_
                  rotate_left 1
                  · (intro w hSw; (try dsimp only at hSw); first | (go_simp; done) | (go_simp; with_reducible rfl))
                  try simp only [Act.put, List.setIfInBounds_toArray, List.set_cons_zero, List.set_cons_succ, List.getElem_toArray, List.getElem_cons_zero, List.getElem_cons_succ]
                  refine wpAnyH_take (i := 10) (v := ?_) rfl (by kernel_rfl) (by kernel_rfl) (by kernel_rfl) (fun _ _ _ h => h) (Or.inl ⟨by rfl, ?_⟩) (by assumption) ?_
                  rotate_left 1
                  · (intro w hSw; (try dsimp only at hSw); first | (go_simp; done) | (go_simp; with_reducible rfl))
                  try simp only [Act.put, List.setIfInBounds_toArray, List.set_cons_zero, List.set_cons_succ, List.getElem_toArray, List.getElem_cons_zero, List.getElem_cons_succ]
                  refine wpAnyH_take (i := 11) (v := ?_) rfl (by kernel_rfl) (by kernel_rfl) (by kernel_rfl) (fun _ _ _ h => h) (Or.inl ⟨by rfl, ?_⟩) (by assumption) ?_
                  rotate_left 1
                  · (intro w hSw; (try dsimp only at hSw); first | (go_simp; done) | (go_simp; with_reducible rfl))
                  try simp only [Act.put, List.setIfInBounds_toArray, List.set_cons_zero, List.set_cons_succ, List.getElem_toArray, List.getElem_cons_zero, List.getElem_cons_succ]
                  refine wpAnyH_take (i := 12) (v := undef) rfl (by kernel_rfl) (by kernel_rfl) (by kernel_rfl) (fun _ _ _ h => h) (Or.inr ⟨by rfl, rfl⟩) (by assumption) ?_
                  try simp only [Act.put, List.setIfInBounds_toArray, List.set_cons_zero, List.set_cons_succ, List.getElem_toArray, List.getElem_cons_zero, List.getElem_cons_succ]
                  refine wpAnyH_take (i := 13) (v := undef) rfl (by kernel_rfl) (by kernel_rfl) (by kernel_rfl) (fun _ _ _ h => h) (Or.inr ⟨by rfl, rfl⟩) (by assumption) ?_
                  try simp only [Act.put, List.setIfInBounds_toArray, List.set_cons_zero, List.set_cons_succ, List.getElem_toArray, List.getElem_cons_zero, List.getElem_cons_succ]
                  refine wpAnyH_take (i := 14) (v := undef) rfl (by kernel_rfl) (by kernel_rfl) (by kernel_rfl) (fun _ _ _ h => h) (Or.inr ⟨by rfl, rfl⟩) (by assumption) ?_
                  try simp only [Act.put, List.setIfInBounds_toArray, List.set_cons_zero, List.set_cons_succ, List.getElem_toArray, List.getElem_cons_zero, List.getElem_cons_succ]
                  refine wpAnyH_take (i := 15) (v := undef) rfl (by kernel_rfl) (by kernel_rfl) (by kernel_rfl) (fun _ _ _ h => h) (Or.inr ⟨by rfl, rfl⟩) (by assumption) ?_
                  try simp only [Act.put, List.setIfInBounds_toArray, List.set_cons_zero, List.set_cons_succ, List.getElem_toArray, List.getElem_cons_zero, List.getElem_cons_succ]
                  refine wpAnyH_take (i := 16) (v := undef) rfl (by kernel_rfl) (by kernel_rfl) (by kernel_rfl) (fun _ _ _ h => h) (Or.inr ⟨by rfl, rfl⟩) (by assumption) ?_
                  try simp only [Act.put, List.setIfInBounds_toArray, List.set_cons_zero, List.set_cons_succ, List.getElem_toArray, List.getElem_cons_zero, List.getElem_cons_succ]
                  refine wpAnyH_take (i := 17) (v := undef) rfl (by kernel_rfl) (by kernel_rfl) (by kernel_rfl) (fun _ _ _ h => h) (Or.inr ⟨by rfl, rfl⟩) (by assumption) ?_
                  try simp only [Act.put, List.setIfInBounds_toArray, List.set_cons_zero, List.set_cons_succ, List.getElem_toArray, List.getElem_cons_zero, List.getElem_cons_succ]
                  refine wpAnyH_take (i := 18) (v := undef) rfl (by kernel_rfl) (by kernel_rfl) (by kernel_rfl) (fun _ _ _ h => h) (Or.inr ⟨by rfl, rfl⟩) (by assumption) ?_
                  try simp only [Act.put, List.setIfInBounds_toArray, List.set_cons_zero, List.set_cons_succ, List.getElem_toArray, List.getElem_cons_zero, List.getElem_cons_succ]
                  refine wpAnyH_take (i := 19) (v := ?_) rfl (by kernel_rfl) (by kernel_rfl) (by kernel_rfl) (fun _ _ _ h => h) (Or.inl ⟨by rfl, ?_⟩) (by assumption) ?_
                  rotate_left 1
                  · (intro w hSw; (try dsimp only at hSw); first | (go_simp; done) | (go_simp; with_reducible rfl))
                  try simp only [Act.put, List.setIfInBounds_toArray, List.set_cons_zero, List.set_cons_succ, List.getElem_toArray, List.getElem_cons_zero, List.getElem_cons_succ]
                  refine wpAnyH_take (i := 20) (v := ?_) rfl (by kernel_rfl) (by kernel_rfl) (by kernel_rfl) (fun _ _ _ h => h) (Or.inl ⟨by rfl, ?_⟩) (by assumption) ?_
                  rotate_left 1
                  · (intro w hSw; (try dsimp only at hSw); first | (go_simp; done) | (go_simp; with_reducible rfl))
                  try simp only [Act.put, List.setIfInBounds_toArray, List.set_cons_zero, List.set_cons_succ, List.getElem_toArray, List.getElem_cons_zero, List.getElem_cons_succ]
                  refine wpAnyH_done (by kernel_rfl) ?_ _
                  have n3 := HD.out.cn.cell HK.out.1
                  have nf3 := HD.out.cn.fz k
                  have HTE := Lib.hid (HD.out.fin HK.out.1 HJE.out)
                  have HPE := HP2
                  clear HT4 HD
                  go_wp2_with fail
                  go_roundg (gk - 1)
                  case measure => have := HIM.out; have := HEND.out; omega
                  case rel => exact ⟨i + 1, b, c', zs10, _, v', (updF f k none), wv, wl, ai, C', rnd, Bx', hl', M', by have := HIM.out; have := HEND.out; omega, by first | rfl | simp, HBI, HTE, HPE⟩
            | drain zs' Bx' hl' M' X' c' hk he ha hmk0 hlg hmk1 hrd tc tp =>
              subst he
              have HT2 := Lib.hid tc
              have HP2 := Lib.hid tp
              have HA := Lib.hid ha
              have HMK' := Lib.hid hmk1
              have HRD := Lib.hid hrd
              have HK3 := Lib.hid hk
              obtain rfl : mk = 0 := by rw [← hmk]; exact hmk0
              have hmz : ¬ (M'.lg.length : Int) = 0 := by omega
              have hmzb : ((M'.lg.length : Int) == 0) = false := by rw [beq_eq_false_iff_ne]; exact hmz
              have hmw : ¬ (M'.lg.length : Int) = (M.lg.length : Int) := by omega
              have hmwb : ((M'.lg.length : Int) == (M.lg.length : Int)) = false := by rw [beq_eq_false_iff_ne]; exact hmw
              have hk3' : (k : Int) = 3 := by omega
              have hk3b : ((k : Int) == 3) = true := by rw [hk3']; rfl
              clear hmk hmk0 tc tp ha hmk1 hrd hk hk3'
              as_aux_lemma =>
                have hgt : ¬ ((M.lg.length : Int) + 1 < (M'.lg.length : Int)) := by omega
                have HLG := Lib.hid hlg
                clear hlg
                go_wp2_with fail
                go_at_call 12
                refine HT2.out.time.mono ?_
                rintro e w6 ⟨rfl, rfl⟩
                go_wp2_with fail
                go_at_call 11
                obtain ⟨o1, _, _, _, _⟩ := HT2.out.tells (updF_same _ _ _)
                have hcc := plmark_any o1
                rw [HA.out, HMK'.out] at hcc
                refine hcc.mono ?_
                clear hcc o1
                rintro e w7 ⟨rfl, rfl⟩
                go_wp2_with fail
                go_at_call 11
                obtain ⟨o1, _, _, _, _⟩ := HT2.out.tells (updF_same _ _ _)
                have hcc := plmark_any o1
                rw [HA.out, HMK'.out] at hcc
                refine hcc.mono ?_
                clear hcc o1
                rintro e w7 ⟨rfl, rfl⟩
                go_wp2_with fail
                go_at_call 12
                refine HT2.out.time.mono ?_
                rintro e w8 ⟨rfl, rfl⟩
                go_wp2_with fail
                go_at_call 11
                obtain ⟨o1, _, _, _, _⟩ := HT2.out.tells (updF_same _ _ _)
                have hcc := plmark_any o1
                rw [HA.out, HMK'.out] at hcc
                refine hcc.mono ?_
                clear hcc o1
                rintro e w7 ⟨rfl, rfl⟩
                go_wp2_with fail
                go_at_call 14
                refine (refdrain_any HT2.out.rs HT2.out.bs (by have := HTP.out.rd; omega)).mono ?_
                rintro e w10 ⟨rfl, rfl⟩
                have HT3 := Lib.hid (HT2.out.drained (rnd + 1))
                have HV3 : Hid (Batch.Sl ((w5.setCell ⟨r, 0, none⟩ (.slice none 0 0)).setCell ⟨r, 1, none⟩ (.int .u64 (rnd + 1))) (.slice bo bn2 bc) C) := Lib.hid (blk_sl HT2.out.bs (fun g hg => (off_same r 1 _ g (fun e => HT2.out.nb.1 (e ▸ HT2.out.vb g hg))).trans (off_same r 0 _ g (fun e => HT2.out.nb.1 (e ▸ HT2.out.vb g hg)))))
                have HVB := Lib.hid HT2.out.vb
                clear HT2
                generalize (w5.setCell ⟨r, 0, none⟩ (.slice none 0 0)).setCell ⟨r, 1, none⟩ (.int .u64 (rnd + 1)) = w10 at *
                have hws := HT3.out.cw.cell (k := 3) (by decide)
                have hwf := HT3.out.cw.fz 3
                have HT4 := Lib.hid (HT3.out.setW (k := 3) (by decide) HV3.out HVB.out)
                go_upto_region 37 with fail
                clear HT3 HV3 hws hwf
                generalize w10.setCell ⟨wt, 3, none⟩ (.slice bo bn2 bc) = w11 at *
                go_upto_region 37 with fail
                have HE := Lib.hid (HT4.out.below (Below.refl _ _).drew)
                refine wp_region_held_drew (S := (fun w' => w'.cell? ⟨r, 1, none⟩ = some (.int .u64 (rnd + 1)))) (by kernel_rfl) ?_ (fun hHeld => ?_)
                · ((try dsimp only); exact HE.out.rs.cell.2.1)
                refine wpAnyH_take (i := 0) (v := ?_) rfl (by kernel_rfl) (by kernel_rfl) (by kernel_rfl) (fun _ _ _ h => h) (Or.inl ⟨by rfl, ?_⟩) (by assumption) ?_
                rotate_left 1
                · (intro w hSw; (try dsimp only at hSw); first | (go_simp; done) | (go_simp; with_reducible rfl))
                try simp only [Act.put, List.setIfInBounds_toArray, List.set_cons_zero, List.set_cons_succ, List.getElem_toArray, List.getElem_cons_zero]
                refine wpAnyH_take (i := 2) (v := ?_) rfl (by kernel_rfl) (by kernel_rfl) (by kernel_rfl) (fun _ _ _ h => h) (Or.inl ⟨by rfl, ?_⟩) (by assumption) ?_
                rotate_left 1
                · (intro w hSw; (try dsimp only at hSw); first | (go_simp; done) | (go_simp; with_reducible rfl))
                try simp only [Act.put, List.setIfInBounds_toArray, List.set_cons_zero, List.set_cons_succ, List.getElem_toArray, List.getElem_cons_zero, List.getElem_cons_succ]
                refine wpAnyH_take (i := 3) (v := ?_) rfl (by kernel_rfl) (by kernel_rfl) (by kernel_rfl) (fun _ _ _ h => h) (Or.inl ⟨by rfl, ?_⟩) (by assumption) ?_
                rotate_left 1
                · (intro w hSw; (try dsimp only at hSw); first | (go_simp; done) | (go_simp; with_reducible rfl))
                try simp only [Act.put, List.setIfInBounds_toArray, List.set_cons_zero, List.set_cons_succ, List.getElem_toArray, List.getElem_cons_zero, List.getElem_cons_succ]
                refine wpAnyH_take (i := 4) (v := ?_) rfl (by kernel_rfl) (by kernel_rfl) (by kernel_rfl) (fun _ _ _ h => h) (Or.inl ⟨by rfl, ?_⟩) (by assumption) ?_
                rotate_left 1
                · (intro w hSw; (try dsimp only at hSw); first | (go_simp; done) | (go_simp; with_reducible rfl))
                try simp only [Act.put, List.setIfInBounds_toArray, List.set_cons_zero, List.set_cons_succ, List.getElem_toArray, List.getElem_cons_zero, List.getElem_cons_succ]
                refine wpAnyH_take (i := 5) (v := ?_) rfl (by kernel_rfl) (by kernel_rfl) (by kernel_rfl) (fun _ _ _ h => h) (Or.inl ⟨by rfl, ?_⟩) (by assumption) ?_
                rotate_left 1
                · (intro w hSw; (try dsimp only at hSw); first | (go_simp; done) | (go_simp; with_reducible rfl))
                try simp only [Act.put, List.setIfInBounds_toArray, List.set_cons_zero, List.set_cons_succ, List.getElem_toArray, List.getElem_cons_zero, List.getElem_cons_succ]
                refine wpAnyH_ready (rs := [1]) (by kernel_rfl) (by simp) ?_
                refine AllReadyH.cons rfl (fun K hK => ?_) AllReadyH.nil
                go_simp
                go_at_call 16
                obtain ⟨o1, _, _, _, _⟩ := HE.out.tells (updF_same _ _ _)
                have hcc := plround_any o1
                rw [HA.out, if_neg (by rw [HMK'.out]; exact hmz), HRD.out] at hcc
                refine hcc.mono ?_
                clear hcc o1
                rintro e w27 ⟨rfl, rfl⟩
                try go_wp2_with fail
                refine hK.out _ _ ?_ (fun hHeld => ?_)
                · ((try dsimp only); exact HE.out.rs.cell.2.1)
                clear hK K
                try simp only [Act.put, List.setIfInBounds_toArray, List.set_cons_zero, List.set_cons_succ, List.getElem_toArray, List.getElem_cons_zero, List.getElem_cons_succ]
                refine wpAnyH_take (i := 6) (v := ?_) rfl (by kernel_rfl) (by kernel_rfl) (by kernel_rfl) (fun _ _ _ h => h) (Or.inl ⟨by rfl, ?_⟩) (by assumption) ?_
                rotate_left 1
                · (intro w hSw; (try dsimp only at hSw); first | (go_simp; done) | (go_simp; with_reducible rfl))
                try simp only [Act.put, List.setIfInBounds_toArray, List.set_cons_zero, List.set_cons_succ, List.getElem_toArray, List.getElem_cons_zero, List.getElem_cons_succ]
                refine wpAnyH_done (by kernel_rfl) ?_ _
                have HT5 := Lib.hid HE.out
                clear HT4 HE
                go_wp2_with fail
                go_roundg (gk - 1)
                case measure => have := HIM.out; have := HEND.out; omega
                case rel => exact ⟨i + 1, b, c', zs', bl, (.slice none 0 0), (updF f k (some X')), _, (upV wl 3 C), ai, [], (rnd + 1), Bx', hl', M', by have := HIM.out; have := HEND.out; omega, by first | rfl | simp, HBI, HT5, HP2⟩
    · as_aux_lemma =>
        have hie : i = P + 2000 := by have := HIM.out; omega
        have HNN := Lib.hid (HTP.out.ph.none (by omega))
        have n0 := HT.out.nowNone (k := 0) (by decide) (HNN.out 0)
        have n1 := HT.out.nowNone (k := 1) (by decide) (HNN.out 1)
        have n2 := HT.out.nowNone (k := 2) (by decide) (HNN.out 2)
        have n3 := HT.out.nowNone (k := 3) (by decide) (HNN.out 3)
        have HNO := Lib.hid HTP.out.rp.no
        have HLG : Hid (M.lg.length ≤ 20000) := Lib.hid (by have := HTP.out.lg; omega)
        have h1' : ¬ (i : Int) < (P : Int) + 2000 := by omega
        clear hend hie n0 n1 n2 n3
        go_wp2_with fail
        go_at_call 22
        refine (mz_log HT.out.pt.pq.mz HT.out.iv.wp.good (by have := HN.out; omega) (by have := HN.out; omega) (by have := HN.out; omega) (by omega)).mono ?_
        rintro e w4 ⟨vl, rfl, hrl, hbl⟩
        have HRL := Lib.hid hrl
        have HT2 := Lib.hid (HT.out.below hbl)
        clear hrl hbl
        go_wp2_with fail
        go_at_call 21
        refine (Ck.race_any HRL.out HLG.out).mono ?_
        rintro e w5 ⟨xx, yy, rfl, hf, hb5⟩
        have HT3 := Lib.hid (HT2.out.below hb5)
        obtain ⟨rfl, rfl⟩ : xx = -1 ∧ yy = -1 := by
          rcases hf with ⟨h1, h2, _⟩ | ⟨i, k, _, _, h3, _⟩
          · exact ⟨h1, h2⟩
          · exact absurd h3 (HNO.out i k)
        clear hf hb5
        have n0 := HT3.out.nowNone (k := 0) (by decide) (HNN.out 0)
        have n1 := HT3.out.nowNone (k := 1) (by decide) (HNN.out 1)
        have n2 := HT3.out.nowNone (k := 2) (by decide) (HNN.out 2)
        have n3 := HT3.out.nowNone (k := 3) (by decide) (HNN.out 3)
        go_wp2_with fail
        go_ret
        exact ⟨rfl, HT3.out.kept⟩

end Go.Proofs.Ytmggnalobfihnaa.Pl
