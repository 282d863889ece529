/-
  PACKAGE graph: ways.
-/
import Derived.Test.YtdbaacalfbbdiaaGreatDoorGWayMath
import Derived.Test.YtdbaacalfbbdiaaGreatDoorGRepeat
import Derived.Deep.RegionHeld3
import Derived.BigQuiet
import Derived.Deep.QuietTactic
namespace Go.Proofs.YtdbaacalfbbdiaaGreatDoor.Gr
open Go.RowKit
set_option linter.unusedVariables false

theorem plus_still (a b : Int) (ha : 0 ≤ a ∧ a ≤ 18446744073709551615) (hb : 0 ≤ b ∧ b ≤ 18446744073709551615) (w : World) :
    Calls Tryz.prog 106 #[.int .u64 a, .int .u64 b] w fun e w'' => e = .returned (.int .u64 (plusN a b)) ∧ w'' = w :=
  (Stamp.plus_any a b ha hb w).mono fun e w' ⟨he, hw⟩ => ⟨he, hw.symm⟩
set_option maxRecDepth 1000000 in
set_option maxHeartbeats 16000000 in
theorem ways_any {w : World} {ve vi : Value} {E : List Ed} {n : Nat} (hv : Rd w ve E) (hE : Fits E n) (h0 : 1 ≤ n) (h1 : n ≤ 64) (hl : E.length ≤ 100000) :
    Calls Tryz.prog 88 #[.agg #[.int .i64 (n : Int), ve, vi]] w fun e w' => ∃ (v : Value) (M : Nat → Nat → Int), e = .returned v ∧ Mat w' w.heap.size v n M ∧ LeastM E false n M ∧ Below w.heap.size w w' := by
  have hmk := run_make_row' 125 127 (.slice none 0 0) 24 Tryz.underlying125 infoRow rfl .i64 .i64 n (by omega) (by omega)
  have HE := Lib.hid hE
  obtain ⟨ao, cap, rfl, hlc, hcm, hwf, hcell⟩ := hv
  have HC := Lib.hid hcell
  have HWF := Lib.hid hwf
  have hlen : E.length ≤ 9223372036854775807 := by omega
  have hn1 : (1 : Int) ≤ (n : Int) := by omega
  have hn2 : (n : Int) ≤ 64 := by omega
  have hnb : n ≤ 9223372036854775807 := by omega
  clear hcell hwf hlc hcm
  obtain ⟨w1, hw1⟩ : ∃ w1, w1 = w.alloc (.cells #[.int .i64 (n : Int), .slice ao E.length cap, vi] 47) := ⟨_, rfl⟩
  have hsz : w1.heap.size = w.heap.size + 1 := by rw [hw1]; simp
  have HB0 := Lib.hid (show Below w.heap.size w w1 by rw [hw1]; exact (Below.refl _ _).alloc (Nat.le_refl _) _)
  have b0 : w1.cell? ⟨w.heap.size, 0, none⟩ = some (.int .i64 (n : Int)) := by rw [hw1]; simp
  have b1 : w1.cell? ⟨w.heap.size, 1, none⟩ = some (.slice ao E.length cap) := by rw [hw1]; simp
  have HBX := Lib.hid (show ∀ wr, Below (w.heap.size + 1) w1 wr → wr.cell? ⟨w.heap.size, 0, none⟩ = some (.int .i64 (n : Int)) ∧ wr.cell? ⟨w.heap.size, 1, none⟩ = some (.slice ao E.length cap) from fun wr h => ⟨(h.cell (p := ⟨w.heap.size, 0, none⟩) (Nat.lt_succ_self _)).trans b0, (h.cell (p := ⟨w.heap.size, 1, none⟩) (Nat.lt_succ_self _)).trans b1⟩)
  have HSZ := Lib.hid hsz
  have HW1 := Lib.hid hw1
  clear b0 b1 hsz hw1
  go_enter Tryz.func88, Tryz.ntmps88
  go_wp2_with fail
  obtain ⟨w2, hw2⟩ : ∃ w2, w2 = w1.alloc (.cells (madeCells #[.slice none 0 0] n) 127) := ⟨_, rfl⟩
  have HB2 := Lib.hid (show Below (w.heap.size + 1) w1 w2 by rw [hw2]; exact (Below.refl _ _).alloc (Nat.le_of_eq HSZ.out.symm) _)
  have HR0 := Lib.hid (show RowsTo w2 (w.heap.size + 1) (w.heap.size + 1) (fun _ => 0) n 0 (fun _ _ => 18446744073709551615) by
    have h := World.rowIs_made w1 (.slice none 0 0) n 127
    rw [← hw2, HSZ.out] at h
    exact RowsTo.start h (Nat.le_refl _))
  rw [HW1.out] at hw2
  go_loopg [17] n (fun m t wr => ∃ (k : Nat) (r : Nat → Nat), k + m = n ∧ t = .int .i64 (k : Int) ∧ RowsTo wr (w.heap.size + 1) (w.heap.size + 1) r n k (fun _ _ => 18446744073709551615) ∧ Below (w.heap.size + 1) w1 wr)
  case atStart => exact ⟨0, fun _ => 0, by omega, rfl, by rw [← hw2]; exact HR0.out, by rw [← hw2]; exact HB2.out⟩
  case round =>
    obtain ⟨k, r, hkm, rfl, hrows, hbw⟩ := hrel
    have HKM := Lib.hid hkm
    have HR := Lib.hid hrows
    have HBW := Lib.hid hbw
    obtain ⟨b0, b1⟩ := HBX.out wr hbw
    have hbs : w.heap.size + 1 ≤ wr.heap.size := by have := hrows.top.lt; omega
    have hblt : w.heap.size < wr.heap.size := hbs
    clear hrows hbw hkm hw2 HR0 HB2
    by_cases hk : k < n
    · have hk0 : (0 : Int) ≤ (k : Int) := Int.natCast_nonneg _
      have hk1 : (k : Int) < (n : Int) := by omega
      have HRP := Lib.hid (repeat_any (w := wr.alloc (.cells #[.int .u64 18446744073709551615] 22)) wr.heap.size 18446744073709551615 n h0 h1 (by simp))
      have HK := Lib.hid hk
      clear hk
      go_wp2_with fail
      go_at_call 105
      refine HRP.out.mono ?_
      rintro e w3 ⟨b, rfl, hbl, hrow, hb3⟩
      have HA := Lib.hid (show Below wr.heap.size wr w3 from ((Below.refl _ _).alloc (Nat.le_refl _) _).trans (hb3.mono (by simp)))
      have hbl2 : wr.heap.size ≤ b := by simp at hbl; omega
      have HNEW := Lib.hid (HR.out.step HA.out hbl2 hrow hbs)
      have g0 := (HR.out.below HA.out).top.cell HK.out
      have gf := (HR.out.below HA.out).top.frozen k
      rw [if_neg (Nat.lt_irrefl k)] at g0
      have HB3 := Lib.hid ((HBW.out.trans (HA.out.mono hbs)).setCell (p := ⟨w.heap.size + 1, k, none⟩) (Nat.le_refl _) (.slice (some ⟨b, 0, none⟩) n n))
      clear hbl hrow hb3 hbl2 HA
      go_wp2_with fail
      go_roundg (gk - 1)
      case measure => have := HKM.out; have := HK.out; omega
      case rel => exact ⟨k + 1, _, by have := HKM.out; have := HK.out; omega, by go_num, HNEW.out, HB3.out⟩
    · obtain rfl : n = k := by have := HKM.out; omega
      have HM := Lib.hid HR.out.done
      clear HR HKM
      go_wp2_with fail
      obtain ⟨wo, rfl⟩ : ∃ wo : World, wo = wr := ⟨_, rfl⟩
      clear b0 b1
      go_loopg [31] E.length (fun m t wr => ∃ (k2 : Nat) (M : Nat → Nat → Int), k2 + m = E.length ∧ t = .int .i64 (k2 : Int) ∧ Ph0 E n k2 M ∧ MatF wr (w.heap.size + 1) (w.heap.size + 1) r n M ∧ Below (w.heap.size + 1) w1 wr)
      case atStart => exact ⟨0, _, by omega, rfl, Ph0.start E n, HM.out, HBW.out⟩
      case round =>
        obtain ⟨k2, M, hkm2, rfl, hph, hmat, hbw2⟩ := hrel
        have HKM2 := Lib.hid hkm2
        have HPH := Lib.hid hph
        have HMAT := Lib.hid hmat
        have HBW2 := Lib.hid hbw2
        obtain ⟨b0, b1⟩ := HBX.out wr hbw2
        have hbs2 : w.heap.size + 1 ≤ wr.heap.size := by have := hmat.top.lt; omega
        clear hph hmat hbw2 hkm2
        by_cases hk2 : k2 < E.length
        · obtain ⟨x, hx, hxm⟩ := at_of hk2
          have hfit := HE.out x hxm
          obtain ⟨b, off, hao, hcc⟩ := HC.out.resolve_left (by intro e; rw [e] at hk2; simp at hk2)
          subst hao
          have q := (hcc k2 x hx).below HB0.out (hcc k2 x hx).lt
          have q2 := q.below HBW2.out (by have := (hcc k2 x hx).lt; omega)
          have hbl := (hcc k2 x hx).lt
          obtain ⟨c0, c1, c2⟩ := q2
          have hblw : b < wr.heap.size := by omega
          obtain ⟨f, hf⟩ : ∃ f : Nat, x.f = f := ⟨x.f.toNat, by omega⟩
          obtain ⟨t, ht⟩ : ∃ t : Nat, x.t = t := ⟨x.t.toNat, by omega⟩
          have hfn : f < n := by omega
          have htn : t < n := by omega
          have HNEW := Lib.hid (HPH.out.step HE.out hx hf ht)
          have ha0 : 0 ≤ x.a := hfit.2.2.2.2.1
          have ha1 : x.a ≤ 18446744073709551615 := hfit.2.2.2.2.2
          obtain ⟨xf, xt, xa⟩ := x
          simp only at c0 c1 c2 hf ht ha0 ha1 HNEW
          subst hf ht
          have hk20 : (0 : Int) ≤ (k2 : Int) := Int.natCast_nonneg _
          have hk21 : (k2 : Int) < (E.length : Int) := by omega
          have hf0 : (0 : Int) ≤ (f : Int) := Int.natCast_nonneg _
          have hf1 : (f : Int) < (n : Int) := by omega
          have ht0 : (0 : Int) ≤ (t : Int) := Int.natCast_nonneg _
          have ht1 : (t : Int) < (n : Int) := by omega
          have g0 := HMAT.out.top.cell hfn
          have r0 := (HMAT.out.row f hfn).cell htn
          have rf := (HMAT.out.row f hfn).frozen t
          have rl := (HMAT.out.row f hfn).lt
          have rb := HMAT.out.los f hfn
          have HFN := Lib.hid hfn
          have HTN := Lib.hid htn
          have HK2 := Lib.hid hk2
          have hglt : w.heap.size + 1 < wr.heap.size := HMAT.out.top.lt
          have HAL := Lib.hid (show Below (wr.setCell ⟨r f, t, none⟩ (.int .u64 (min (M f t) xa))).heap.size (wr.setCell ⟨r f, t, none⟩ (.int .u64 (min (M f t) xa))) (((wr.setCell ⟨r f, t, none⟩ (.int .u64 (min (M f t) xa))).alloc (.cells #[.int .i64 (f : Int), .int .i64 (t : Int), .int .u64 xa] 70)).drew) from ((Below.refl _ _).alloc (Nat.le_refl _) _).drew)
          have HSET := Lib.hid ((HMAT.out.set hfn htn (min (M f t) xa)).below HAL.out)
          have HB3 := Lib.hid ((HBW2.out.setCell (p := ⟨r f, t, none⟩) rb (.int .u64 (min (M f t) xa))).trans (HAL.out.mono (by simp; exact hbs2)))
          obtain ⟨m, hm⟩ : ∃ m, m = M f t := ⟨_, rfl⟩
          rw [← hm] at r0 HNEW HSET HB3
          clear HAL
          have HMM := Lib.hid hm
          clear hx hxm hfit hcc q hbl hm hfn htn hk2
          go_wp2_with fail
          go_region
          go_wp2
          go_roundg (gk - 1)
          case measure => have := HKM2.out; have := HK2.out; omega
          case rel => exact ⟨k2 + 1, _, by have := HKM2.out; have := HK2.out; omega, by go_num, HNEW.out, HSET.out, HB3.out⟩
        · have HP := Lib.hid (HPH.out.done HE.out (by omega))
          clear HPH
          go_wp2_with fail
          obtain ⟨wo2, rfl⟩ : ∃ wo2 : World, wo2 = wr := ⟨_, rfl⟩
          clear b0 b1
          go_loopg [58] n (fun m t wr => ∃ (b : Nat) (M : Nat → Nat → Int), b + m = n ∧ t = .int .i64 (b : Int) ∧ Ph E n b 0 0 M ∧ MatF wr (w.heap.size + 1) (w.heap.size + 1) r n M ∧ Below (w.heap.size + 1) w1 wr)
          case atStart => exact ⟨0, _, by omega, rfl, HP.out, HMAT.out, HBW2.out⟩
          case round =>
            clear HP HMAT HBW2 HM HBW
            obtain ⟨b, M, hbm, rfl, hph, hmat, hbw3⟩ := hrel
            have HBM := Lib.hid hbm
            have HPH := Lib.hid hph
            have HMAT := Lib.hid hmat
            have HBW3 := Lib.hid hbw3
            clear hph hmat hbw3 hbm
            by_cases hb : b < n
            · have HBN := Lib.hid hb
              have hbi0 : (0 : Int) ≤ (b : Int) := Int.natCast_nonneg _
              have hbi1 : (b : Int) < (n : Int) := by omega
              clear hb
              go_wp2_with fail
              obtain ⟨wo3, rfl⟩ : ∃ wo3 : World, wo3 = wr := ⟨_, rfl⟩
              go_loopg [63] n (fun m t wr => ∃ (x : Nat) (M : Nat → Nat → Int), x + m = n ∧ t = .int .i64 (x : Int) ∧ Ph E n b x 0 M ∧ MatF wr (w.heap.size + 1) (w.heap.size + 1) r n M ∧ Below (w.heap.size + 1) w1 wr)
              case atStart => exact ⟨0, _, by omega, rfl, HPH.out, HMAT.out, HBW3.out⟩
              case round =>
                clear HPH HMAT HBW3
                obtain ⟨x, M, hxm, rfl, hph, hmat, hbw4⟩ := hrel
                have HXM := Lib.hid hxm
                have HPH := Lib.hid hph
                have HMAT := Lib.hid hmat
                have HBW4 := Lib.hid hbw4
                clear hph hmat hbw4 hxm
                by_cases hx : x < n
                · have HXN := Lib.hid hx
                  have hxi0 : (0 : Int) ≤ (x : Int) := Int.natCast_nonneg _
                  have hxi1 : (x : Int) < (n : Int) := by omega
                  have tx := HMAT.out.top.cell hx
                  have tb := HMAT.out.top.cell HBN.out
                  clear hx
                  go_wp2_with fail
                  obtain ⟨wo4, rfl⟩ : ∃ wo4 : World, wo4 = wr := ⟨_, rfl⟩
                  clear tx tb
                  go_loopg [72] n (fun m t wr => ∃ (y : Nat) (M : Nat → Nat → Int), y + m = n ∧ t = .int .i64 (y : Int) ∧ Ph E n b x y M ∧ MatF wr (w.heap.size + 1) (w.heap.size + 1) r n M ∧ Below (w.heap.size + 1) w1 wr)
                  case atStart => exact ⟨0, _, by omega, rfl, HPH.out, HMAT.out, HBW4.out⟩
                  case round =>
                    clear HPH HMAT HBW4
                    obtain ⟨y, M, hym, rfl, hph, hmat, hbw5⟩ := hrel
                    have HYM := Lib.hid hym
                    have HPH := Lib.hid hph
                    have HMAT := Lib.hid hmat
                    have HBW5 := Lib.hid hbw5
                    clear hph hmat hbw5 hym
                    by_cases hy : y < n
                    · have HYN := Lib.hid hy
                      have hyi0 : (0 : Int) ≤ (y : Int) := Int.natCast_nonneg _
                      have hyi1 : (y : Int) < (n : Int) := by omega
                      have rxy := (HMAT.out.row x HXN.out).cell hy
                      have rxb := (HMAT.out.row x HXN.out).cell HBN.out
                      have rby := (HMAT.out.row b HBN.out).cell hy
                      have rf := (HMAT.out.row x HXN.out).frozen y
                      have HNEW := Lib.hid (HPH.out.step HE.out HBN.out HXN.out hy)
                      have HU1 := Lib.hid (HPH.out.1.bd HXN.out HBN.out)
                      have HU2 := Lib.hid (HPH.out.1.bd HBN.out hy)
                      have HSET := Lib.hid ((HMAT.out.set HXN.out hy (min (M x y) (plusN (M x b) (M b y)))))
                      have HB6 := Lib.hid ((HBW5.out.setCell (p := ⟨r x, y, none⟩) (HMAT.out.los x HXN.out) (.int .u64 (min (M x y) (plusN (M x b) (M b y))))))
                      obtain ⟨m0, hm0⟩ : ∃ m, m = M x y := ⟨_, rfl⟩
                      obtain ⟨m1, hm1⟩ : ∃ m, m = M x b := ⟨_, rfl⟩
                      obtain ⟨m2, hm2⟩ : ∃ m, m = M b y := ⟨_, rfl⟩
                      rw [← hm0] at rxy HNEW HSET HB6
                      rw [← hm1] at rxb HNEW HSET HB6 HU1
                      rw [← hm2] at rby HNEW HSET HB6 HU2
                      obtain ⟨ps, hps⟩ : ∃ ps, ps = plusN m1 m2 := ⟨_, rfl⟩
                      have HPS := Lib.hid (fun W => plus_still m1 m2 HU1.out HU2.out W)
                      rw [← hps] at HNEW HSET HB6 HPS
                      clear hm0 hm1 hm2 hps hy
                      go_wp2_with fail
                      go_still_tail 14, (by kernel_rfl)
                      still_call (HPS.out _)
                      repeat still_step
                      refine wpStill_nil ?_
                      go_wp2_with fail
                      go_roundg (n - (y + 1))
                      case measure => have := HYM.out; have := HYN.out; omega
                      case rel => exact ⟨y + 1, _, by have := HYM.out; have := HYN.out; omega, by go_num, HNEW.out, HSET.out.below ((Below.refl _ _).drew), HB6.out.drew⟩
                    · have HN := Lib.hid (HPH.out.row (by omega))
                      go_wp2_with fail
                      go_roundg (n - (x + 1))
                      case measure => have := HXM.out; have := HXN.out; omega
                      case rel => exact ⟨x + 1, _, by have := HXM.out; have := HXN.out; omega, by go_num, HN.out, HMAT.out, HBW5.out⟩
                · have HN := Lib.hid (HPH.out.next (by omega))
                  go_wp2_with fail
                  go_roundg (n - (b + 1))
                  case measure => have := HBM.out; have := HBN.out; omega
                  case rel => exact ⟨b + 1, _, by have := HBM.out; have := HBN.out; omega, by go_num, HN.out, HMAT.out, HBW4.out⟩
            · have HN := Lib.hid (HPH.out.done HE.out (by have := HBM.out; omega))
              go_wp2_with fail
              go_ret
              exact ⟨_, M, rfl, ⟨_, r, rfl, HMAT.out.base (Nat.le_succ _)⟩, HN.out, HB0.out.trans (HBW3.out.mono (Nat.le_succ _))⟩
end Go.Proofs.YtdbaacalfbbdiaaGreatDoor.Gr
