/-
  YtlkljeedlkbkgaaGreatDoorGWays
  YtlkljeedlkbkgaaGreatDoorGCheck2
-/
import Derived.Test.YtlkljeedlkbkgaaGreatDoorJoined12
import Derived.Test.YtlkljeedlkbkgaaGreatDoorJoined19
import Derived.Deep.RegionHeld3
import Derived.BigQuiet
import Derived.Deep.QuietTactic
namespace Go.Proofs.YtlkljeedlkbkgaaGreatDoor.Gr
open Go.RowKit
set_option linter.unusedVariables false
theorem plus_still (a b : Int) (ha : 0 ≤ a ∧ a ≤ 18446744073709551615) (hb : 0 ≤ b ∧ b ≤ 18446744073709551615) (w : World) :
    Calls Tryz.prog 52 #[.int .u64 a, .int .u64 b] w fun e w'' => e = .returned (.int .u64 (plusN a b)) ∧ w'' = w :=
  (Stamp.plus_any a b ha hb w).mono fun e w' ⟨he, hw⟩ => ⟨he, hw.symm⟩
set_option maxRecDepth 1000000 in
set_option maxHeartbeats 16000000 in
theorem ways_any {w : World} {ve vi : Value} {E : List Ed} {n : Nat} (hv : Rd w ve E) (hE : Fits E n) (h0 : 1 ≤ n) (h1 : n ≤ 64) (hl : E.length ≤ 100000) :
    Calls Tryz.prog 46 #[.agg #[.int .i64 (n : Int), ve, vi]] w fun e w' => ∃ (v : Value) (M : Nat → Nat → Int), e = .returned v ∧ Mat w' w.heap.size v n M ∧ LeastM E false n M ∧ Below w.heap.size w w' := by
  have hmk := run_make_row' 52 59 (.slice none 0 0) 24 Tryz.underlying52 infoRow rfl .i64 .i64 n (by omega) (by omega)
  have HE := Lib.hid hE
  obtain ⟨ao, cap, rfl, hlc, hcm, hwf, hcell⟩ := hv
  have HC := Lib.hid hcell
  have HWF := Lib.hid hwf
  have hlen : E.length ≤ 9223372036854775807 := by omega
  have hn1 : (1 : Int) ≤ (n : Int) := by omega
  have hn2 : (n : Int) ≤ 64 := by omega
  have hnb : n ≤ 9223372036854775807 := by omega
  clear hcell hwf hlc hcm
  obtain ⟨w1, hw1⟩ : ∃ w1, w1 = w.alloc (.cells #[.int .i64 (n : Int), .slice ao E.length cap, vi] 56) := ⟨_, rfl⟩
  have hsz : w1.heap.size = w.heap.size + 1 := by rw [hw1]; simp
  have HB0 := Lib.hid (show Below w.heap.size w w1 by rw [hw1]; exact (Below.refl _ _).alloc (Nat.le_refl _) _)
  have b0 : w1.cell? ⟨w.heap.size, 0, none⟩ = some (.int .i64 (n : Int)) := by rw [hw1]; simp
  have b1 : w1.cell? ⟨w.heap.size, 1, none⟩ = some (.slice ao E.length cap) := by rw [hw1]; simp
  have HBX := Lib.hid (show ∀ wr, Below (w.heap.size + 1) w1 wr → wr.cell? ⟨w.heap.size, 0, none⟩ = some (.int .i64 (n : Int)) ∧ wr.cell? ⟨w.heap.size, 1, none⟩ = some (.slice ao E.length cap) from fun wr h => ⟨(h.cell (p := ⟨w.heap.size, 0, none⟩) (Nat.lt_succ_self _)).trans b0, (h.cell (p := ⟨w.heap.size, 1, none⟩) (Nat.lt_succ_self _)).trans b1⟩)
  have HSZ := Lib.hid hsz
  have HW1 := Lib.hid hw1
  clear b0 b1 hsz hw1
  go_enter Tryz.func46, Tryz.ntmps46
  go_wp2_with fail
  obtain ⟨w2, hw2⟩ : ∃ w2, w2 = w1.alloc (.cells (madeCells #[.slice none 0 0] n) 59) := ⟨_, rfl⟩
  have HB2 := Lib.hid (show Below (w.heap.size + 1) w1 w2 by rw [hw2]; exact (Below.refl _ _).alloc (Nat.le_of_eq HSZ.out.symm) _)
  have HR0 := Lib.hid (show RowsTo w2 (w.heap.size + 1) (w.heap.size + 1) (fun _ => 0) n 0 (fun _ _ => 18446744073709551615) by
    have h := World.rowIs_made w1 (.slice none 0 0) n 59
    rw [← hw2, HSZ.out] at h
    exact RowsTo.start h (Nat.le_refl _))
  rw [HW1.out] at hw2
  go_loopg [17] n (fun m t wr => ∃ (k : Nat) (r : Nat → Nat), k + m = n ∧ t = .int .i64 (k : Int) ∧ RowsTo wr (w.heap.size + 1) (w.heap.size + 1) r n k (fun _ _ => 18446744073709551615) ∧ Below (w.heap.size + 1) w1 wr)
  case atStart => exact ⟨0, fun _ => 0, by omega, rfl, by rw [← hw2]; exact HR0.out, by rw [← hw2]; exact HB2.out⟩
  case round =>
    obtain ⟨k, r, hkm, rfl, hrows, hbw⟩ := hrel
    have HKM := Lib.hid hkm
    have HR := Lib.hid hrows
    have HBW := Lib.hid hbw
    obtain ⟨b0, b1⟩ := HBX.out wr hbw
    have hbs : w.heap.size + 1 ≤ wr.heap.size := by have := hrows.top.lt; omega
    have hblt : w.heap.size < wr.heap.size := hbs
    clear hrows hbw hkm hw2 HR0 HB2
    by_cases hk : k < n
    · have hk0 : (0 : Int) ≤ (k : Int) := Int.natCast_nonneg _
      have hk1 : (k : Int) < (n : Int) := by omega
      have HRP := Lib.hid (repeat_any (w := wr.alloc (.cells #[.int .u64 18446744073709551615] 36)) wr.heap.size 18446744073709551615 n h0 h1 (by simp))
      have HK := Lib.hid hk
      clear hk
      go_wp2_with fail
      go_at_call 50
      refine HRP.out.mono ?_
      rintro e w3 ⟨b, rfl, hbl, hrow, hb3⟩
      have HA := Lib.hid (show Below wr.heap.size wr w3 from ((Below.refl _ _).alloc (Nat.le_refl _) _).trans (hb3.mono (by simp)))
      have hbl2 : wr.heap.size ≤ b := by simp at hbl; omega
      have HNEW := Lib.hid (HR.out.step HA.out hbl2 hrow hbs)
      have g0 := (HR.out.below HA.out).top.cell HK.out
      have gf := (HR.out.below HA.out).top.frozen k
      rw [if_neg (Nat.lt_irrefl k)] at g0
      have HB3 := Lib.hid ((HBW.out.trans (HA.out.mono hbs)).setCell (p := ⟨w.heap.size + 1, k, none⟩) (Nat.le_refl _) (.slice (some ⟨b, 0, none⟩) n n))
      clear hbl hrow hb3 hbl2 HA
      go_wp2_with fail
      go_roundg (gk - 1)
      case measure => have := HKM.out; have := HK.out; omega
      case rel => exact ⟨k + 1, _, by have := HKM.out; have := HK.out; omega, by go_num, HNEW.out, HB3.out⟩
    · obtain rfl : n = k := by have := HKM.out; omega
      have HM := Lib.hid HR.out.done
      clear HR HKM
      go_wp2_with fail
      obtain ⟨wo, rfl⟩ : ∃ wo : World, wo = wr := ⟨_, rfl⟩
      clear b0 b1
      go_loopg [31] E.length (fun m t wr => ∃ (k2 : Nat) (M : Nat → Nat → Int), k2 + m = E.length ∧ t = .int .i64 (k2 : Int) ∧ Ph0 E n k2 M ∧ MatF wr (w.heap.size + 1) (w.heap.size + 1) r n M ∧ Below (w.heap.size + 1) w1 wr)
      case atStart => exact ⟨0, _, by omega, rfl, Ph0.start E n, HM.out, HBW.out⟩
      case round =>
        obtain ⟨k2, M, hkm2, rfl, hph, hmat, hbw2⟩ := hrel
        have HKM2 := Lib.hid hkm2
        have HPH := Lib.hid hph
        have HMAT := Lib.hid hmat
        have HBW2 := Lib.hid hbw2
        obtain ⟨b0, b1⟩ := HBX.out wr hbw2
        have hbs2 : w.heap.size + 1 ≤ wr.heap.size := by have := hmat.top.lt; omega
        clear hph hmat hbw2 hkm2
        by_cases hk2 : k2 < E.length
        · obtain ⟨x, hx, hxm⟩ := at_of hk2
          have hfit := HE.out x hxm
          obtain ⟨b, off, hao, hcc⟩ := HC.out.resolve_left (by intro e; rw [e] at hk2; simp at hk2)
          subst hao
          have q := (hcc k2 x hx).below HB0.out (hcc k2 x hx).lt
          have q2 := q.below HBW2.out (by have := (hcc k2 x hx).lt; omega)
          have hbl := (hcc k2 x hx).lt
          obtain ⟨c0, c1, c2⟩ := q2
          have hblw : b < wr.heap.size := by omega
          obtain ⟨f, hf⟩ : ∃ f : Nat, x.f = f := ⟨x.f.toNat, by omega⟩
          obtain ⟨t, ht⟩ : ∃ t : Nat, x.t = t := ⟨x.t.toNat, by omega⟩
          have hfn : f < n := by omega
          have htn : t < n := by omega
          have HNEW := Lib.hid (HPH.out.step HE.out hx hf ht)
          have ha0 : 0 ≤ x.a := hfit.2.2.2.2.1
          have ha1 : x.a ≤ 18446744073709551615 := hfit.2.2.2.2.2
          obtain ⟨xf, xt, xa⟩ := x
          simp only at c0 c1 c2 hf ht ha0 ha1 HNEW
          subst hf ht
          have hk20 : (0 : Int) ≤ (k2 : Int) := Int.natCast_nonneg _
          have hk21 : (k2 : Int) < (E.length : Int) := by omega
          have hf0 : (0 : Int) ≤ (f : Int) := Int.natCast_nonneg _
          have hf1 : (f : Int) < (n : Int) := by omega
          have ht0 : (0 : Int) ≤ (t : Int) := Int.natCast_nonneg _
          have ht1 : (t : Int) < (n : Int) := by omega
          have g0 := HMAT.out.top.cell hfn
          have r0 := (HMAT.out.row f hfn).cell htn
          have rf := (HMAT.out.row f hfn).frozen t
          have rl := (HMAT.out.row f hfn).lt
          have rb := HMAT.out.los f hfn
          have HFN := Lib.hid hfn
          have HTN := Lib.hid htn
          have HK2 := Lib.hid hk2
          have hglt : w.heap.size + 1 < wr.heap.size := HMAT.out.top.lt
          have HAL := Lib.hid (show Below (wr.setCell ⟨r f, t, none⟩ (.int .u64 (min (M f t) xa))).heap.size (wr.setCell ⟨r f, t, none⟩ (.int .u64 (min (M f t) xa))) (((wr.setCell ⟨r f, t, none⟩ (.int .u64 (min (M f t) xa))).alloc (.cells #[.int .i64 (f : Int), .int .i64 (t : Int), .int .u64 xa] 107)).drew) from ((Below.refl _ _).alloc (Nat.le_refl _) _).drew)
          have HSET := Lib.hid ((HMAT.out.set hfn htn (min (M f t) xa)).below HAL.out)
          have HB3 := Lib.hid ((HBW2.out.setCell (p := ⟨r f, t, none⟩) rb (.int .u64 (min (M f t) xa))).trans (HAL.out.mono (by simp; exact hbs2)))
          obtain ⟨m, hm⟩ : ∃ m, m = M f t := ⟨_, rfl⟩
          rw [← hm] at r0 HNEW HSET HB3
          clear HAL
          have HMM := Lib.hid hm
          clear hx hxm hfit hcc q hbl hm hfn htn hk2
          go_wp2_with fail
          go_region
          go_wp2
          go_roundg (gk - 1)
          case measure => have := HKM2.out; have := HK2.out; omega
          case rel => exact ⟨k2 + 1, _, by have := HKM2.out; have := HK2.out; omega, by go_num, HNEW.out, HSET.out, HB3.out⟩
        · have HP := Lib.hid (HPH.out.done HE.out (by omega))
          clear HPH
          go_wp2_with fail
          obtain ⟨wo2, rfl⟩ : ∃ wo2 : World, wo2 = wr := ⟨_, rfl⟩
          clear b0 b1
          go_loopg [58] n (fun m t wr => ∃ (b : Nat) (M : Nat → Nat → Int), b + m = n ∧ t = .int .i64 (b : Int) ∧ Ph E n b 0 0 M ∧ MatF wr (w.heap.size + 1) (w.heap.size + 1) r n M ∧ Below (w.heap.size + 1) w1 wr)
          case atStart => exact ⟨0, _, by omega, rfl, HP.out, HMAT.out, HBW2.out⟩
          case round =>
            clear HP HMAT HBW2 HM HBW
            obtain ⟨b, M, hbm, rfl, hph, hmat, hbw3⟩ := hrel
            have HBM := Lib.hid hbm
            have HPH := Lib.hid hph
            have HMAT := Lib.hid hmat
            have HBW3 := Lib.hid hbw3
            clear hph hmat hbw3 hbm
            by_cases hb : b < n
            · have HBN := Lib.hid hb
              have hbi0 : (0 : Int) ≤ (b : Int) := Int.natCast_nonneg _
              have hbi1 : (b : Int) < (n : Int) := by omega
              clear hb
              go_wp2_with fail
              obtain ⟨wo3, rfl⟩ : ∃ wo3 : World, wo3 = wr := ⟨_, rfl⟩
              go_loopg [63] n (fun m t wr => ∃ (x : Nat) (M : Nat → Nat → Int), x + m = n ∧ t = .int .i64 (x : Int) ∧ Ph E n b x 0 M ∧ MatF wr (w.heap.size + 1) (w.heap.size + 1) r n M ∧ Below (w.heap.size + 1) w1 wr)
              case atStart => exact ⟨0, _, by omega, rfl, HPH.out, HMAT.out, HBW3.out⟩
              case round =>
                clear HPH HMAT HBW3
                obtain ⟨x, M, hxm, rfl, hph, hmat, hbw4⟩ := hrel
                have HXM := Lib.hid hxm
                have HPH := Lib.hid hph
                have HMAT := Lib.hid hmat
                have HBW4 := Lib.hid hbw4
                clear hph hmat hbw4 hxm
                by_cases hx : x < n
                · have HXN := Lib.hid hx
                  have hxi0 : (0 : Int) ≤ (x : Int) := Int.natCast_nonneg _
                  have hxi1 : (x : Int) < (n : Int) := by omega
                  have tx := HMAT.out.top.cell hx
                  have tb := HMAT.out.top.cell HBN.out
                  clear hx
                  go_wp2_with fail
                  obtain ⟨wo4, rfl⟩ : ∃ wo4 : World, wo4 = wr := ⟨_, rfl⟩
                  clear tx tb
                  go_loopg [72] n (fun m t wr => ∃ (y : Nat) (M : Nat → Nat → Int), y + m = n ∧ t = .int .i64 (y : Int) ∧ Ph E n b x y M ∧ MatF wr (w.heap.size + 1) (w.heap.size + 1) r n M ∧ Below (w.heap.size + 1) w1 wr)
                  case atStart => exact ⟨0, _, by omega, rfl, HPH.out, HMAT.out, HBW4.out⟩
                  case round =>
                    clear HPH HMAT HBW4
                    obtain ⟨y, M, hym, rfl, hph, hmat, hbw5⟩ := hrel
                    have HYM := Lib.hid hym
                    have HPH := Lib.hid hph
                    have HMAT := Lib.hid hmat
                    have HBW5 := Lib.hid hbw5
                    clear hph hmat hbw5 hym
                    by_cases hy : y < n
                    · have HYN := Lib.hid hy
                      have hyi0 : (0 : Int) ≤ (y : Int) := Int.natCast_nonneg _
                      have hyi1 : (y : Int) < (n : Int) := by omega
                      have rxy := (HMAT.out.row x HXN.out).cell hy
                      have rxb := (HMAT.out.row x HXN.out).cell HBN.out
                      have rby := (HMAT.out.row b HBN.out).cell hy
                      have rf := (HMAT.out.row x HXN.out).frozen y
                      have HNEW := Lib.hid (HPH.out.step HE.out HBN.out HXN.out hy)
                      have HU1 := Lib.hid (HPH.out.1.bd HXN.out HBN.out)
                      have HU2 := Lib.hid (HPH.out.1.bd HBN.out hy)
                      have HSET := Lib.hid ((HMAT.out.set HXN.out hy (min (M x y) (plusN (M x b) (M b y)))))
                      have HB6 := Lib.hid ((HBW5.out.setCell (p := ⟨r x, y, none⟩) (HMAT.out.los x HXN.out) (.int .u64 (min (M x y) (plusN (M x b) (M b y))))))
                      obtain ⟨m0, hm0⟩ : ∃ m, m = M x y := ⟨_, rfl⟩
                      obtain ⟨m1, hm1⟩ : ∃ m, m = M x b := ⟨_, rfl⟩
                      obtain ⟨m2, hm2⟩ : ∃ m, m = M b y := ⟨_, rfl⟩
                      rw [← hm0] at rxy HNEW HSET HB6
                      rw [← hm1] at rxb HNEW HSET HB6 HU1
                      rw [← hm2] at rby HNEW HSET HB6 HU2
                      obtain ⟨ps, hps⟩ : ∃ ps, ps = plusN m1 m2 := ⟨_, rfl⟩
                      have HPS := Lib.hid (fun W => plus_still m1 m2 HU1.out HU2.out W)
                      rw [← hps] at HNEW HSET HB6 HPS
                      clear hm0 hm1 hm2 hps hy
                      go_wp2_with fail
                      go_still_tail 14, (by kernel_rfl)
                      still_call (HPS.out _)
                      repeat still_step
                      refine wpStill_nil ?_
                      go_wp2_with fail
                      go_roundg (n - (y + 1))
                      case measure => have := HYM.out; have := HYN.out; omega
                      case rel => exact ⟨y + 1, _, by have := HYM.out; have := HYN.out; omega, by go_num, HNEW.out, HSET.out.below ((Below.refl _ _).drew), HB6.out.drew⟩
                    · have HN := Lib.hid (HPH.out.row (by omega))
                      go_wp2_with fail
                      go_roundg (n - (x + 1))
                      case measure => have := HXM.out; have := HXN.out; omega
                      case rel => exact ⟨x + 1, _, by have := HXM.out; have := HXN.out; omega, by go_num, HN.out, HMAT.out, HBW5.out⟩
                · have HN := Lib.hid (HPH.out.next (by omega))
                  go_wp2_with fail
                  go_roundg (n - (b + 1))
                  case measure => have := HBM.out; have := HBN.out; omega
                  case rel => exact ⟨b + 1, _, by have := HBM.out; have := HBN.out; omega, by go_num, HN.out, HMAT.out, HBW4.out⟩
            · have HN := Lib.hid (HPH.out.done HE.out (by have := HBM.out; omega))
              go_wp2_with fail
              go_ret
              exact ⟨_, M, rfl, ⟨_, r, rfl, HMAT.out.base (Nat.le_succ _)⟩, HN.out, HB0.out.trans (HBW3.out.mono (Nat.le_succ _))⟩
end Go.Proofs.YtlkljeedlkbkgaaGreatDoor.Gr
namespace Go.Proofs.YtlkljeedlkbkgaaGreatDoor.Gr
open Go.RowKit Fault
set_option linter.unusedVariables false
def chkI (n : Int) (I : List Int) : List Pl × Int := if I.length = 0 ∨ 8 < I.length then ([], 4) else inputsV n 0 [] I
theorem chkI_many {n : Int} {I : List Int} (h : I.length = 0 ∨ 8 < I.length) : chkI n I = ([], 4) := if_pos h
theorem chkI_few {n : Int} {I : List Int} (h : ¬ (I.length = 0 ∨ 8 < I.length)) : chkI n I = inputsV n 0 [] I := if_neg h
set_option maxRecDepth 1000000 in
set_option maxHeartbeats 8000000 in
theorem checkInputs_any {w : World} {ve vi : Value} {I : List Int} (n : Int) (hv : RdI w vi I) :
    Calls Tryz.prog 89 #[.agg #[.int .i64 n, ve, vi]] w fun e w' => ∃ v, e = .returned v ∧ ErrIs w' v (chkI n I) ∧ Below w.heap.size w w' := by
  have HRI := Lib.hid hv
  obtain ⟨ao, cap, rfl, hlc, hcm, hwf, hcell⟩ := hv
  have HC := Lib.hid hcell
  have hlen : I.length ≤ 9223372036854775807 := by omega
  have HLC := Lib.hid hlc
  have HCM := Lib.hid hcm
  clear hcell hwf
  obtain ⟨w1, hw1⟩ : ∃ w1, w1 = w.alloc (.cells #[.int .i64 n, ve, .slice ao I.length cap] 56) := ⟨_, rfl⟩
  have hsz : w1.heap.size = w.heap.size + 1 := by rw [hw1]; simp
  have HB0 := Lib.hid (show Below w.heap.size w w1 by rw [hw1]; exact (Below.refl _ _).alloc (Nat.le_refl _) _)
  have b0 : w1.cell? ⟨w.heap.size, 0, none⟩ = some (.int .i64 n) := by rw [hw1]; simp
  have b1 : w1.cell? ⟨w.heap.size, 1, none⟩ = some ve := by rw [hw1]; simp
  have b2 : w1.cell? ⟨w.heap.size, 2, none⟩ = some (.slice ao I.length cap) := by rw [hw1]; simp
  have HBX := Lib.hid (show ∀ wr, Below (w.heap.size + 1) w1 wr → wr.cell? ⟨w.heap.size, 0, none⟩ = some (.int .i64 n) ∧ wr.cell? ⟨w.heap.size, 1, none⟩ = some ve ∧ wr.cell? ⟨w.heap.size, 2, none⟩ = some (.slice ao I.length cap) from fun wr h => ⟨(h.cell (p := ⟨w.heap.size, 0, none⟩) (Nat.lt_succ_self _)).trans b0, (h.cell (p := ⟨w.heap.size, 1, none⟩) (Nat.lt_succ_self _)).trans b1, (h.cell (p := ⟨w.heap.size, 2, none⟩) (Nat.lt_succ_self _)).trans b2⟩)
  have HSZ := Lib.hid hsz
  have HW1 := Lib.hid hw1
  clear b0 b1 b2 hsz hlc hcm
  by_cases hz : I.length = 0
  · have HM := Lib.hid (chkI_many (n := n) (.inl hz))
    have hzi : ((I.length : Int) == 0) = true := by rw [hz]; rfl
    clear hz hw1
    go_enter Tryz.func89, Tryz.ntmps89
    go_wp2_with fail
    go_ret
    refine ⟨_, rfl, ?_, by rw [← HW1.out]; exact HB0.out⟩
    rw [HM.out]
    exact ErrIs.some (by decide) rfl
  have hzi : ((I.length : Int) == 0) = false := by rw [beq_eq_false_iff_ne]; omega
  by_cases hm : 8 < I.length
  · have HM := Lib.hid (chkI_many (n := n) (.inr hm))
    have hm' : (8 : Int) < (I.length : Int) := by omega
    clear hm hw1 hz
    go_enter Tryz.func89, Tryz.ntmps89
    go_wp2_with fail
    go_ret
    refine ⟨_, rfl, ?_, by rw [← HW1.out]; exact HB0.out⟩
    rw [HM.out]
    exact ErrIs.some (by decide) rfl
  · have hm' : ¬ ((8 : Int) < (I.length : Int)) := by omega
    have HM := Lib.hid (chkI_few (n := n) (I := I) (fun h => h.elim hz hm))
    have HAS := Lib.hid (fun W p => has_any n p ve (.slice ao I.length cap) W)
    clear hm hw1 hz
    go_enter Tryz.func89, Tryz.ntmps89
    go_wp2_with fail
    go_loopg [19] I.length (fun m t wr => ∃ k : Nat, k + m = I.length ∧ t = .int .i64 (k : Int) ∧ InOk n I k ∧ Below (w.heap.size + 1) w1 wr)
    case atStart => exact ⟨0, by omega, rfl, fun j p hj => by omega, by rw [← HW1.out]; exact Below.refl _ _⟩
    case round =>
      obtain ⟨k, hkm, rfl, hok, hbw⟩ := hrel
      have HKM := Lib.hid hkm
      have HOK := Lib.hid hok
      have HBW := Lib.hid hbw
      obtain ⟨b0, b1, b2⟩ := HBX.out wr hbw
      have hbs : w.heap.size + 1 ≤ wr.heap.size := by have := hbw.size; have := HSZ.out; omega
      have hblt : w.heap.size < wr.heap.size := hbs
      clear hkm hok hbw
      by_cases hk : k < I.length
      · obtain ⟨x, hx, hxm⟩ := at_ofI hk
        obtain ⟨b, off, hao, hcc⟩ := HC.out.resolve_left (by intro e; rw [e] at hk; simp at hk)
        subst hao
        have hcx := hcc k x hx
        have hbl := Lib.lt_of_cell hcx
        have c0 := (HBW.out.cell (p := ⟨b, off + k, none⟩) (Nat.lt_succ_of_lt hbl)).trans ((HB0.out.cell (p := ⟨b, off + k, none⟩) hbl).trans hcx)
        have hk0 : (0 : Int) ≤ (k : Int) := Int.natCast_nonneg _
        have hk1 : (k : Int) < (I.length : Int) := by omega
        have hkc : (k : Int) ≤ (cap : Int) := by have := HLC.out; omega
        have hkcn : k ≤ cap := by have := HLC.out; omega
        have hcapb : cap ≤ 9223372036854775807 := HCM.out
        have HX := Lib.hid hx
        have HK := Lib.hid hk
        have HA1 := Lib.hid (HAS.out wr x)
        have HTK := Lib.hid ((HRI.out).take k (Nat.le_of_lt hk) cap hkcn HCM.out)
        by_cases hf : inP n x
        · have hdf : decide (inP n x) = true := decide_eq_true hf
          rw [hdf] at HA1
          by_cases hd : x ∈ I.take k
          · have hdd : decide (x ∈ I.take k) = true := decide_eq_true hd
            have HV := Lib.hid (inputsV_twice HOK.out HX.out hf hd)
            have HCT := Lib.hid (fun W (h : RdI W (.slice (some ⟨b, off, none⟩) k cap) (I.take k)) => show Calls _ _ _ W fun e w' => e = .returned (.bool true) ∧ W = w' by have := contains_any x h; rw [hdd] at this; exact this)
            clear hf hdf hd hdd hx hxm hcc hcx hbl hk
            go_wp2_with fail
            go_at_call 120
            refine HA1.out.mono ?_
            rintro e w3 ⟨rfl, hb3⟩
            have hb4 := HBW.out.trans (hb3.mono hbs)
            obtain ⟨b0, b1, b2⟩ := HBX.out w3 hb4
            have HB4 := Lib.hid hb4
            have HT3 := Lib.hid (HTK.out.below (HB0.out.trans (hb4.mono (Nat.le_succ _))))
            clear hb3 hb4
            go_wp2_with fail
            go_at_call 121
            refine (HCT.out _ HT3.out).mono ?_
            rintro e w4 ⟨rfl, rfl⟩
            go_wp2_with fail
            go_at_call 58
            refine (at_chain (l := []) (b := errnoV 1) _ _ rfl (.inl ⟨1, rfl⟩)).mono ?_
            rintro e w5 ⟨blk, rfl, hch, hb6⟩
            have HCH := Lib.hid hch
            have HB6 := Lib.hid (HB4.out.trans (hb6.mono (by have := HB4.out.size; have := HSZ.out; omega)))
            clear hch hb6
            go_wp2_with fail
            go_ret
            refine ⟨_, rfl, ?_, HB0.out.trans (HB6.out.mono (Nat.le_succ _))⟩
            rw [HM.out, HV.out]
            exact ErrIs.some (by decide) HCH.out
          · have hdd : decide (x ∈ I.take k) = false := decide_eq_false hd
            have HN := Lib.hid (HOK.out.step HX.out hf hd)
            have HCT := Lib.hid (fun W (h : RdI W (.slice (some ⟨b, off, none⟩) k cap) (I.take k)) => show Calls _ _ _ W fun e w' => e = .returned (.bool false) ∧ W = w' by have := contains_any x h; rw [hdd] at this; exact this)
            clear hf hdf hd hdd hx hxm hcc hcx hbl hk
            go_wp2_with fail
            go_at_call 120
            refine HA1.out.mono ?_
            rintro e w3 ⟨rfl, hb3⟩
            have hb4 := HBW.out.trans (hb3.mono hbs)
            obtain ⟨b0, b1, b2⟩ := HBX.out w3 hb4
            have HB4 := Lib.hid hb4
            have HT3 := Lib.hid (HTK.out.below (HB0.out.trans (hb4.mono (Nat.le_succ _))))
            clear hb3 hb4
            go_wp2_with fail
            go_at_call 121
            refine (HCT.out _ HT3.out).mono ?_
            rintro e w4 ⟨rfl, rfl⟩
            go_wp2_with fail
            go_roundg (gk - 1)
            case measure => have := HKM.out; have := HK.out; omega
            case rel => exact ⟨k + 1, by have := HKM.out; have := HK.out; omega, by go_num, HN.out, HB4.out⟩
        · have hdf : decide (inP n x) = false := decide_eq_false hf
          have HV := Lib.hid (inputsV_out HOK.out HX.out hf)
          rw [hdf] at HA1
          clear hf hdf hx hxm hcc hcx hbl hk
          go_wp2_with fail
          go_at_call 120
          refine HA1.out.mono ?_
          rintro e w3 ⟨rfl, hb3⟩
          have HB4 := Lib.hid (HBW.out.trans (hb3.mono hbs))
          clear hb3
          go_wp2_with fail
          go_at_call 58
          refine (at_chain (l := []) (b := errnoV 2) _ _ rfl (.inl ⟨2, rfl⟩)).mono ?_
          rintro e w5 ⟨blk, rfl, hch, hb6⟩
          have HCH := Lib.hid hch
          have HB6 := Lib.hid (HB4.out.trans (hb6.mono (by have := HB4.out.size; have := HSZ.out; omega)))
          clear hch hb6
          go_wp2_with fail
          go_ret
          refine ⟨_, rfl, ?_, HB0.out.trans (HB6.out.mono (Nat.le_succ _))⟩
          rw [HM.out, HV.out]
          exact ErrIs.some (by decide) HCH.out
      · obtain rfl : I.length = k := by have := HKM.out; omega
        have HV := Lib.hid (inputsV_ok HOK.out)
        go_wp2_with fail
        go_ret
        refine ⟨_, rfl, ?_, HB0.out.trans (HBW.out.mono (Nat.le_succ _))⟩
        rw [HM.out, HV.out]
        exact ErrIs.none _
set_option maxRecDepth 1000000 in
set_option maxHeartbeats 8000000 in
theorem checkCycles_any {w : World} {ve vi : Value} {E : List Ed} {n : Nat} (hv : Rd w ve E) (hE : Fits E n) (h0 : 1 ≤ n) (h1 : n ≤ 64) (hl : E.length ≤ 100000) :
    Calls Tryz.prog 90 #[.agg #[.int .i64 (n : Int), ve, vi]] w fun e w' => ∃ v, e = .returned v ∧ ErrIs w' v (cycV (cycO E n)) ∧ Below w.heap.size w w' := by
  have hal : Below w.heap.size w (w.alloc (.cells #[.int .i64 (n : Int), ve, vi] 56)) := (Below.refl _ _).alloc (Nat.le_refl _) _
  have HWY := Lib.hid (ways_any (vi := vi) (hv.below hal) hE h0 h1 hl)
  have HAL := Lib.hid hal
  have HE := Lib.hid hE
  obtain ⟨ao, cap, rfl, _⟩ := hv
  clear hal hE
  go_enter Tryz.func90, Tryz.ntmps90
  go_wp2_with fail
  go_at_call 46
  refine HWY.out.mono ?_
  rintro e w1 ⟨v, M, rfl, ⟨g, r, rfl, hmat⟩, hL, hb1⟩
  have HMAT := Lib.hid hmat
  have HL := Lib.hid hL
  have HB1 := Lib.hid (HAL.out.trans (hb1.mono HAL.out.size))
  have hnb : n ≤ 9223372036854775807 := by omega
  clear hmat hL hb1
  go_wp2_with fail
  go_loopg [8] n (fun m t wr => ∃ p : Nat, p + m = n ∧ t = .int .i64 (p : Int) ∧ (∀ q, q < p → ¬ Round E (q : Nat)) ∧ wr = w1)
  case atStart => exact ⟨0, by omega, rfl, fun q hq => by omega, rfl⟩
  case round =>
    obtain ⟨p, hpm, rfl, hno, hwr⟩ := hrel
    subst wr
    have HPM := Lib.hid hpm
    have HNO := Lib.hid hno
    clear hpm hno
    by_cases hp : p < n
    · have hp0 : (0 : Int) ≤ (p : Int) := Int.natCast_nonneg _
      have hp1 : (p : Int) < (n : Int) := by omega
      have g0 := HMAT.out.top.cell hp
      have r0 := (HMAT.out.row p hp).cell hp
      have HR := Lib.hid (round_prog HE.out (HL.out p p hp hp))
      have HP := Lib.hid hp
      obtain ⟨m0, hm0⟩ : ∃ m, m = M p p := ⟨_, rfl⟩
      rw [← hm0] at r0 HR
      clear hm0 hp
      by_cases hz : m0 = 0
      · have HC := Lib.hid (cycO_eq (E := E) (n := n) (o := some p) (.inl ⟨p, rfl, HP.out, HR.out.1 hz, HNO.out⟩))
        have hzb : (m0 == 0) = true := by rw [beq_iff_eq]; exact hz
        clear hz
        go_wp2_with fail
        go_at_call 58
        refine (at_chain (l := []) (b := errnoV 3) _ _ rfl (.inl ⟨3, rfl⟩)).mono ?_
        rintro e w5 ⟨blk, rfl, hch, hb6⟩
        have HCH := Lib.hid hch
        have HB6 := Lib.hid (HB1.out.trans (hb6.mono HB1.out.size))
        clear hch hb6
        go_wp2_with fail
        go_ret
        refine ⟨_, rfl, ?_, HB6.out⟩
        rw [HC.out]
        exact ErrIs.some (by decide) HCH.out
      · have HN := Lib.hid (show ∀ q, q < p + 1 → ¬ Round E (q : Nat) from fun q hq => by
          by_cases e : q = p
          · subst e; exact fun h => hz (HR.out.2 h)
          · exact HNO.out q (by omega))
        have hzb : (m0 == 0) = false := by rw [beq_eq_false_iff_ne]; exact hz
        clear hz
        go_wp2_with fail
        go_roundg (gk - 1)
        case measure => have := HPM.out; have := HP.out; omega
        case rel => exact ⟨p + 1, by have := HPM.out; have := HP.out; omega, by go_num, HN.out, rfl⟩
    · have HC := Lib.hid (cycO_eq (E := E) (n := n) (o := none) (.inr ⟨rfl, fun q hq => HNO.out q (by omega)⟩))
      go_wp2_with fail
      go_ret
      refine ⟨_, rfl, ?_, HB1.out⟩
      rw [HC.out]
      exact ErrIs.none _
theorem edgesV_fits {n : Int} {E : List Ed} (hw : ∀ x ∈ E, x.Wf) (h : (edgesV n 0 E).2 = 0) : ∀ y ∈ E, inP n y.f ∧ inP n y.t := by
  have go : ∀ (l : List Ed) (i : Nat), (edgesV n i l).2 = 0 → ∀ y ∈ l, inP n y.f ∧ inP n y.t := by
    intro l
    induction l with
    | nil => simp
    | cons x r ih =>
      intro i h
      rw [edgesV] at h
      split at h
      · exact absurd h (show (2 : Int) ≠ 0 by decide)
      · rename_i hf
        split at h
        · exact absurd h (show (2 : Int) ≠ 0 by decide)
        · rename_i ht
          intro y hy
          rcases List.mem_cons.1 hy with rfl | hy
          · exact ⟨Decidable.not_not.1 hf, Decidable.not_not.1 ht⟩
          · exact ih _ h y hy
  exact go E 0 h
theorem fits_of {n : Nat} {E : List Ed} (hw : ∀ x ∈ E, x.Wf) (h : (edgesV (n : Int) 0 E).2 = 0) : Fits E n := fun e he => by
  have h1 := edgesV_fits hw h e he
  have h2 := hw e he
  exact ⟨h1.1.1, h1.1.2, h1.2.1, h1.2.2, h2.a0, h2.a1⟩
set_option maxRecDepth 1000000 in
set_option maxHeartbeats 8000000 in
theorem check_any {w : World} {ve vi : Value} {E : List Ed} {I : List Int} (n : Int) (hv : Rd w ve E) (hi : RdI w vi I) :
    Calls Tryz.prog 45 #[.agg #[.int .i64 n, ve, vi]] w fun e w' => ∃ v, e = .returned v ∧ ErrIs w' v (chkV n E I) ∧ Below w.heap.size w w' := by
  obtain ⟨w1, hw1⟩ : ∃ w1, w1 = w.alloc (.cells #[.int .i64 n, ve, vi] 56) := ⟨_, rfl⟩
  have hsz : w1.heap.size = w.heap.size + 1 := by rw [hw1]; simp
  have hb0 : Below w.heap.size w w1 := by rw [hw1]; exact (Below.refl _ _).alloc (Nat.le_refl _) _
  have b0 : w1.cell? ⟨w.heap.size, 0, none⟩ = some (.int .i64 n) := by rw [hw1]; simp
  have b1 : w1.cell? ⟨w.heap.size, 1, none⟩ = some ve := by rw [hw1]; simp
  have b2 : w1.cell? ⟨w.heap.size, 2, none⟩ = some vi := by rw [hw1]; simp
  have HBX := Lib.hid (show ∀ wr, Below w1.heap.size w1 wr → wr.cell? ⟨w.heap.size, 0, none⟩ = some (.int .i64 n) ∧ wr.cell? ⟨w.heap.size, 1, none⟩ = some ve ∧ wr.cell? ⟨w.heap.size, 2, none⟩ = some vi from fun wr h => ⟨(h.cell (p := ⟨w.heap.size, 0, none⟩) (by rw [hsz]; exact Nat.lt_succ_self _)).trans b0, (h.cell (p := ⟨w.heap.size, 1, none⟩) (by rw [hsz]; exact Nat.lt_succ_self _)).trans b1, (h.cell (p := ⟨w.heap.size, 2, none⟩) (by rw [hsz]; exact Nat.lt_succ_self _)).trans b2⟩)
  have HV := Lib.hid (hv.below hb0)
  have HI := Lib.hid (hi.below hb0)
  have HB0 := Lib.hid hb0
  have HW1 := Lib.hid hw1
  have HWF := Lib.hid hv.wf
  have HCE := Lib.hid (checkEdges_any (vi := vi) n HV.out)
  obtain ⟨ao, cap, rfl, _⟩ := hv
  obtain ⟨aoi, capi, rfl, _⟩ := hi
  clear b0 b1 b2 hsz hb0
  by_cases hn0 : n < 1
  · have HR := Lib.hid (show chkV n E I = ([], 2) from if_pos (.inl hn0))
    clear hw1
    go_enter Tryz.func45, Tryz.ntmps45
    go_wp2_with fail
    go_ret
    refine ⟨_, rfl, ?_, by rw [← HW1.out]; exact HB0.out⟩
    rw [HR.out]
    exact ErrIs.some (by decide) rfl
  by_cases hn1 : 64 < n
  · have HR := Lib.hid (show chkV n E I = ([], 2) from if_pos (.inr hn1))
    clear hw1
    go_enter Tryz.func45, Tryz.ntmps45
    go_wp2_with fail
    go_ret
    refine ⟨_, rfl, ?_, by rw [← HW1.out]; exact HB0.out⟩
    rw [HR.out]
    exact ErrIs.some (by decide) rfl
  obtain ⟨m, hm⟩ : ∃ m : Nat, n = m := ⟨n.toNat, by omega⟩
  subst hm
  have hm0 : 1 ≤ m := by omega
  have hm1 : m ≤ 64 := by omega
  rw [HW1.out] at HCE
  clear hw1
  go_enter Tryz.func45, Tryz.ntmps45
  go_wp2_with fail
  go_at_call 88
  refine HCE.out.mono ?_
  rw [← HW1.out]
  rintro e w2 ⟨v1, rfl, her, hb2⟩
  obtain ⟨b0, b1, b2⟩ := HBX.out w2 hb2
  have HB2 := Lib.hid (HB0.out.trans (hb2.mono HB0.out.size))
  rcases her with ⟨hk, hl0, rfl⟩ | ⟨hk, hch, u, x, rfl⟩
  · have hE256 : ¬ 256 < E.length := fun h => by rw [chkE_many h] at hk; exact absurd hk (by decide)
    rw [chkE_few hE256] at hk
    have HEK := Lib.hid hk
    have HE256 := Lib.hid hE256
    have HFT := Lib.hid (fits_of HWF.out hk)
    have HCI := Lib.hid (checkInputs_any (ve := .slice ao E.length cap) (m : Int) (HI.out.below hb2))
    have HV2 := Lib.hid (HV.out.below hb2)
    have HB12 := Lib.hid hb2
    clear hk hl0 hb2 hE256
    go_wp2_with fail
    go_at_call 89
    refine HCI.out.mono ?_
    rintro e w3 ⟨v2, rfl, her, hb3⟩
    have hb13 := HB12.out.trans (hb3.mono HB12.out.size)
    obtain ⟨b0, b1, b2⟩ := HBX.out w3 hb13
    have HB3 := Lib.hid (HB2.out.trans (hb3.mono HB2.out.size))
    rcases her with ⟨hk, hl0, rfl⟩ | ⟨hk, hch, u, x, rfl⟩
    · have hI8 : ¬ (I.length = 0 ∨ 8 < I.length) := fun h => by rw [chkI_many h] at hk; exact absurd hk (by decide)
      rw [chkI_few hI8] at hk
      have HR := Lib.hid (show chkV (m : Int) E I = cycV (cycO E m) by
        unfold chkV
        rw [if_neg (by omega), if_neg HE256.out, if_neg (fun h => h HEK.out), if_neg hI8, if_neg (fun h => h hk), Int.toNat_natCast])
      have HCC := Lib.hid (checkCycles_any (vi := .slice aoi I.length capi) (HV2.out.below hb3) HFT.out hm0 hm1 (by have := HE256.out; omega))
      clear hk hl0 hb3 hb13 hI8
      go_wp2_with fail
      go_at_call 90
      refine HCC.out.mono ?_
      rintro e w4 ⟨v3, rfl, her, hb4⟩
      have HER := Lib.hid her
      have HB4 := Lib.hid (HB3.out.trans (hb4.mono HB3.out.size))
      clear her hb4
      go_wp2_with fail
      go_ret
      refine ⟨_, rfl, ?_, HB4.out⟩
      rw [HR.out]
      exact HER.out
    · have HR := Lib.hid (show chkV (m : Int) E I = chkI (m : Int) I by
        unfold chkV chkI
        rw [if_neg (by omega), if_neg HE256.out, if_neg (fun h => h HEK.out)]
        by_cases h8 : I.length = 0 ∨ 8 < I.length
        · rw [if_pos h8, if_pos h8]
        · rw [chkI_few h8] at hk
          rw [if_neg h8, if_neg h8, if_pos hk])
      have HER := Lib.hid (show ErrIs w3 (.iface u x) (chkI (m : Int) I) from .inr ⟨hk, hch, u, x, rfl⟩)
      clear hk hch hb3 hb13
      go_wp2_with fail
      go_ret
      refine ⟨_, rfl, ?_, HB3.out⟩
      rw [HR.out]
      exact HER.out
  · have HR := Lib.hid (show chkV (m : Int) E I = chkE (m : Int) E by
      unfold chkV chkE
      rw [if_neg (by omega)]
      by_cases h8 : 256 < E.length
      · rw [if_pos h8, if_pos h8]
      · rw [chkE_few h8] at hk
        rw [if_neg h8, if_neg h8, if_pos hk])
    have HER := Lib.hid (show ErrIs w2 (.iface u x) (chkE (m : Int) E) from .inr ⟨hk, hch, u, x, rfl⟩)
    clear hk hch hb2
    go_wp2_with fail
    go_ret
    refine ⟨_, rfl, ?_, HB2.out⟩
    rw [HR.out]
    exact HER.out
end Go.Proofs.YtlkljeedlkbkgaaGreatDoor.Gr
