/-
  PACKAGE marchlandref05: closed.
-/
import Derived.Test.YtdbaacalfbbdiaaGreatDoorGWayMath
import Derived.WalkKit
import Derived.WalkLawsBesides
import Derived.WalkSpells
import Derived.WalkSmall
import Derived.StillTactics
import Derived.StillTailTactics
import Derived.Deep.RegionLaw
import Derived.Deep.LoopGhost
import Derived.Deep.RegionHeld3
import Derived.BigQuiet
import Derived.Deep.QuietTactic
import Derived.IntWalk
import Derived.Outline
namespace Go.Proofs.YtdbaacalfbbdiaaGreatDoor.Gr
open Go.RowKit
set_option linter.unusedVariables false

theorem RowsTo.congr {w : World} {base g : Nat} {r : Nat → Nat} {n k : Nat} {f f' : Nat → Nat → Int} (h : RowsTo w base g r n k f) (e : ∀ i j, i < k → j < n → f i j = f' i j) : RowsTo w base g r n k f' :=
  ⟨h.top, fun i hi => (h.row i hi).congr fun j hj => by rw [e i j hi hj], h.inj, h.far, h.lo, h.los⟩
theorem RowsTo.set {w : World} {base g : Nat} {r : Nat → Nat} {n k : Nat} {f : Nat → Nat → Int} (h : RowsTo w base g r n k f) {a b : Nat} (ha : a < k) (v : Int) : RowsTo (w.setCell ⟨r a, b, none⟩ (.int .u64 v)) base g r n k (upd f a b v) := by
  refine ⟨h.top.setOther (Ne.symm (h.far a ha)) _, fun i hi => ?_, h.inj, h.far, h.lo, h.los⟩
  by_cases e : i = a
  · subst e
    refine ((h.row i hi).set b (.int .u64 v)).congr fun j hj => ?_
    unfold upd
    by_cases ej : j = b
    · rw [if_pos ej, if_pos ⟨rfl, ej⟩]
    · rw [if_neg ej, if_neg (fun h => ej h.2)]
  · refine ((h.row i hi).setOther (fun er => e (h.inj i a hi ha er)) _).congr fun j hj => ?_
    unfold upd
    rw [if_neg (fun h => e h.1)]
/-- Row k filled up to m. -/
def pf (k m i j : Nat) : Int := if i = k ∧ ¬ j < m then 0 else diag i j
theorem pf_lt {k m i j : Nat} (h : i < k) : pf k m i j = diag i j := if_neg (fun e => by omega)
theorem pf_full {k m i j : Nat} (h : j < m) : pf k m i j = diag i j := if_neg (fun e => e.2 h)
theorem pf_zero {k j : Nat} : pf k 0 k j = 0 := if_pos ⟨rfl, by omega⟩
theorem pf_far {k m : Nat} (h : k ≠ m) (i j : Nat) : upd (pf k m) k m 18446744073709551615 i j = pf k (m + 1) i j := by
  by_cases e : i = k ∧ j = m
  · obtain ⟨rfl, rfl⟩ := e
    rw [upd_same, pf_full (by omega)]
    exact (if_neg h).symm
  · rw [upd_other e]
    unfold pf
    by_cases e2 : i = k
    · have : j ≠ m := fun h => e ⟨e2, h⟩
      by_cases e3 : j < m
      · rw [if_neg (fun h => h.2 e3), if_neg (fun h => h.2 (by omega))]
      · rw [if_pos ⟨e2, e3⟩, if_pos ⟨e2, by omega⟩]
    · rw [if_neg (fun h => e2 h.1), if_neg (fun h => e2 h.1)]
theorem pf_near {k : Nat} (i j : Nat) : upd (upd (pf k k) k k 18446744073709551615) k k 0 i j = pf k (k + 1) i j := by
  by_cases e : i = k ∧ j = k
  · obtain ⟨rfl, rfl⟩ := e
    rw [upd_same, pf_full (by omega)]
    exact (if_pos rfl).symm
  · rw [upd_other e, upd_other e]
    unfold pf
    by_cases e2 : i = k
    · have : j ≠ k := fun h => e ⟨e2, h⟩
      by_cases e3 : j < k
      · rw [if_neg (fun h => h.2 e3), if_neg (fun h => h.2 (by omega))]
      · rw [if_pos ⟨e2, e3⟩, if_pos ⟨e2, by omega⟩]
    · rw [if_neg (fun h => e2 h.1), if_neg (fun h => e2 h.1)]
theorem refplus_still (a b : Int) (ha : 0 ≤ a ∧ a ≤ 18446744073709551615) (hb : 0 ≤ b ∧ b ≤ 18446744073709551615) (w : World) :
    Calls Tryz.prog 90 #[.int .u64 a, .int .u64 b] w fun e w'' => e = .returned (.int .u64 (plusN a b)) ∧ w'' = w :=
  (Stamp.refPlus_any a b ha hb w).mono fun e w' ⟨he, hw⟩ => ⟨he, hw.symm⟩

set_option maxRecDepth 1000000 in
set_option maxHeartbeats 16000000 in
theorem closed_any {w : World} {ve vi : Value} {E : List Ed} {n : Nat} (hv : Rd w ve E) (hE : Fits E n) (h0 : 1 ≤ n) (h1 : n ≤ 64) (hl : E.length ≤ 100000) :
    Calls Tryz.prog 70 #[.agg #[.int .i64 (n : Int), ve, vi]] w fun e w' => ∃ (v : Value) (M : Nat → Nat → Int), e = .returned v ∧ Mat w' w.heap.size v n M ∧ LeastM E true n M ∧ Below w.heap.size w w' := by
  have hmk := run_make_row' 125 127 (.slice none 0 0) 24 Tryz.underlying125 infoRow rfl .i64 .i64 n (by omega) (by omega)
  have hmk2 := run_make_row' 127 22 (.int .u64 0) 8 Tryz.underlying127 infoU rfl .i64 .i64 n (by omega) (by omega)
  have HE := Lib.hid hE
  obtain ⟨ao, cap, rfl, hlc, hcm, hwf, hcell⟩ := hv
  have HC := Lib.hid hcell
  have HWF := Lib.hid hwf
  have hlen : E.length ≤ 9223372036854775807 := by omega
  have hn1 : (1 : Int) ≤ (n : Int) := by omega
  have hn2 : (n : Int) ≤ 64 := by omega
  have hnb : n ≤ 9223372036854775807 := by omega
  clear hcell hwf hlc hcm
  obtain ⟨w1, hw1⟩ : ∃ w1, w1 = w.alloc (.cells #[.int .i64 (n : Int), .slice ao E.length cap, vi] 44) := ⟨_, rfl⟩
  have hsz : w1.heap.size = w.heap.size + 1 := by rw [hw1]; simp
  have HB0 := Lib.hid (show Below w.heap.size w w1 by rw [hw1]; exact (Below.refl _ _).alloc (Nat.le_refl _) _)
  have b0 : w1.cell? ⟨w.heap.size, 0, none⟩ = some (.int .i64 (n : Int)) := by rw [hw1]; simp
  have b1 : w1.cell? ⟨w.heap.size, 1, none⟩ = some (.slice ao E.length cap) := by rw [hw1]; simp
  have HBX := Lib.hid (show ∀ wr, Below (w.heap.size + 1) w1 wr → wr.cell? ⟨w.heap.size, 0, none⟩ = some (.int .i64 (n : Int)) ∧ wr.cell? ⟨w.heap.size, 1, none⟩ = some (.slice ao E.length cap) from fun wr h => ⟨(h.cell (p := ⟨w.heap.size, 0, none⟩) (Nat.lt_succ_self _)).trans b0, (h.cell (p := ⟨w.heap.size, 1, none⟩) (Nat.lt_succ_self _)).trans b1⟩)
  have HSZ := Lib.hid hsz
  have HW1 := Lib.hid hw1
  clear b0 b1 hsz hw1
  go_enter Tryz.func70, Tryz.ntmps70
  go_wp2_with fail
  obtain ⟨w2, hw2⟩ : ∃ w2, w2 = w1.alloc (.cells (madeCells #[.slice none 0 0] n) 127) := ⟨_, rfl⟩
  have HB2 := Lib.hid (show Below (w.heap.size + 1) w1 w2 by rw [hw2]; exact (Below.refl _ _).alloc (Nat.le_of_eq HSZ.out.symm) _)
  have HR0 := Lib.hid (show RowsTo w2 (w.heap.size + 1) (w.heap.size + 1) (fun _ => 0) n 0 diag by
    have h := World.rowIs_made w1 (.slice none 0 0) n 127
    rw [← hw2, HSZ.out] at h
    exact RowsTo.start h (Nat.le_refl _))
  rw [HW1.out] at hw2
  go_loopg [4] n (fun m t wr => ∃ (k : Nat) (r : Nat → Nat), k + m = n ∧ t = .int .i64 (k : Int) ∧ RowsTo wr (w.heap.size + 1) (w.heap.size + 1) r n k diag ∧ Below (w.heap.size + 1) w1 wr)
  case atStart => exact ⟨0, fun _ => 0, by omega, rfl, by rw [← hw2]; exact HR0.out, by rw [← hw2]; exact HB2.out⟩
  case round =>
    obtain ⟨k, r, hkm, rfl, hrows, hbw⟩ := hrel
    have HKM := Lib.hid hkm
    have HR := Lib.hid hrows
    have HBW := Lib.hid hbw
    obtain ⟨b0, b1⟩ := HBX.out wr hbw
    have hbs : w.heap.size + 1 ≤ wr.heap.size := by have := hrows.top.lt; omega
    have hblt : w.heap.size < wr.heap.size := hbs
    have hglt : w.heap.size + 1 < wr.heap.size := hrows.top.lt
    clear hrows hbw hkm hw2 HR0 HB2
    by_cases hk : k < n
    · have hk0 : (0 : Int) ≤ (k : Int) := Int.natCast_nonneg _
      have hk1 : (k : Int) < (n : Int) := by omega
      have HK := Lib.hid hk
      have g0 := HR.out.top.cell hk
      have gf := HR.out.top.frozen k
      rw [if_neg (Nat.lt_irrefl k)] at g0
      have HA := Lib.hid (show Below wr.heap.size wr (wr.alloc (.cells (madeCells #[.int .u64 0] n) 22)) from (Below.refl _ _).alloc (Nat.le_refl _) _)
      have HNEW := Lib.hid ((HR.out.congr (fun i j hi hj => (pf_lt (m := 0) hi).symm)).step HA.out (Nat.le_refl _) ((World.rowIs_made wr (.int .u64 0) n 22).congr (fun j hj => by rw [pf_zero])) hbs)
      have HB3 := Lib.hid ((HBW.out.trans (HA.out.mono hbs)).setCell (p := ⟨w.heap.size + 1, k, none⟩) (Nat.le_refl _) (.slice (some ⟨wr.heap.size, 0, none⟩) n n))
      rw [World.setCell_alloc_past _ _ _ _ hglt] at HNEW HB3
      replace HNEW : ∃ r2, Hid (RowsTo ((wr.setCell ⟨w.heap.size + 1, k, none⟩ (.slice (some ⟨wr.heap.size, 0, none⟩) n n)).alloc (.cells (madeCells #[.int .u64 0] n) 22)) (w.heap.size + 1) (w.heap.size + 1) r2 n (k + 1) (pf k 0)) := ⟨_, HNEW⟩
      obtain ⟨r2, HNEW⟩ := HNEW
      clear hk HA HR
      go_wp2_with fail
      clear g0 gf b0 b1
      obtain ⟨wo, rfl⟩ : ∃ wo : World, wo = wr := ⟨_, rfl⟩
      go_loopg [5] n (fun m t wr => ∃ (j : Nat), j + m = n ∧ t = .int .i64 (j : Int) ∧ RowsTo wr (w.heap.size + 1) (w.heap.size + 1) r2 n (k + 1) (pf k j) ∧ Below (w.heap.size + 1) w1 wr)
      case atStart => exact ⟨0, by omega, rfl, HNEW.out, HB3.out⟩
      case round =>
        obtain ⟨j, hjm, rfl, hrows, hbw2⟩ := hrel
        have HJM := Lib.hid hjm
        have HR := Lib.hid hrows
        have HBW2 := Lib.hid hbw2
        obtain ⟨b0, b1⟩ := HBX.out wr hbw2
        have hbs2 : w.heap.size + 1 ≤ wr.heap.size := by have := hrows.top.lt; omega
        have hblt2 : w.heap.size < wr.heap.size := hbs2
        have hglt2 : w.heap.size + 1 < wr.heap.size := hrows.top.lt
        clear hrows hbw2 hjm HNEW HB3
        by_cases hj : j < n
        · have hj0 : (0 : Int) ≤ (j : Int) := Int.natCast_nonneg _
          have hj1 : (j : Int) < (n : Int) := by omega
          have HJ := Lib.hid hj
          have g0 := HR.out.top.cell HK.out
          rw [if_pos (Nat.lt_succ_self k)] at g0
          have r0 := (HR.out.row k (Nat.lt_succ_self k)).cell hj
          have rf := (HR.out.row k (Nat.lt_succ_self k)).frozen j
          have rb := HR.out.los k (Nat.lt_succ_self k)
          have hS1 := HR.out.set (b := j) (Nat.lt_succ_self k) 18446744073709551615
          have hB1 := HBW2.out.setCell (p := ⟨r2 k, j, none⟩) rb (.int .u64 18446744073709551615)
          obtain ⟨v0, hv0⟩ : ∃ v, v = pf k j k j := ⟨_, rfl⟩
          rw [← hv0] at r0
          clear hv0 hj
          have hgr : r2 k ≠ w.heap.size + 1 := HR.out.far k (Nat.lt_succ_self k)
          have hgb : r2 k ≠ w.heap.size := by omega
          by_cases hkj : k = j
          · have hS2 := hS1.set (b := j) (Nat.lt_succ_self k) 0
            have hB2 := hB1.setCell (p := ⟨r2 k, j, none⟩) rb (.int .u64 0)
            have hkb : ((k : Int) == (j : Int)) = true := by rw [hkj]; simp
            have HN := Lib.hid (hS2.congr (f' := pf k (j + 1)) (fun a b _ _ => by subst hkj; exact pf_near a b))
            have HB4 := Lib.hid hB2
            clear hS1 hS2 hB1 hB2 hkj
            go_wp2_with fail
            go_roundg (n - (j + 1))
            case measure => have := HJM.out; have := HJ.out; omega
            case rel => exact ⟨j + 1, by have := HJM.out; have := HJ.out; omega, by go_num, HN.out, HB4.out⟩
          · have hkb : ((k : Int) == (j : Int)) = false := by rw [beq_eq_false_iff_ne]; omega
            have HN := Lib.hid (hS1.congr (f' := pf k (j + 1)) (fun a b _ _ => pf_far hkj a b))
            have HB4 := Lib.hid hB1
            clear hS1 hB1 hkj
            go_wp2_with fail
            go_roundg (n - (j + 1))
            case measure => have := HJM.out; have := HJ.out; omega
            case rel => exact ⟨j + 1, by have := HJM.out; have := HJ.out; omega, by go_num, HN.out, HB4.out⟩
        · have HN := Lib.hid (HR.out.congr (f' := diag) (fun a b _ hb => pf_full (by omega)))
          go_wp2_with fail
          go_roundg (n - (k + 1))
          case measure => have := HKM.out; have := HK.out; omega
          case rel => exact ⟨k + 1, _, by have := HKM.out; have := HK.out; omega, by go_num, HN.out, HBW2.out⟩
    · obtain rfl : n = k := by have := HKM.out; omega
      have HM := Lib.hid HR.out.done
      have HP := Lib.hid (Rd1.start E n)
      clear HR HKM
      go_wp2_with fail
      obtain ⟨wo, rfl⟩ : ∃ wo : World, wo = wr := ⟨_, rfl⟩
      clear b0 b1
      go_loopg [6] n (fun m t wr => ∃ (q : Nat) (M : Nat → Nat → Int), q + m = n ∧ t = .int .i64 (q : Int) ∧ Rd1 E n q 0 0 M ∧ MatF wr (w.heap.size + 1) (w.heap.size + 1) r n M ∧ Below (w.heap.size + 1) w1 wr)
      case atStart => exact ⟨0, _, by omega, rfl, HP.out, HM.out, HBW.out⟩
      case round =>
        clear HP HM HBW
        obtain ⟨q, M, hqm, rfl, hph, hmat, hbw3⟩ := hrel
        have HQM := Lib.hid hqm
        have HPH := Lib.hid hph
        have HMAT := Lib.hid hmat
        have HBW3 := Lib.hid hbw3
        obtain ⟨b0, b1⟩ := HBX.out wr hbw3
        clear hph hmat hbw3 hqm
        by_cases hq : q < n
        · have HQN := Lib.hid hq
          have hqi0 : (0 : Int) ≤ (q : Int) := Int.natCast_nonneg _
          have hqi1 : (q : Int) < (n : Int) := by omega
          clear hq
          go_wp2_with fail
          obtain ⟨wo3, rfl⟩ : ∃ wo3 : World, wo3 = wr := ⟨_, rfl⟩
          clear b0 b1
          go_loopg [7] n (fun m t wr => ∃ (x : Nat) (M : Nat → Nat → Int), x + m = n ∧ t = .int .i64 (x : Int) ∧ Rd1 E n q x 0 M ∧ MatF wr (w.heap.size + 1) (w.heap.size + 1) r n M ∧ Below (w.heap.size + 1) w1 wr)
          case atStart => exact ⟨0, _, by omega, rfl, HPH.out, HMAT.out, HBW3.out⟩
          case round =>
            clear HPH HMAT HBW3
            obtain ⟨x, M, hxm, rfl, hph, hmat, hbw4⟩ := hrel
            have HXM := Lib.hid hxm
            have HPH := Lib.hid hph
            have HMAT := Lib.hid hmat
            have HBW4 := Lib.hid hbw4
            obtain ⟨b0, b1⟩ := HBX.out wr hbw4
            clear hph hmat hbw4 hxm
            by_cases hx : x < n
            · have HXN := Lib.hid hx
              have hxi0 : (0 : Int) ≤ (x : Int) := Int.natCast_nonneg _
              have hxi1 : (x : Int) < (n : Int) := by omega
              clear hx
              go_wp2_with fail
              obtain ⟨wo4, rfl⟩ : ∃ wo4 : World, wo4 = wr := ⟨_, rfl⟩
              clear b0 b1
              go_loopg [8] E.length (fun m t wr => ∃ (y : Nat) (M : Nat → Nat → Int), y + m = E.length ∧ t = .int .i64 (y : Int) ∧ Rd1 E n q x y M ∧ MatF wr (w.heap.size + 1) (w.heap.size + 1) r n M ∧ Below (w.heap.size + 1) w1 wr)
              case atStart => exact ⟨0, _, by omega, rfl, HPH.out, HMAT.out, HBW4.out⟩
              case round =>
                clear HPH HMAT HBW4
                obtain ⟨y, M, hym, rfl, hph, hmat, hbw5⟩ := hrel
                have HYM := Lib.hid hym
                have HPH := Lib.hid hph
                have HMAT := Lib.hid hmat
                have HBW5 := Lib.hid hbw5
                obtain ⟨b0, b1⟩ := HBX.out wr hbw5
                have hbs5 : w.heap.size + 1 ≤ wr.heap.size := by have := hmat.top.lt; omega
                have hblt5 : w.heap.size < wr.heap.size := hbs5
                have hglt5 : w.heap.size + 1 < wr.heap.size := hmat.top.lt
                clear hph hmat hbw5 hym
                by_cases hy : y < E.length
                · obtain ⟨e0, hx0, hxm0⟩ := at_of hy
                  have hfit := HE.out e0 hxm0
                  obtain ⟨b, off, hao, hcc⟩ := HC.out.resolve_left (by intro e; rw [e] at hy; simp at hy)
                  subst hao
                  have q1 := (hcc y e0 hx0).below HB0.out (hcc y e0 hx0).lt
                  have q2 := q1.below HBW5.out (by have := (hcc y e0 hx0).lt; omega)
                  have hbl := (hcc y e0 hx0).lt
                  obtain ⟨c0, c1, c2⟩ := q2
                  have hblw : b < wr.heap.size := by omega
                  obtain ⟨f, hf⟩ : ∃ f : Nat, e0.f = f := ⟨e0.f.toNat, by omega⟩
                  obtain ⟨t, ht⟩ : ∃ t : Nat, e0.t = t := ⟨e0.t.toNat, by omega⟩
                  have hfn : f < n := by omega
                  have htn : t < n := by omega
                  have HST := Lib.hid (fun hlt => HPH.out.step HE.out HXN.out hx0 hf ht hlt)
                  have HSK := Lib.hid (fun hlt => HPH.out.skip HE.out HXN.out hx0 hf ht hlt)
                  have ha0 : 0 ≤ e0.a := hfit.2.2.2.2.1
                  have ha1 : e0.a ≤ 18446744073709551615 := hfit.2.2.2.2.2
                  obtain ⟨xf, xt, xa⟩ := e0
                  simp only at c0 c1 c2 hf ht ha0 ha1 HST HSK
                  subst hf ht
                  have hk20 : (0 : Int) ≤ (y : Int) := Int.natCast_nonneg _
                  have hk21 : (y : Int) < (E.length : Int) := by omega
                  have hf0 : (0 : Int) ≤ (f : Int) := Int.natCast_nonneg _
                  have hf1 : (f : Int) < (n : Int) := by omega
                  have ht0 : (0 : Int) ≤ (t : Int) := Int.natCast_nonneg _
                  have ht1 : (t : Int) < (n : Int) := by omega
                  have g0 := HMAT.out.top.cell HXN.out
                  have r0 := (HMAT.out.row x HXN.out).cell hfn
                  have r1 := (HMAT.out.row x HXN.out).cell htn
                  have rf := (HMAT.out.row x HXN.out).frozen t
                  have rl := (HMAT.out.row x HXN.out).lt
                  have rb := HMAT.out.los x HXN.out
                  have HU1 := Lib.hid (HPH.out.1.bd HXN.out hfn)
                  have HU2 := Lib.hid (show 0 ≤ xa ∧ xa ≤ 18446744073709551615 from ⟨ha0, ha1⟩)
                  have HYN := Lib.hid hy
                  have HAL := Lib.hid (fun (W : World) => show Below W.heap.size W ((W.alloc (.cells #[.int .i64 (f : Int), .int .i64 (t : Int), .int .u64 xa] 96))) from ((Below.refl _ _).alloc (Nat.le_refl _) _))
                  have HSET := Lib.hid (fun (W : World) (h : Below wr.heap.size wr W) => (HMAT.out.below h).set HXN.out htn (plusN (M x f) xa))
                  have HB6 := Lib.hid (fun (W : World) (h : Below wr.heap.size wr W) => (HBW5.out.trans (h.mono hbs5)).setCell (p := ⟨r x, t, none⟩) rb (.int .u64 (plusN (M x f) xa)))
                  obtain ⟨m1, hm1⟩ : ∃ m, m = M x f := ⟨_, rfl⟩
                  obtain ⟨m2, hm2⟩ : ∃ m, m = M x t := ⟨_, rfl⟩
                  rw [← hm1] at r0 HST HSK HSET HB6 HU1
                  rw [← hm2] at r1 HST HSK
                  obtain ⟨ps, hps⟩ : ∃ ps, ps = plusN m1 xa := ⟨_, rfl⟩
                  have HPS := Lib.hid (fun W => refplus_still m1 xa HU1.out HU2.out W)
                  rw [← hps] at HST HSK HSET HB6 HPS
                  clear hm1 hm2 hps hx0 hxm0 hfit hcc q1 hbl hfn htn hy
                  by_cases hlt : ps < m2
                  · have HN := Lib.hid (HST.out hlt)
                    clear HST HSK
                    go_wp2_with fail
                    go_quiet ((go_at_call 90; exact Calls.quiet_of_same (HPS.out _)))
                    go_wp2_with fail
                    go_quiet (fail)
                    go_wp2_with fail
                    go_region
                    go_wp2
                    go_roundg (gk - 1)
                    case measure => have := HYM.out; have := HYN.out; omega
                    case rel => exact ⟨y + 1, _, by have := HYM.out; have := HYN.out; omega, by go_num, HN.out, HSET.out _ (below_drewN (HAL.out _) _), HB6.out _ (below_drewN (HAL.out _) _)⟩
                  · have HN := Lib.hid (HSK.out hlt)
                    clear HST HSK
                    go_wp2_with fail
                    go_quiet ((go_at_call 90; exact Calls.quiet_of_same (HPS.out _)))
                    go_wp2_with fail
                    go_quiet (fail)
                    go_wp2_with fail
                    go_roundg (gk - 1)
                    case measure => have := HYM.out; have := HYN.out; omega
                    case rel => exact ⟨y + 1, _, by have := HYM.out; have := HYN.out; omega, by go_num, HN.out, HMAT.out.below (below_drewN (HAL.out _) _), below_drewN (HBW5.out.trans ((HAL.out _).mono hbs5)) _⟩
                · have HN := Lib.hid (HPH.out.row (by omega) HXN.out)
                  go_wp2_with fail
                  go_roundg (n - (x + 1))
                  case measure => have := HXM.out; have := HXN.out; omega
                  case rel => exact ⟨x + 1, _, by have := HXM.out; have := HXN.out; omega, by go_num, HN.out, HMAT.out, HBW5.out⟩
            · have HN := Lib.hid (HPH.out.next (by omega))
              go_wp2_with fail
              go_roundg (n - (q + 1))
              case measure => have := HQM.out; have := HQN.out; omega
              case rel => exact ⟨q + 1, _, by have := HQM.out; have := HQN.out; omega, by go_num, HN.out, HMAT.out, HBW4.out⟩
        · have HN := Lib.hid (HPH.out.done HE.out (by have := HQM.out; omega))
          go_wp2_with fail
          go_ret
          exact ⟨_, M, rfl, ⟨_, r, rfl, HMAT.out.base (Nat.le_succ _)⟩, HN.out, HB0.out.trans (HBW3.out.mono (Nat.le_succ _))⟩
end Go.Proofs.YtdbaacalfbbdiaaGreatDoor.Gr
