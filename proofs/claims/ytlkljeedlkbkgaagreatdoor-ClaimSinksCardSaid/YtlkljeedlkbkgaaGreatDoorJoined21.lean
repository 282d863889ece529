/-
  YtlkljeedlkbkgaaGreatDoorFrOf
  YtlkljeedlkbkgaaGreatDoorFrRef
  YtlkljeedlkbkgaaGreatDoorFrReach
  YtlkljeedlkbkgaaGreatDoorBatchRefRight
  YtlkljeedlkbkgaaGreatDoorBatchTold
  YtlkljeedlkbkgaaGreatDoorBagTold
  YtlkljeedlkbkgaaGreatDoorFrTold
  YtlkljeedlkbkgaaGreatDoorFrLaw
  YtlkljeedlkbkgaaGreatDoorClLetsM
  YtlkljeedlkbkgaaGreatDoorClActsM
-/
import Derived.Test.YtlkljeedlkbkgaaGreatDoorJoined8
import Derived.Test.YtlkljeedlkbkgaaGreatDoorJoined9
import Derived.Test.YtlkljeedlkbkgaaGreatDoorJoined18
import Derived.Test.YtlkljeedlkbkgaaGreatDoorGClosed
import Derived.Test.YtlkljeedlkbkgaaGreatDoorGTo
import Derived.Deep.QuietTactic
import Derived.BigQuiet
import Derived.Test.YtlkljeedlkbkgaaGreatDoorGPaths
import Derived.Test.YtlkljeedlkbkgaaGreatDoorJoined14
import Derived.Test.YtlkljeedlkbkgaaGreatDoorJoined6
import Derived.StillTailTactics
import Derived.Test.YtlkljeedlkbkgaaGreatDoorBatchRefSums
import Derived.Test.YtlkljeedlkbkgaaGreatDoorJoined7
import Derived.Test.YtlkljeedlkbkgaaGreatDoorGFix
import Derived.Test.YtlkljeedlkbkgaaGreatDoorBagFix
import Derived.Test.YtlkljeedlkbkgaaGreatDoorClTo
import Derived.Test.YtlkljeedlkbkgaaGreatDoorClTold
import Derived.Test.YtlkljeedlkbkgaaGreatDoorJoined15
import Derived.Test.YtlkljeedlkbkgaaGreatDoorClDoM
import Derived.Test.YtlkljeedlkbkgaaGreatDoorClFix
namespace Go.Proofs.YtlkljeedlkbkgaaGreatDoor.Fr
open Go.RowKit Gr
set_option linter.unusedVariables false
set_option linter.unusedSimpArgs false
set_option maxRecDepth 1000000 in
set_option maxHeartbeats 16000000 in
theorem of_any {w : World} {vp vb : Value} {n base : Nat} {M : Nat → Nat → Int} {B : List Batch.Ch} (hp : Mat w base vp n M) (hm : ∀ i j, i < n → j < n → 0 ≤ M i j ∧ M i j ≤ 18446744073709551615) (hb : Batch.Sl w vb B) (hr : B.Pairwise Batch.Lt) (hl : B.length ≤ 100000) (h0 : 1 ≤ n) (h1 : n ≤ 64) :
    Calls Tryz.prog 16 #[vp, vb] w fun e w' => ∃ (g : Nat) (F : Nat → Int), e = .returned (.slice (some ⟨g, 0, none⟩) n n) ∧ w.heap.size ≤ g ∧ w'.rowIs g 36 n (fun p => .int .u64 (F p)) ∧ (∀ p, p < n → FrontU B M n p (F p)) ∧ Below w.heap.size w w' := by
  obtain ⟨gm, r, rfl, hmat⟩ := hp
  have HMAT := Lib.hid hmat
  have HM := Lib.hid hm
  have HSB := Lib.hid hb
  have HR := Lib.hid hr
  have HBL := Lib.hid hl
  have HWT := Lib.hid (show ∀ x ∈ B, 0 ≤ x.t ∧ x.t ≤ 18446744073709551615 from fun x hx => ⟨(hb.wf x hx).t0, (hb.wf x hx).t1⟩)
  have hn1 : (1 : Int) ≤ (n : Int) := by omega
  have hn2 : (n : Int) ≤ 64 := by omega
  have hlt : Batch.leastL B 0 = Batch.leastL B 0 := rfl
  clear hmat hm hb hr hl hlt
  go_enter Tryz.func16, Tryz.ntmps16
  go_wp2_with fail
  go_at_call 50
  refine (repeat_any w.heap.size 18446744073709551615 n h0 h1 (by simp)).mono ?_
  rintro e w2 ⟨b, rfl, hbb, hrow, hbw⟩
  have hsz : (w.alloc (.cells #[.int .u64 18446744073709551615] 36)).heap.size = w.heap.size + 1 := by simp
  rw [hsz] at hbb hbw
  have HROW := Lib.hid hrow
  have HB0 := Lib.hid (((Below.refl w.heap.size w).alloc (Nat.le_refl _) (.cells #[.int .u64 18446744073709551615] 36)).trans (hbw.mono (Nat.le_succ _)))
  have HBB := Lib.hid (show w.heap.size ≤ b by omega)
  clear hrow hbw hbb hsz
  go_wp2_with fail
  go_loopg [16] n (fun m t wr => ∃ (f : Nat) (F : Nat → Int), f + m = n ∧ t = .int .i64 (f : Int) ∧ wr.rowIs b 36 n (fun p => .int .u64 (F p)) ∧ (∀ p, p < n → FrontU B M f p (F p)) ∧ Below w.heap.size w wr)
  case atStart => exact ⟨0, fun _ => 18446744073709551615, by omega, rfl, HROW.out, fun p _ => FrontU.start B M p, HB0.out⟩
  case round =>
    clear HROW HB0
    obtain ⟨f, F, hfm, rfl, hrow, hfr, hbw⟩ := hrel
    have HFM := Lib.hid hfm
    have HROW := Lib.hid hrow
    have HFR := Lib.hid hfr
    have HBW := Lib.hid hbw
    clear hfm hrow hfr hbw
    by_cases hf : f < n
    · have hf0 : (0 : Int) ≤ (f : Int) := Int.natCast_nonneg _
      have hf1 : (f : Int) < (n : Int) := by omega
      have HF := Lib.hid hf
      have g0 := (HMAT.out.below HBW.out).top.cell hf
      clear hf
      go_wp2_with fail
      go_at_call 51
      refine (Batch.least_any (f : Int) (HSB.out.below HBW.out) HR.out HBL.out).mono ?_
      rintro e w3 ⟨rfl, hb3⟩
      have HROW3 := Lib.hid (HROW.out.of_block (hb3.block _ HROW.out.lt))
      have HBW3 := Lib.hid (HBW.out.trans (hb3.mono HBW.out.size))
      have HLB := Lib.hid (show 0 ≤ Batch.leastL B f ∧ Batch.leastL B f ≤ 18446744073709551615 from ⟨by
        rcases Batch.leastL_is (l := B) (p := (f : Int)) with e | ⟨x, hx, _, e⟩
        · omega
        · have := HWT.out x hx; omega, Batch.leastL_le⟩)
      obtain ⟨lb, hlb⟩ : ∃ q, q = Batch.leastL B f := ⟨_, rfl⟩
      have HLE := Lib.hid hlb
      rw [← hlb] at HLB
      rw [← hlb]
      clear hb3 HROW HBW g0 hlb
      have hmin : ∀ (ts : Array TypeId) (t : TypeId) (W : World), (Builtin.min_ ts t #[.int .i64 (n : Int), .int .i64 (n : Int)]).run Tryz.prog W = .ok (.int .i64 (n : Int)) W := fun ts t W => by rw [run_min_int2 W ts t .i64 .i64 _ _, if_neg (by omega)]
      go_wp2_with fail
      go_loopg [29] n (fun m2 t wq => ∃ (y : Nat) (F2 : Nat → Int), y + m2 = n ∧ t = .int .i64 (y : Int) ∧ wq.rowIs b 36 n (fun p => .int .u64 (F2 p)) ∧ (∀ p, p < n → p < y → FrontU B M (f + 1) p (F2 p)) ∧ (∀ p, p < n → y ≤ p → FrontU B M f p (F2 p)) ∧ Below w.heap.size w wq)
      case atStart => exact ⟨0, F, by omega, rfl, HROW3.out, fun p _ h => by omega, fun p hp _ => HFR.out p hp, HBW3.out⟩
      case round =>
        clear HROW3 HBW3 HFR
        obtain ⟨y, F2, hym, rfl, hrow, hdone, hrest, hbw⟩ := hrel
        have HYM := Lib.hid hym
        have HROW := Lib.hid hrow
        have HDN := Lib.hid hdone
        have HRS := Lib.hid hrest
        have HBW := Lib.hid hbw
        clear hym hrow hdone hrest hbw
        by_cases hy : y < n
        · have hy0 : (0 : Int) ≤ (y : Int) := Int.natCast_nonneg _
          have hy1 : (y : Int) < (n : Int) := by omega
          have HY := Lib.hid hy
          have rc := HROW.out.cell hy
          have rf := HROW.out.frozen y
          have mc := ((HMAT.out.below HBW.out).row f HF.out).cell hy
          have HU2 := Lib.hid (HM.out f y HF.out hy)
          have HST := Lib.hid (FrontU.port HWT.out HU2.out.1 HU2.out.2 (HRS.out y hy (Nat.le_refl _)))
          have HSET := Lib.hid (HROW.out.set y (.int .u64 (min (F2 y) (plusN lb (M f y)))))
          have HB6 := Lib.hid (HBW.out.setCell (p := ⟨b, y, none⟩) HBB.out (.int .u64 (min (F2 y) (plusN lb (M f y)))))
          rw [← HLE.out] at HST
          obtain ⟨m0, hm0⟩ : ∃ q, q = F2 y := ⟨_, rfl⟩
          obtain ⟨m2, hm2⟩ : ∃ q, q = M f y := ⟨_, rfl⟩
          rw [← hm0] at rc HST HSET HB6
          rw [← hm2] at mc HST HSET HB6 HU2
          obtain ⟨ps, hps⟩ : ∃ ps, ps = plusN lb m2 := ⟨_, rfl⟩
          have HPS := Lib.hid (fun W => plus_still lb m2 HLB.out HU2.out W)
          rw [← hps] at HST HSET HB6 HPS
          clear hm0 hm2 hps hy
          go_wp2_with fail
          go_still_tail 14, (by kernel_rfl)
          still_call (HPS.out _)
          repeat still_step
          refine wpStill_nil ?_
          go_wp2_with fail
          go_roundg (n - (y + 1))
          case measure => have := HYM.out; have := HY.out; omega
          case rel =>
            refine ⟨y + 1, fun p => if p = y then min m0 ps else F2 p, by have := HYM.out; have := HY.out; omega, by go_num, ?_, fun p hp hpy => ?_, fun p hp hpy => ?_, HB6.out.drew⟩
            · refine (HSET.out.of_block rfl).congr fun p hp => ?_
              by_cases e : p = y
              · simp [e]
              · simp [e]
            · show FrontU B M (f + 1) p (if p = y then min m0 ps else F2 p)
              by_cases e : p = y
              · subst e; rw [if_pos rfl]; exact HST.out
              · rw [if_neg e]; exact HDN.out p hp (by omega)
            · show FrontU B M f p (if p = y then min m0 ps else F2 p)
              rw [if_neg (by omega)]; exact HRS.out p hp (by omega)
        · go_wp2_with fail
          go_roundg (n - (f + 1))
          case measure => have := HFM.out; have := HF.out; omega
          case rel => exact ⟨f + 1, F2, by have := HFM.out; have := HF.out; omega, by go_num, HROW.out, fun p hp => HDN.out p hp (by omega), HBW.out⟩
    · obtain rfl : n = f := by have := HFM.out; omega
      go_wp2_with fail
      go_ret
      exact ⟨b, F, rfl, HBB.out, HROW.out, HFR.out, HBW.out⟩
end Go.Proofs.YtlkljeedlkbkgaaGreatDoor.Fr
namespace Go.Proofs.YtlkljeedlkbkgaaGreatDoor.Fr
open Go.RowKit Go.Deep Gr
set_option linter.unusedVariables false
set_option linter.unusedSimpArgs false
end Go.Proofs.YtlkljeedlkbkgaaGreatDoor.Fr
namespace Go.Proofs.YtlkljeedlkbkgaaGreatDoor.Fr
open Go.RowKit Go.Deep Gr
set_option linter.unusedVariables false
set_option linter.unusedSimpArgs false
end Go.Proofs.YtlkljeedlkbkgaaGreatDoor.Fr
namespace Go.Proofs.YtlkljeedlkbkgaaGreatDoor.Batch
open Go.RowKit
set_option linter.unusedVariables false
end Go.Proofs.YtlkljeedlkbkgaaGreatDoor.Batch
namespace Go.Proofs.YtlkljeedlkbkgaaGreatDoor.Batch
open Go.RowKit
set_option linter.unusedVariables false
def T2 : List Ch := [⟨64, 0, 0⟩]
end Go.Proofs.YtlkljeedlkbkgaaGreatDoor.Batch
namespace Go.Proofs.YtlkljeedlkbkgaaGreatDoor.Batch
open Go.RowKit
set_option linter.unusedVariables false
theorem one_right {x : Ch} (h : wrongN x = 0) (h0 : x.d ≠ 0) : RightP [x] := ⟨fun y hy => by simp at hy; subst hy; exact ⟨h, h0⟩, by simp⟩
end Go.Proofs.YtlkljeedlkbkgaaGreatDoor.Batch
namespace Go.Proofs.YtlkljeedlkbkgaaGreatDoor.Fr
open Go.RowKit Go.Deep Gr
set_option linter.unusedVariables false
set_option linter.unusedSimpArgs false
theorem m_bd {E : List Ed} {n : Nat} {M : Nat → Nat → Int} (h : LeastM E true n M) : ∀ i j, i < n → j < n → 0 ≤ M i j ∧ M i j ≤ 18446744073709551615 := fun i j hi hj => (h i j hi hj).1.1
end Go.Proofs.YtlkljeedlkbkgaaGreatDoor.Fr
namespace Go.Proofs.YtlkljeedlkbkgaaGreatDoor.Fr
open Go.RowKit Go.Deep Gr
set_option linter.unusedVariables false
theorem formE {w : World} {base : Nat} {T : TypeId} {v : Value} {l : List Ed} (h : Own w base T v l) : ∃ ao cap, v = .slice ao l.length cap := by
  rcases h.2 with ⟨h, h0⟩ | ⟨g, cap, cur, h, _⟩
  · exact ⟨none, 0, by rw [h, h0]⟩
  · exact ⟨_, _, h⟩
theorem inlenF {n : Nat} {E : List Ed} {I : List Int} (h : GOk n E I) : I.length ≤ 8 := by
  by_cases h8 : I.length ≤ 8
  · exact h8
  · have hc := h.chk
    unfold chkV at hc
    rw [if_neg (by have := h.n0; have := h.n1; omega), if_neg (by have := h.len; omega)] at hc
    by_cases he : (edgesV (n : Int) 0 E).2 ≠ 0
    · rw [if_pos he] at hc
      rw [hc] at he
      exact absurd rfl he
    · rw [if_neg he, if_pos (.inr (by omega))] at hc
      simp at hc
end Go.Proofs.YtlkljeedlkbkgaaGreatDoor.Fr
namespace Go.Proofs.YtlkljeedlkbkgaaGreatDoor.Cl
open Go.RowKit Gr
set_option linter.unusedVariables false
theorem bagFix_tot {l : List Batch.Ch} (h : ∀ x ∈ l, x.Wf) (p t : Int) : 0 ≤ Batch.tot (Batch.bagFixL l) p t ∧ Batch.tot (Batch.bagFixL l) p t ≤ 60 := by
  unfold Batch.bagFixL Batch.fixL Batch.sumsR
  split
  · exact ⟨Int.le_refl _, show (0 : Int) ≤ 60 by decide⟩
  · have hd : ∀ x ∈ (((l.take 12).map Batch.fixB).take 12).map Batch.fixC, 1 ≤ x.d ∧ x.d ≤ 5 := by
      intro x hx
      obtain ⟨y, hy, rfl⟩ := List.mem_map.1 hx
      obtain ⟨q, hq, rfl⟩ := List.mem_map.1 (List.mem_of_mem_take hy)
      have := Batch.fixB_d q
      unfold Batch.fixC
      simp only
      rw [Int.tmod_eq_emod_of_nonneg (by omega)]
      omega
    have hl : ((((l.take 12).map Batch.fixB).take 12).map Batch.fixC).length ≤ 12 := by simp; omega
    have hwf : ∀ x ∈ (((l.take 12).map Batch.fixB).take 12).map Batch.fixC, x.Wf := by
      intro x hx
      obtain ⟨y, hy, rfl⟩ := List.mem_map.1 hx
      exact Batch.fixC_wf (Batch.bagFix_wf h y (List.mem_of_mem_take hy))
    generalize (((l.take 12).map Batch.fixB).take 12).map Batch.fixC = L at hd hl hwf
    have h1 := Batch.tot_pos (fun x hx => by have := hd x hx; omega) p t (l := L)
    have h2 := Batch.tot_bound (B := 5) (fun x hx => by have := hd x hx; omega) (by decide) p t (l := L)
    rw [(Batch.sumL_is hwf).tot, Batch.wr_id (by omega) (by omega)]
    exact ⟨h1, by omega⟩
theorem fixBL_wf0 {B : List Batch.Ch} {m : Nat} (hm : 1 ≤ m ∧ m ≤ 64) (hB : ∀ x ∈ B, x.Wf) : ∀ x ∈ B.map (fixP m), x.Wf := fun x hx => by
  obtain ⟨y, hy, rfl⟩ := List.mem_map.1 hx
  exact fixP_wf hm (hB y hy)
theorem fixBL_nice {B : List Batch.Ch} {m : Nat} (hm : 1 ≤ m ∧ m ≤ 64) (hB : ∀ x ∈ B, x.Wf) : Batch.Nice (fixBL B m) := Batch.bagFix_nice (fixBL_wf0 hm hB)
theorem fixBL_tot {B : List Batch.Ch} {m : Nat} (hm : 1 ≤ m ∧ m ≤ 64) (hB : ∀ x ∈ B, x.Wf) (p t : Int) : 0 ≤ Batch.tot (fixBL B m) p t ∧ Batch.tot (fixBL B m) p t ≤ 60 := bagFix_tot (fixBL_wf0 hm hB) p t
theorem fixBL_hold {B : List Batch.Ch} {m : Nat} (hm : 1 ≤ m ∧ m ≤ 64) (hB : ∀ x ∈ B, x.Wf) : HoldP (fixBL B m) := by
  refine ⟨Batch.bagFix_bag (fixBL_wf0 hm hB), fun z hz => ?_⟩
  have e := Batch.tot_one (fixBL_nice hm hB).right.2 hz
  have := (fixBL_tot hm hB z.p z.t).2
  omega
end Go.Proofs.YtlkljeedlkbkgaaGreatDoor.Cl
namespace Go.Proofs.YtlkljeedlkbkgaaGreatDoor.Cl
open Go.RowKit Gr
set_option linter.unusedVariables false
theorem fixC_port {x : Batch.Ch} (h0 : 0 ≤ x.p) (h1 : x.p < 64) : (Batch.fixC x).p = x.p := by
  show IntKind.i64.wrap ((IntKind.u64.wrap x.p).tmod 64) = x.p
  have e : IntKind.u64.wrap x.p = x.p := by
    unfold IntKind.wrap
    simp [IntKind.bits, IntKind.signed]
    omega
  rw [e, Int.tmod_eq_emod_of_nonneg h0, IntKind.wrap_i64]
  omega
theorem fixBL_ports {B : List Batch.Ch} {m : Nat} (hm : 1 ≤ m ∧ m ≤ 64) (hB : ∀ x ∈ B, x.Wf) : ∀ z ∈ fixBL B m, z.p < m := by
  intro z hz
  have h := fixBL_wf0 hm hB
  unfold fixBL Batch.bagFixL Batch.fixL Batch.sumsR at hz
  split at hz
  · simp at hz
  · have hwf : ∀ x ∈ ((((B.map (fixP m)).take 12).map Batch.fixB).take 12).map Batch.fixC, x.Wf := by
      intro x hx
      obtain ⟨y, hy, rfl⟩ := List.mem_map.1 hx
      exact Batch.fixC_wf (Batch.bagFix_wf h y (List.mem_of_mem_take hy))
    obtain ⟨x, hx, hk⟩ := Batch.sumL_key hwf z hz
    obtain ⟨y, hy, rfl⟩ := List.mem_map.1 hx
    obtain ⟨q, hq, rfl⟩ := List.mem_map.1 (List.mem_of_mem_take hy)
    obtain ⟨c, hc, rfl⟩ := List.mem_map.1 (List.mem_of_mem_take hq)
    have h1 := modN_lt hm.1 c.p
    have hp : (Batch.fixB (fixP m c)).p = (modN m c.p : Int) := rfl
    rw [← hk.1, fixC_port (by rw [hp]; omega) (by rw [hp]; omega), hp]
    omega
theorem fix_ownp {H : List Ed} {B : List Batch.Ch} {m : Nat} (hm : 1 ≤ m ∧ m ≤ 64) (hH : ∀ x ∈ H, x.Wf) (hB : ∀ x ∈ B, x.Wf) : OwnP m (fixHL H m) (fixBL B m) :=
  ⟨fixO_rise H m 5, fixO_all (fun y hy => fixE_wf hm (hH y hy)) 5, fixO_all (p := fun x => 0 ≤ x.t ∧ x.t < m ∧ x.a ≠ 18446744073709551615) (fun y hy => by have h := fixE_fit hm (hH y hy); exact ⟨h.2.1.1, h.2.1.2, by omega⟩) 5, fixBL_hold hm hB, (fixBL_nice hm hB).wf, fixBL_ports hm hB⟩
end Go.Proofs.YtlkljeedlkbkgaaGreatDoor.Cl
