/-
  PACKAGE claim: Update, where all may be.
  PACKAGE front: Of.
-/
import Derived.Test.YtlkljeedlkbkgaaGreatDoorJoined16
import Derived.Test.YtlkljeedlkbkgaaGreatDoorJoined7
import Derived.Test.YtlkljeedlkbkgaaGreatDoorBagFind
import Derived.Test.YtlkljeedlkbkgaaGreatDoorGWays
namespace Go.Proofs.YtlkljeedlkbkgaaGreatDoor.Cl
open Go.RowKit Gr
set_option linter.unusedVariables false

theorem upE_zero {B A : List Batch.Ch} {M : Nat → Nat → Int} {m : Nat} {c : Batch.Ch} (h : upE B A M m c = 0) : c.p < (m : Int) ∧ (0 < c.d → letsB M m A c = true) ∧ 0 ≤ Batch.tot B c.p c.t + c.d ∧ Batch.tot B c.p c.t + c.d ≤ 1125899906842624 := by
  unfold upE at h
  split at h
  · exact absurd h (by decide)
  · split at h
    · exact absurd h (by decide)
    · split at h
      · exact absurd h (by decide)
      · rename_i h1 h2 h3
        refine ⟨by omega, fun hd => ?_, by omega, by omega⟩
        cases e : letsB M m A c
        · exact absurd (.inl ⟨hd, e⟩) h2
        · rfl
theorem apply_zero {B C A : List Batch.Ch} {M : Nat → Nat → Int} {m : Nat} (hB : HoldP B) (hC : Batch.RightP C) (hwB : ∀ x ∈ B, x.Wf) (hwC : ∀ x ∈ C, x.Wf) (h : ∀ c ∈ C, upE B A M m c = 0) : Batch.applyE B C = 0 := by
  have hn : Batch.anyNeg B C = false := Batch.anyNeg_no fun x hx => by have := (upE_zero (h x hx)).2.2.1; omega
  have ho : Batch.overK (B ++ C) = false := by
    rw [← Batch.anyOver_is hB.bag hC hwB hwC hn]
    cases e : Batch.anyOver B C
    · rfl
    · obtain ⟨x, hx, e⟩ := List.any_eq_true.1 e
      have h1 : 576460752303423488 < Batch.tot B x.p x.t + x.d := of_decide_eq_true e
      have h2 := (upE_zero (h x hx)).2.2.2
      omega
  rw [(Batch.apply_not hn).1, (Batch.sums_ok ho).1]
set_option maxRecDepth 1000000 in
set_option maxHeartbeats 16000000 in
theorem update_ok {w : World} {vh vb vp vl : Value} {H : List Ed} {B l : List Batch.Ch} {m base : Nat} {M : Nat → Nat → Int} (ho : OwnAt w vh vb H B) (hl : H.length ≤ 10000) (hlb : B.length ≤ 10000) (hB : HoldP B) (hv : Batch.Sl w vl l) (hk : Batch.packE l = 0) (hM : Mat w base vp m M) (hMU : MU M m) (hm : m ≤ 64) (hok : ∀ c ∈ Batch.packR l, upE B (allL H B) M m c = 0) :
    Calls Tryz.prog 20 #[.agg #[vh, vb], vp, vl] w fun e w' => ∃ vh' vb' v, e = .returned (.tuple #[.agg #[vh', vb'], v, .nilIface]) ∧ Own w' w.heap.size 40 vh' H ∧ Batch.Own w' w.heap.size 72 vb' (Batch.applyR B (Batch.packR l)) ∧ Batch.Own w' w.heap.size 72 v (Batch.packR l) ∧ Below w.heap.size w w' := by
  have HOW := Lib.hid ho
  have HLV := Lib.hid hv
  have HM := Lib.hid hM
  have hBr := hB.bag.right.2
  have HU := Lib.hid hok
  have HHB := Lib.hid hB
  clear hok hM
  obtain ⟨ao, cap, rfl, _⟩ := ho.hands
  obtain ⟨ab, capb, rfl, _⟩ := ho.held
  obtain ⟨al, capl, rfl, _⟩ := hv
  obtain ⟨w0, hw0⟩ : ∃ w0, w0 = (w.alloc (.cells #[.slice ao H.length cap, .slice ab B.length capb] 47)).alloc (.cells #[.slice none 0 0, .slice none 0 0] 47) := ⟨_, rfl⟩
  obtain ⟨hb0, hs0, hx0, hy0⟩ := start2 w _ _ hw0
  have HX := Lib.hid hx0
  have HY := Lib.hid hy0
  have HB0 := Lib.hid hb0
  have HS0 := Lib.hid hs0
  have HPK := Lib.hid (Batch.pack_any (w := w0) (HLV.out.below hb0))
  clear hb0 hs0 hx0 hy0 ho
  go_enter Tryz.func20, Tryz.ntmps20
  go_wp2_with fail
  go_at_call 56
  rw [← hw0]
  clear hw0
  refine HPK.out.mono ?_
  rintro e w1 ⟨v1, rfl, hown, hb⟩
  rw [hk]
  have HCR := Lib.hid (Batch.pack_right HLV.out.wf hk)
  have HCW := Lib.hid (packR_wf HLV.out.wf)
  have HCL := Lib.hid (packR_len hk)
  generalize hCe : Batch.packR l = C at hown HCR HCW HCL HU
  have HCE := Lib.hid hCe
  clear hCe
  obtain ⟨av, cv, rfl⟩ := formB hown
  have HC1 := Lib.hid hown
  have hcl : C.length ≤ 16 := HCL.out
  have hlt0 : w.heap.size < w0.heap.size := by have := HS0.out; omega
  have hlt1 : w.heap.size + 1 < w0.heap.size := by have := HS0.out; omega
  have HX1 := Lib.hid ((hb.block _ hlt0).trans HX.out)
  have HY1 := Lib.hid ((hb.block _ hlt1).trans HY.out)
  have HB1 := Lib.hid (HB0.out.trans (hb.mono HB0.out.size))
  have hs1 := hb.size
  have hlx : w.heap.size < w1.heap.size := by omega
  have hly : w.heap.size + 1 < w1.heap.size := by omega
  obtain ⟨x0, x1, _⟩ := pair_cells HX1.out
  clear hb hlt0 hlt1 hs1 hown hk
  go_wp2_with fail
  go_at_call 15
  refine (all_any (HOW.out.hands.below HB1.out) (HOW.out.held.below HB1.out) hl hlb).mono ?_
  rintro e w2 ⟨va, rfl, hoa, hb⟩
  have HA2 := Lib.hid (hoa.sl (all_wf HOW.out.hands.wf HOW.out.held.wf))
  obtain ⟨aa, ca, hva⟩ := formB hoa
  generalize allL H B = A at HA2 HU hva
  subst hva
  have HX2 := Lib.hid ((hb.block _ hlx).trans HX1.out)
  have HY2 := Lib.hid ((hb.block _ hly).trans HY1.out)
  have HB2 := Lib.hid (HB1.out.trans (hb.mono HB1.out.size))
  have HC2 := Lib.hid (HC1.out.below hb)
  have hs2 := hb.size
  have hlx2 : w.heap.size < w2.heap.size := by omega
  have hly2 : w.heap.size + 1 < w2.heap.size := by omega
  clear hb hoa x0 x1 hs2
  go_wp2_with fail
  have hlen : C.length ≤ 9223372036854775807 := by omega
  go_loopg [30] C.length (fun k s30 wr => ∃ i : Nat, i + k = C.length ∧ s30 = .int .i64 i ∧ (True) ∧ Below w2.heap.size w2 wr)
  case atStart => exact ⟨0, by omega, rfl, trivial, Below.refl _ _⟩
  case round =>
    obtain ⟨i, hik, rfl, hile, hbw⟩ := hrel
    have HIK := Lib.hid hik
    have HBW := Lib.hid hbw
    have HLE := Lib.hid hile
    have hbs : w2.heap.size ≤ wr.heap.size := hbw.size
    have hi0 : (0 : Int) ≤ (i : Int) := Int.natCast_nonneg _
    clear hik hbw hile
    by_cases hlt : i < C.length
    · obtain ⟨c, hc, hcm⟩ := Batch.at_of hlt
      obtain ⟨gc, cc', hvc, hgc1, hgc2, _⟩ := HC2.out.form.resolve_left (fun h => by rw [h.1] at hlt; simp at hlt)
      simp only [Value.slice.injEq] at hvc
      obtain ⟨rfl, _, rfl⟩ := hvc
      obtain ⟨c0, c1, c2⟩ := (HC2.out.at hc).below HBW.out hgc2
      obtain ⟨x0, x1, _⟩ := pair_cells ((HBW.out.block _ hlx2).trans HX2.out)
      have hi1 : (i : Int) < (C.length : Int) := by omega
      have hxr : w.heap.size < wr.heap.size := by omega
      have hgr : gc < wr.heap.size := by omega
      have HCI := Lib.hid hc
      have HLT := Lib.hid hlt
      have HBT := Lib.hid (HB2.out.trans (HBW.out.mono HB2.out.size))
      obtain ⟨w3, hw3⟩ : ∃ w3, w3 = wr.alloc (.cells #[.int .i64 c.p, .int .u64 c.t, .int .i64 c.d] 72) := ⟨_, rfl⟩
      have hb3 : Below w2.heap.size w2 w3 := by rw [hw3]; exact HBW.out.alloc hbs _
      have HBT3 := Lib.hid (HB2.out.trans (hb3.mono HB2.out.size))
      have HB3 := Lib.hid hb3
      have HWR := Lib.hid (wrongC_any (w := w3) (c := c) (HOW.out.held.below HBT3.out) hBr (by omega) (HA2.out.below hb3) (HM.out.below HBT3.out) hMU hm (HCW.out c hcm) (fit_port HCR.out hcm) (fit_sum hB HCR.out hcm))
      obtain ⟨cp, ct, cd⟩ := c
      simp only at c0 c1 c2 hw3
      have HE := Lib.hid (HU.out _ hcm)
      clear hc hcm hlt hb3
      go_wp2_with fail
      go_at_call 57
      rw [← hw3]
      clear hw3
      refine HWR.out.mono ?_
      rw [HE.out]
      rintro e w4 ⟨rfl, hb4⟩
      have HB4 := Lib.hid (HB3.out.trans (hb4.mono HB3.out.size))
      clear hb4 c0 c1 c2 x0 x1
      go_wp2_with fail
      go_roundg (gk - 1)
      case measure => have := HIK.out; have := HLT.out; omega
      case rel => exact ⟨i + 1, by have := HIK.out; have := HLT.out; omega, by go_num, trivial, HB4.out⟩
    · have hd1 : decide ((i : Int) < (C.length : Int)) = false := decide_eq_false (by omega)
      have hd2 : decide (i < C.length) = false := decide_eq_false hlt
      have hae := apply_zero HHB.out HCR.out HOW.out.held.wf HCW.out HU.out
      have hapl : B.length + C.length ≤ 100000 := by omega
      have HBT := Lib.hid (HB2.out.trans (HBW.out.mono HB2.out.size))
      have HAP := Lib.hid (Batch.apply_any (w := wr) (HOW.out.held.below HBT.out) ((HC2.out.sl HCW.out).below HBW.out) HHB.out.bag.right HCR.out hapl)
      rw [hae] at HAP
      generalize hRe : Batch.applyR B C = R at HAP
      have HRE := Lib.hid hRe
      clear hRe
      obtain ⟨x0, x1, _⟩ := pair_cells ((HBW.out.block _ hlx2).trans HX2.out)
      clear hlt hae hapl
      go_wp2_with fail
      go_at_call 17
      refine HAP.out.mono ?_
      rintro e w5 ⟨vr, rfl, hor, hb5⟩
      obtain ⟨ar, cr, rfl⟩ := formB hor
      have hb25 : Below w2.heap.size w2 w5 := HBW.out.trans (hb5.mono hbs)
      have HB5 := Lib.hid (HB2.out.trans (hb25.mono HB2.out.size))
      have HX5 := Lib.hid ((hb25.block _ hlx2).trans HX2.out)
      have HY5 := Lib.hid ((hb25.block _ hly2).trans HY2.out)
      have HC5 := Lib.hid (HC2.out.below hb25)
      have HR5 := Lib.hid hor
      have hs5 := hb25.size
      have hly5 : w.heap.size + 1 < w5.heap.size := by omega
      have hwr : w.heap.size + 1 < wr.heap.size := by omega
      have hw0s := HS0.out
      clear x0 x1 hor hb5 hb25
      obtain ⟨x0, x1, _⟩ := pair_cells HX5.out
      have HW0 := Lib.hid hw0s
      clear hw0s
      go_wp2_with fail
      go_at_call 59
      refine (cloneH_any (HOW.out.hands.below HB5.out) (by omega)).mono ?_
      rintro e w6 ⟨vh6, rfl, hoh, hb6⟩
      obtain ⟨a6, c6, rfl⟩ := formH hoh
      have HY6 := Lib.hid ((hb6.block _ hly5).trans HY5.out)
      have HB6 := Lib.hid (HB5.out.trans (hb6.mono HB5.out.size))
      obtain ⟨y0, y1, yf⟩ := pair_cells HY6.out
      have yf0 := yf 0
      have yf1 := yf 1
      have HO6 := Lib.hid hoh
      have HR6 := Lib.hid (HR5.out.below hb6)
      have HC6 := Lib.hid (HC5.out.below hb6)
      have HRS := Lib.hid (pair_cells (heap_setCell_same _ (w.heap.size + 1) 1 _ _ (.slice ar R.length cr) (heap_setCell_same w6 (w.heap.size + 1) 0 _ _ (.slice a6 H.length c6) HY6.out)))
      clear yf hoh hb6 x0 x1
      go_wp2_with fail
      obtain ⟨r0, r1, _⟩ := HRS.out
      have hw0s := HW0.out
      refine bodyPost_ret (v := .tuple #[.agg #[.slice a6 H.length c6, .slice ar R.length cr], .slice (av) C.length cv, .nilIface]) (by simp [results, Tryz.results20, go_sem, r0, r1]) rfl ⟨_, _, _, rfl, ?_, ?_, ?_, ?_⟩
      · have h2 := World.ownsRow.lt HO6.out
        exact Own.mono (ownsRow_setCell_other (ownsRow_setCell_other HO6.out (fun e => by have h := (h2 _ e).1; dsimp only at h; omega) _) (fun e => by have h := (h2 _ e).1; dsimp only at h; omega) _) (by omega)
      · rw [HCE.out, HRE.out]
        have h2 := World.ownsRow.lt HR6.out
        exact Batch.Own.mono (ownsRow_setCell_other (ownsRow_setCell_other HR6.out (fun e => by have h := (h2 _ e).1; dsimp only at h; omega) _) (fun e => by have h := (h2 _ e).1; dsimp only at h; omega) _) (by omega)
      · rw [HCE.out]
        have h2 := World.ownsRow.lt HC6.out
        exact Batch.Own.mono (ownsRow_setCell_other (ownsRow_setCell_other HC6.out (fun e => by have h := (h2 _ e).1; dsimp only at h; omega) _) (fun e => by have h := (h2 _ e).1; dsimp only at h; omega) _) (by omega)
      · exact (HB6.out.setCell (p := ⟨w.heap.size + 1, 0, none⟩) (Nat.le_succ _) _).setCell (p := ⟨w.heap.size + 1, 1, none⟩) (Nat.le_succ _) _
end Go.Proofs.YtlkljeedlkbkgaaGreatDoor.Cl
namespace Go.Proofs.YtlkljeedlkbkgaaGreatDoor.Fr
open Go.RowKit Gr
set_option linter.unusedVariables false
set_option linter.unusedSimpArgs false

set_option maxRecDepth 1000000 in
set_option maxHeartbeats 16000000 in
theorem of_any {w : World} {vp vb : Value} {n base : Nat} {M : Nat → Nat → Int} {B : List Batch.Ch} (hp : Mat w base vp n M) (hm : ∀ i j, i < n → j < n → 0 ≤ M i j ∧ M i j ≤ 18446744073709551615) (hb : Batch.Sl w vb B) (hr : B.Pairwise Batch.Lt) (hl : B.length ≤ 100000) (h0 : 1 ≤ n) (h1 : n ≤ 64) :
    Calls Tryz.prog 16 #[vp, vb] w fun e w' => ∃ (g : Nat) (F : Nat → Int), e = .returned (.slice (some ⟨g, 0, none⟩) n n) ∧ w.heap.size ≤ g ∧ w'.rowIs g 36 n (fun p => .int .u64 (F p)) ∧ (∀ p, p < n → FrontU B M n p (F p)) ∧ Below w.heap.size w w' := by
  obtain ⟨gm, r, rfl, hmat⟩ := hp
  have HMAT := Lib.hid hmat
  have HM := Lib.hid hm
  have HSB := Lib.hid hb
  have HR := Lib.hid hr
  have HBL := Lib.hid hl
  have HWT := Lib.hid (show ∀ x ∈ B, 0 ≤ x.t ∧ x.t ≤ 18446744073709551615 from fun x hx => ⟨(hb.wf x hx).t0, (hb.wf x hx).t1⟩)
  have hn1 : (1 : Int) ≤ (n : Int) := by omega
  have hn2 : (n : Int) ≤ 64 := by omega
  have hlt : Batch.leastL B 0 = Batch.leastL B 0 := rfl
  clear hmat hm hb hr hl hlt
  go_enter Tryz.func16, Tryz.ntmps16
  go_wp2_with fail
  go_at_call 50
  refine (repeat_any w.heap.size 18446744073709551615 n h0 h1 (by simp)).mono ?_
  rintro e w2 ⟨b, rfl, hbb, hrow, hbw⟩
  have hsz : (w.alloc (.cells #[.int .u64 18446744073709551615] 36)).heap.size = w.heap.size + 1 := by simp
  rw [hsz] at hbb hbw
  have HROW := Lib.hid hrow
  have HB0 := Lib.hid (((Below.refl w.heap.size w).alloc (Nat.le_refl _) (.cells #[.int .u64 18446744073709551615] 36)).trans (hbw.mono (Nat.le_succ _)))
  have HBB := Lib.hid (show w.heap.size ≤ b by omega)
  clear hrow hbw hbb hsz
  go_wp2_with fail
  go_loopg [16] n (fun m t wr => ∃ (f : Nat) (F : Nat → Int), f + m = n ∧ t = .int .i64 (f : Int) ∧ wr.rowIs b 36 n (fun p => .int .u64 (F p)) ∧ (∀ p, p < n → FrontU B M f p (F p)) ∧ Below w.heap.size w wr)
  case atStart => exact ⟨0, fun _ => 18446744073709551615, by omega, rfl, HROW.out, fun p _ => FrontU.start B M p, HB0.out⟩
  case round =>
    clear HROW HB0
    obtain ⟨f, F, hfm, rfl, hrow, hfr, hbw⟩ := hrel
    have HFM := Lib.hid hfm
    have HROW := Lib.hid hrow
    have HFR := Lib.hid hfr
    have HBW := Lib.hid hbw
    clear hfm hrow hfr hbw
    by_cases hf : f < n
    · have hf0 : (0 : Int) ≤ (f : Int) := Int.natCast_nonneg _
      have hf1 : (f : Int) < (n : Int) := by omega
      have HF := Lib.hid hf
      have g0 := (HMAT.out.below HBW.out).top.cell hf
      clear hf
      go_wp2_with fail
      go_at_call 51
      refine (Batch.least_any (f : Int) (HSB.out.below HBW.out) HR.out HBL.out).mono ?_
      rintro e w3 ⟨rfl, hb3⟩
      have HROW3 := Lib.hid (HROW.out.of_block (hb3.block _ HROW.out.lt))
      have HBW3 := Lib.hid (HBW.out.trans (hb3.mono HBW.out.size))
      have HLB := Lib.hid (show 0 ≤ Batch.leastL B f ∧ Batch.leastL B f ≤ 18446744073709551615 from ⟨by
        rcases Batch.leastL_is (l := B) (p := (f : Int)) with e | ⟨x, hx, _, e⟩
        · omega
        · have := HWT.out x hx; omega, Batch.leastL_le⟩)
      obtain ⟨lb, hlb⟩ : ∃ q, q = Batch.leastL B f := ⟨_, rfl⟩
      have HLE := Lib.hid hlb
      rw [← hlb] at HLB
      rw [← hlb]
      clear hb3 HROW HBW g0 hlb
      have hmin : ∀ (ts : Array TypeId) (t : TypeId) (W : World), (Builtin.min_ ts t #[.int .i64 (n : Int), .int .i64 (n : Int)]).run Tryz.prog W = .ok (.int .i64 (n : Int)) W := fun ts t W => by rw [run_min_int2 W ts t .i64 .i64 _ _, if_neg (by omega)]
      go_wp2_with fail
      go_loopg [29] n (fun m2 t wq => ∃ (y : Nat) (F2 : Nat → Int), y + m2 = n ∧ t = .int .i64 (y : Int) ∧ wq.rowIs b 36 n (fun p => .int .u64 (F2 p)) ∧ (∀ p, p < n → p < y → FrontU B M (f + 1) p (F2 p)) ∧ (∀ p, p < n → y ≤ p → FrontU B M f p (F2 p)) ∧ Below w.heap.size w wq)
      case atStart => exact ⟨0, F, by omega, rfl, HROW3.out, fun p _ h => by omega, fun p hp _ => HFR.out p hp, HBW3.out⟩
      case round =>
        clear HROW3 HBW3 HFR
        obtain ⟨y, F2, hym, rfl, hrow, hdone, hrest, hbw⟩ := hrel
        have HYM := Lib.hid hym
        have HROW := Lib.hid hrow
        have HDN := Lib.hid hdone
        have HRS := Lib.hid hrest
        have HBW := Lib.hid hbw
        clear hym hrow hdone hrest hbw
        by_cases hy : y < n
        · have hy0 : (0 : Int) ≤ (y : Int) := Int.natCast_nonneg _
          have hy1 : (y : Int) < (n : Int) := by omega
          have HY := Lib.hid hy
          have rc := HROW.out.cell hy
          have rf := HROW.out.frozen y
          have mc := ((HMAT.out.below HBW.out).row f HF.out).cell hy
          have HU2 := Lib.hid (HM.out f y HF.out hy)
          have HST := Lib.hid (FrontU.port HWT.out HU2.out.1 HU2.out.2 (HRS.out y hy (Nat.le_refl _)))
          have HSET := Lib.hid (HROW.out.set y (.int .u64 (min (F2 y) (plusN lb (M f y)))))
          have HB6 := Lib.hid (HBW.out.setCell (p := ⟨b, y, none⟩) HBB.out (.int .u64 (min (F2 y) (plusN lb (M f y)))))
          rw [← HLE.out] at HST
          obtain ⟨m0, hm0⟩ : ∃ q, q = F2 y := ⟨_, rfl⟩
          obtain ⟨m2, hm2⟩ : ∃ q, q = M f y := ⟨_, rfl⟩
          rw [← hm0] at rc HST HSET HB6
          rw [← hm2] at mc HST HSET HB6 HU2
          obtain ⟨ps, hps⟩ : ∃ ps, ps = plusN lb m2 := ⟨_, rfl⟩
          have HPS := Lib.hid (fun W => plus_still lb m2 HLB.out HU2.out W)
          rw [← hps] at HST HSET HB6 HPS
          clear hm0 hm2 hps hy
          go_wp2_with fail
          go_still_tail 14, (by kernel_rfl)
          still_call (HPS.out _)
          repeat still_step
          refine wpStill_nil ?_
          go_wp2_with fail
          go_roundg (n - (y + 1))
          case measure => have := HYM.out; have := HY.out; omega
          case rel =>
            refine ⟨y + 1, fun p => if p = y then min m0 ps else F2 p, by have := HYM.out; have := HY.out; omega, by go_num, ?_, fun p hp hpy => ?_, fun p hp hpy => ?_, HB6.out.drew⟩
            · refine (HSET.out.of_block rfl).congr fun p hp => ?_
              by_cases e : p = y
              · simp [e]
              · simp [e]
            · show FrontU B M (f + 1) p (if p = y then min m0 ps else F2 p)
              by_cases e : p = y
              · subst e; rw [if_pos rfl]; exact HST.out
              · rw [if_neg e]; exact HDN.out p hp (by omega)
            · show FrontU B M f p (if p = y then min m0 ps else F2 p)
              rw [if_neg (by omega)]; exact HRS.out p hp (by omega)
        · go_wp2_with fail
          go_roundg (n - (f + 1))
          case measure => have := HFM.out; have := HF.out; omega
          case rel => exact ⟨f + 1, F2, by have := HFM.out; have := HF.out; omega, by go_num, HROW.out, fun p hp => HDN.out p hp (by omega), HBW.out⟩
    · obtain rfl : n = f := by have := HFM.out; omega
      go_wp2_with fail
      go_ret
      exact ⟨b, F, rfl, HBB.out, HROW.out, HFR.out, HBW.out⟩
end Go.Proofs.YtlkljeedlkbkgaaGreatDoor.Fr
