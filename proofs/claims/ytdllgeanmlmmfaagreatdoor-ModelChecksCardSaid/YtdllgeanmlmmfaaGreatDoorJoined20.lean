/-
  PACKAGE model: drain. (gen/mddrain.py)
  PACKAGE front: Of.
-/
import Derived.Test.YtdllgeanmlmmfaaGreatDoorMdPop
import Derived.Test.YtdllgeanmlmmfaaGreatDoorJoined8
import Derived.Test.YtdllgeanmlmmfaaGreatDoorJoined9
import Derived.Test.YtdllgeanmlmmfaaGreatDoorGWays
namespace Go.Proofs.YtdllgeanmlmmfaaGreatDoor.Md
open Go.RowKit Gr Cl
set_option linter.unusedVariables false
set_option linter.unusedSimpArgs false
section
variable {τ : Nat → Nat} {w w' : World} {b : Nat} {c : Mc} {tv : List Tv} {s : Ms}
set_option maxRecDepth 1000000 in
set_option maxHeartbeats 16000000 in
theorem mdDrain_any (h : MdAt τ w b c tv s) (hs1 : Batch.Sorted s.staged) (hs2 : Batch.Sorted s.pool) (hl : s.staged.length + s.pool.length ≤ 100000) :
    Calls Tryz.prog 37 #[.pointer (some ⟨b, 0, none⟩)] w (AnP τ w b (drainV s)) := by
  obtain ⟨w1, hw1⟩ : ∃ w1, w1 = w.alloc (.cells #[.int .i64 0, .int .i64 0, .slice none 0 0] 48) := ⟨_, rfl⟩
  have hb1 : Below w.heap.size w w1 := by rw [hw1]; exact (Below.refl _ _).alloc (Nat.le_refl _) _
  have HZ := Lib.hid (show w1.heap[w.heap.size]? = some (.cells #[.int .i64 0, .int .i64 0, .slice none 0 0] 48 (0, 0)) by rw [hw1]; exact heap_alloc_new w _)
  have HS1 := Lib.hid (show w1.heap.size = w.heap.size + 1 by rw [hw1]; simp)
  have hm1 := h.below hb1
  have HM := Lib.hid hm1
  have HB1 := Lib.hid hb1
  have t0 : τ w.heap.size = 0 := Classical.byContradiction fun h' => absurd (h.tz _ h') (Nat.lt_irrefl _)
  have HT0 := Lib.hid t0
  have hmd := hm1.below (below_drewN (Below.refl w1.heap.size w1) 1)
  have hsl1 := hmd.staged.out
  have hsl2 := hmd.pool.out
  have HWF := Lib.hid (Batch.sumsR_wf (Batch.both_wf hsl1.wf hsl2.wf))
  have hmg := Batch.merge_any hsl1 hsl2 hs1 hs2 hl
  have y0 := hm1.mc.c5
  have y1 := hm1.mc.c4
  obtain ⟨sa, sc, hsv, _⟩ := id hsl1
  obtain ⟨pa, pc, hpv, _⟩ := id hsl2
  rw [hsv] at y0 hmg
  rw [hpv] at y1 hmg
  have HMD := Lib.hid hmg
  have HY := Lib.hid (And.intro y0 y1)
  have HFIN := Lib.hid (fun (n er : Int) (s' : Ms) (W : World) (V : (Int × Int) × Ms) (hV : V = ((n, er), s')) (hP : MdP τ w1 b s' W) (hz : W.heap[w.heap.size]? = w1.heap[w.heap.size]?) => calls1 HZ.out HB1.out HS1.out HT0.out hV hP hz)
  clear h hb1 hm1 hmd hsl1 hsl2 hs1 hs2 hl hmg hsv hpv t0
  go_enter Tryz.func37, Tryz.ntmps37
  go_upto_region 1 with fail
  rw [← hw1]
  clear hw1
  refine wp_region_held_drew (S := (fun w' => w'.cell? ⟨b, 5, none⟩ = some (.slice sa s.staged.length sc) ∧ w'.cell? ⟨b, 4, none⟩ = some (.slice pa s.pool.length pc))) (by kernel_rfl) ?_ (fun hHeld => ?_)
  · ((try dsimp only); exact ⟨y0, y1⟩)
  refine wpAnyH_take (i := 0) (v := ?_) rfl (by kernel_rfl) (by kernel_rfl) (by kernel_rfl) (fun _ _ _ h => h) (Or.inl ⟨by rfl, ?_⟩) (by assumption) ?_
  rotate_left 1
  · (intro w hSw; (try dsimp only at hSw); first | (go_simp; done) | (go_simp; with_reducible rfl))
  try simp only [Act.put, List.setIfInBounds_toArray, List.set_cons_zero, List.set_cons_succ, List.getElem_toArray, List.getElem_cons_zero]
  refine wpAnyH_take (i := 1) (v := ?_) rfl (by kernel_rfl) (by kernel_rfl) (by kernel_rfl) (fun _ _ _ h => h) (Or.inl ⟨by rfl, ?_⟩) (by assumption) ?_
  rotate_left 1
  · (intro w hSw; (try dsimp only at hSw); first | (go_simp; done) | (go_simp; with_reducible rfl))
  try simp only [Act.put, List.setIfInBounds_toArray, List.set_cons_zero, List.set_cons_succ, List.getElem_toArray, List.getElem_cons_zero, List.getElem_cons_succ]
  refine wpAnyH_take (i := 2) (v := ?_) rfl (by kernel_rfl) (by kernel_rfl) (by kernel_rfl) (fun _ _ _ h => h) (Or.inl ⟨by rfl, ?_⟩) (by assumption) ?_
  rotate_left 1
  · (intro w hSw; (try dsimp only at hSw); first | (go_simp; done) | (go_simp; with_reducible rfl))
  try simp only [Act.put, List.setIfInBounds_toArray, List.set_cons_zero, List.set_cons_succ, List.getElem_toArray, List.getElem_cons_zero, List.getElem_cons_succ]
  refine wpAnyH_take (i := 3) (v := ?_) rfl (by kernel_rfl) (by kernel_rfl) (by kernel_rfl) (fun _ _ _ h => h) (Or.inl ⟨by rfl, ?_⟩) (by assumption) ?_
  rotate_left 1
  · (intro w hSw; (try dsimp only at hSw); first | (go_simp; done) | (go_simp; with_reducible rfl))
  try simp only [Act.put, List.setIfInBounds_toArray, List.set_cons_zero, List.set_cons_succ, List.getElem_toArray, List.getElem_cons_zero, List.getElem_cons_succ]
  refine wpAnyH_take (i := 4) (v := ?_) rfl (by kernel_rfl) (by kernel_rfl) (by kernel_rfl) (fun _ _ _ h => h) (Or.inl ⟨by rfl, ?_⟩) (by assumption) ?_
  rotate_left 1
  · (intro w hSw; (try dsimp only at hSw); first | (go_simp; done) | (go_simp; with_reducible rfl))
  try simp only [Act.put, List.setIfInBounds_toArray, List.set_cons_zero, List.set_cons_succ, List.getElem_toArray, List.getElem_cons_zero, List.getElem_cons_succ]
  refine wpAnyH_take (i := 5) (v := ?_) rfl (by kernel_rfl) (by kernel_rfl) (by kernel_rfl) (fun _ _ _ h => h) (Or.inl ⟨by rfl, ?_⟩) (by assumption) ?_
  rotate_left 1
  · (intro w hSw; (try dsimp only at hSw); first | (go_simp; done) | (go_simp; with_reducible rfl))
  try simp only [Act.put, List.setIfInBounds_toArray, List.set_cons_zero, List.set_cons_succ, List.getElem_toArray, List.getElem_cons_zero, List.getElem_cons_succ]
  refine wpAnyH_take (i := 6) (v := ?_) rfl (by kernel_rfl) (by kernel_rfl) (by kernel_rfl) (fun _ _ _ h => h) (Or.inl ⟨by rfl, ?_⟩) (by assumption) ?_
  rotate_left 1
  · (intro w hSw; (try dsimp only at hSw); first | (go_simp; done) | (go_simp; with_reducible rfl))
  try simp only [Act.put, List.setIfInBounds_toArray, List.set_cons_zero, List.set_cons_succ, List.getElem_toArray, List.getElem_cons_zero, List.getElem_cons_succ]
  refine wpAnyH_take (i := 7) (v := ?_) rfl (by kernel_rfl) (by kernel_rfl) (by kernel_rfl) (fun _ _ _ h => h) (Or.inl ⟨by rfl, ?_⟩) (by assumption) ?_
  rotate_left 1
  · (intro w hSw; (try dsimp only at hSw); first | (go_simp; done) | (go_simp; with_reducible rfl))
  try simp only [Act.put, List.setIfInBounds_toArray, List.set_cons_zero, List.set_cons_succ, List.getElem_toArray, List.getElem_cons_zero, List.getElem_cons_succ]
  refine wpAnyH_ready (rs := [8]) (by kernel_rfl) (by simp) ?_
  refine AllReadyH.cons rfl (fun K hK => ?_) AllReadyH.nil
  go_simp
  go_at_call 41
  refine (HMD.out).mono ?_
  rintro e w2 ⟨v, rfl, ho, hb⟩
  obtain ⟨va, vn, vc, rfl⟩ : ∃ a n c, v = .slice a n c := by
    obtain ⟨a, c, h, _⟩ := ho.sl HWF.out
    exact ⟨a, _, c, h⟩
  have hbq : Below w1.heap.size w1 w2 := (below_drewN (Below.refl w1.heap.size w1) 1).trans hb
  have HO := Lib.hid ho
  have HB2 := Lib.hid hbq
  clear ho hb
  try go_wp2_with fail
  refine hK.out _ _ ?_ (fun hHeld => ?_)
  · ((try dsimp only); exact ⟨(hbq.cell (p := ⟨b, 5, none⟩) (Lib.lt_of_cell HY.out.1)).trans HY.out.1, (hbq.cell (p := ⟨b, 4, none⟩) (Lib.lt_of_cell HY.out.2)).trans HY.out.2⟩)
  clear hK K
  try simp only [Act.put, List.setIfInBounds_toArray, List.set_cons_zero, List.set_cons_succ, List.getElem_toArray, List.getElem_cons_zero, List.getElem_cons_succ]
  refine wpAnyH_take (i := 9) (v := ?_) rfl (by kernel_rfl) (by kernel_rfl) (by kernel_rfl) (fun _ _ _ h => h) (Or.inl ⟨by rfl, ?_⟩) (by assumption) ?_
  rotate_left 1
  · (intro w hSw; (try dsimp only at hSw); first | (go_simp; done) | (go_simp; with_reducible rfl))
  try simp only [Act.put, List.setIfInBounds_toArray, List.set_cons_zero, List.set_cons_succ, List.getElem_toArray, List.getElem_cons_zero, List.getElem_cons_succ]
  refine wpAnyH_take (i := 10) (v := ?_) rfl (by kernel_rfl) (by kernel_rfl) (by kernel_rfl) (fun _ _ _ h => h) (Or.inl ⟨by rfl, ?_⟩) (by assumption) ?_
  rotate_left 1
  · (intro w hSw; (try dsimp only at hSw); first | (go_simp; done) | (go_simp; with_reducible rfl))
  try simp only [Act.put, List.setIfInBounds_toArray, List.set_cons_zero, List.set_cons_succ, List.getElem_toArray, List.getElem_cons_zero, List.getElem_cons_succ]
  refine wpAnyH_take (i := 11) (v := ?_) rfl (by kernel_rfl) (by kernel_rfl) (by kernel_rfl) (fun _ _ _ h => h) (Or.inl ⟨by rfl, ?_⟩) (by assumption) ?_
  rotate_left 1
  · (intro w hSw; (try dsimp only at hSw); first | (go_simp; done) | (go_simp; with_reducible rfl))
  try simp only [Act.put, List.setIfInBounds_toArray, List.set_cons_zero, List.set_cons_succ, List.getElem_toArray, List.getElem_cons_zero, List.getElem_cons_succ]
  refine wpAnyH_take (i := 12) (v := ?_) rfl (by kernel_rfl) (by kernel_rfl) (by kernel_rfl) (fun _ _ _ h => h) (Or.inl ⟨by rfl, ?_⟩) (by assumption) ?_
  rotate_left 1
  · (intro w hSw; (try dsimp only at hSw); first | (go_simp; done) | (go_simp; with_reducible rfl))
  try simp only [Act.put, List.setIfInBounds_toArray, List.set_cons_zero, List.set_cons_succ, List.getElem_toArray, List.getElem_cons_zero, List.getElem_cons_succ]
  refine wpAnyH_take (i := 13) (v := ?_) rfl (by kernel_rfl) (by kernel_rfl) (by kernel_rfl) (fun _ _ _ h => h) (Or.inl ⟨by rfl, ?_⟩) (by assumption) ?_
  rotate_left 1
  · (intro w hSw; (try dsimp only at hSw); first | (go_simp; done) | (go_simp; with_reducible rfl))
  try simp only [Act.put, List.setIfInBounds_toArray, List.set_cons_zero, List.set_cons_succ, List.getElem_toArray, List.getElem_cons_zero, List.getElem_cons_succ]
  refine wpAnyH_done (by kernel_rfl) ?_ _
  clear hHeld y0 y1
  have hl12 : w.heap.size < w1.heap.size := by rw [HS1.out]; exact Nat.lt_succ_self _
  have HL12 := Lib.hid hl12
  have hbl : b < w1.heap.size := HM.out.mc.lt
  have HBL := Lib.hid hbl
  have hM2 := HM.out.cov HB2.out
  have st12 : StepM τ (cov τ w1.heap.size w2.heap.size) w1 w2 := StepM.cov HB2.out
  have HM2 := Lib.hid (And.intro hM2 st12)
  clear hM2 st12 hbl hl12 hbq
  by_cases hE : Batch.sumsE (s.staged ++ s.pool) = 0
  · have HV := Lib.hid (show drainV s = (((s.pool.length : Int), 0), { s with staged := Batch.sumsR (s.staged ++ s.pool), pool := [] }) by unfold drainV; rw [if_neg (fun h => h hE)])
    have x4 := HM2.out.1.mc.c4
    have x5 := HM2.out.1.mc.c5
    have xf4 := HM2.out.1.mc.free 4
    have xf5 := HM2.out.1.mc.free 5
    have e4 : c.pool = .slice pa s.pool.length pc := by have := HM.out.mc.c4; rw [HY.out.2] at this; exact (Option.some.inj this).symm
    rw [e4] at x4
    have e5 : c.staged = .slice sa s.staged.length sc := by have := HM.out.mc.c5; rw [HY.out.1] at this; exact (Option.some.inj this).symm
    rw [e5] at x5
    have tb : cov τ w1.heap.size w2.heap.size b = 1 := HM2.out.1.tb
    have st3 : StepM (cov τ w1.heap.size w2.heap.size) (cov τ w1.heap.size w2.heap.size) w2 ((w2.setCell ⟨b, 5, none⟩ (.slice va vn vc)).setCell ⟨b, 4, none⟩ (.slice none 0 0)) := (StepM.set (by omega) (by omega) _).trans (StepM.set (by omega) (by omega) _)
    have hv3 : Batch.Own ((w2.setCell ⟨b, 5, none⟩ (.slice va vn vc)).setCell ⟨b, 4, none⟩ (.slice none 0 0)) w1.heap.size 103 (.slice va vn vc) (Batch.sumsR (s.staged ++ s.pool)) := own_blk HO.out fun k hk => by
      have h1 : w1.heap.size ≤ k := (own_has HO.out hk).1
      have h2 := HBL.out
      exact (heap_setCell_other _ _ _ _ (by show k ≠ b; omega)).trans (heap_setCell_other _ _ _ _ (by show k ≠ b; omega))
    have hP3 : Pers (cov τ w1.heap.size w2.heap.size) ((w2.setCell ⟨b, 5, none⟩ (.slice va vn vc)).setCell ⟨b, 4, none⟩ (.slice none 0 0)) (fun w => Batch.Sl w (.slice va vn vc) (Batch.sumsR (s.staged ++ s.pool))) := (Pers.own hv3 fun k hk => by
      have h1 : w1.heap.size ≤ k ∧ k < w2.heap.size := own_has HO.out hk
      exact cov_new h1.1 h1.2).imp fun W (hW : Batch.Own W w1.heap.size _ (.slice va vn vc) _) => hW.sl HWF.out
    have hm3 : McAt ((w2.setCell ⟨b, 5, none⟩ (.slice va vn vc)).setCell ⟨b, 4, none⟩ (.slice none 0 0)) b { c with staged := .slice va vn vc, pool := .slice none 0 0 } := heap_setCell_same _ b 4 _ _ _ (heap_setCell_same w2 b 5 _ _ (.slice va vn vc) HM2.out.1.mc)
    have hM3 : MdAt (cov τ w1.heap.size w2.heap.size) ((w2.setCell ⟨b, 5, none⟩ (.slice va vn vc)).setCell ⟨b, 4, none⟩ (.slice none 0 0)) b { c with staged := .slice va vn vc, pool := .slice none 0 0 } tv { s with staged := Batch.sumsR (s.staged ++ s.pool), pool := [] } :=
      HM2.out.1.re st3 (fun k _ _ h2 => (heap_setCell_other _ _ _ _ h2).trans (heap_setCell_other _ _ _ _ h2)) (fun k hk => by simpa using HM2.out.1.tz k hk) hm3 rfl rfl rfl rfl (HM2.out.1.paths.size st3) (HM2.out.1.tab.size st3) (fun W _ _ => Batch.Sl.nil W) hP3 (HM2.out.1.folded.size st3) HM2.out.1.pp (HM2.out.1.shown.size st3) HM2.out.1.rm HM2.out.1.cl
    obtain ⟨⟨W3, hW3, r0, r1, r2, hF⟩, z0, z1, z2, zf⟩ := HFIN.out _ 0 _ ((w2.setCell ⟨b, 5, none⟩ (.slice va vn vc)).setCell ⟨b, 4, none⟩ (.slice none 0 0)) _ HV.out ⟨_, ⟨_, _, hM3⟩, HM2.out.2.trans st3, fun _ => hM3.mc.c3.trans HM.out.mc.c3.symm⟩ (by
      have hne : w.heap.size ≠ b := fun e => by have h1 := HM.out.tb; rw [← e, HT0.out] at h1; omega
      exact (heap_setCell_other _ _ _ _ hne).trans ((heap_setCell_other _ _ _ _ hne).trans (HB2.out.block _ HL12.out)))
    have zf0 := zf 0
    have zf1 := zf 1
    have zf2 := zf 2
    have HF := Lib.hid hF
    have HW3 := Lib.hid hW3
    clear zf st3 hv3 hP3 hm3 hM3 hF hW3 e4 e5 tb
    go_upto_region 6 with fail
    clear x4 x5 xf4 xf5
    go_wp2_with fail
    rw [HW3.out] at r0 r1 r2
    exact bodyPost_ret (v := .agg #[.int .i64 (s.pool.length : Int), .int .i64 0, .slice none 0 0]) (by simp [results, Tryz.results37, go_sem, r0, r1, r2]) rfl (by have h := HF.out; rw [HW3.out] at h; exact h)
  · have HV := Lib.hid (show drainV s = ((0, Batch.sumsE (s.staged ++ s.pool)), s) by unfold drainV; rw [if_pos hE])
    have d0 : (Batch.sumsE (s.staged ++ s.pool) != 0) = true := by simp [hE]
    generalize Batch.sumsE (s.staged ++ s.pool) = E at *
    obtain ⟨⟨W3, rfl, r0, r1, r2, hF⟩, z0, z1, z2, zf⟩ := HFIN.out 0 E s w2 _ HV.out (MdP.same ⟨c, tv, HM.out⟩ HB2.out) (HB2.out.block _ HL12.out)
    have zf0 := zf 0
    have zf1 := zf 1
    have zf2 := zf 2
    clear zf hE
    go_wp2_with fail
    exact bodyPost_ret (v := .agg #[.int .i64 0, .int .i64 E, .slice none 0 0]) (by simp [results, Tryz.results37, go_sem, r0, r1, r2]) rfl hF
end
end Go.Proofs.YtdllgeanmlmmfaaGreatDoor.Md
namespace Go.Proofs.YtdllgeanmlmmfaaGreatDoor.Fr
open Go.RowKit Gr
set_option linter.unusedVariables false
set_option linter.unusedSimpArgs false

set_option maxRecDepth 1000000 in
set_option maxHeartbeats 16000000 in
theorem of_any {w : World} {vp vb : Value} {n base : Nat} {M : Nat → Nat → Int} {B : List Batch.Ch} (hp : Mat w base vp n M) (hm : ∀ i j, i < n → j < n → 0 ≤ M i j ∧ M i j ≤ 18446744073709551615) (hb : Batch.Sl w vb B) (hr : B.Pairwise Batch.Lt) (hl : B.length ≤ 100000) (h0 : 1 ≤ n) (h1 : n ≤ 64) :
    Calls Tryz.prog 71 #[vp, vb] w fun e w' => ∃ (g : Nat) (F : Nat → Int), e = .returned (.slice (some ⟨g, 0, none⟩) n n) ∧ w.heap.size ≤ g ∧ w'.rowIs g 50 n (fun p => .int .u64 (F p)) ∧ (∀ p, p < n → FrontU B M n p (F p)) ∧ Below w.heap.size w w' := by
  obtain ⟨gm, r, rfl, hmat⟩ := hp
  have HMAT := Lib.hid hmat
  have HM := Lib.hid hm
  have HSB := Lib.hid hb
  have HR := Lib.hid hr
  have HBL := Lib.hid hl
  have HWT := Lib.hid (show ∀ x ∈ B, 0 ≤ x.t ∧ x.t ≤ 18446744073709551615 from fun x hx => ⟨(hb.wf x hx).t0, (hb.wf x hx).t1⟩)
  have hn1 : (1 : Int) ≤ (n : Int) := by omega
  have hn2 : (n : Int) ≤ 64 := by omega
  have hlt : Batch.leastL B 0 = Batch.leastL B 0 := rfl
  clear hmat hm hb hr hl hlt
  go_enter Tryz.func71, Tryz.ntmps71
  go_wp2_with fail
  go_at_call 88
  refine (repeat_any w.heap.size 18446744073709551615 n h0 h1 (by simp)).mono ?_
  rintro e w2 ⟨b, rfl, hbb, hrow, hbw⟩
  have hsz : (w.alloc (.cells #[.int .u64 18446744073709551615] 50)).heap.size = w.heap.size + 1 := by simp
  rw [hsz] at hbb hbw
  have HROW := Lib.hid hrow
  have HB0 := Lib.hid (((Below.refl w.heap.size w).alloc (Nat.le_refl _) (.cells #[.int .u64 18446744073709551615] 50)).trans (hbw.mono (Nat.le_succ _)))
  have HBB := Lib.hid (show w.heap.size ≤ b by omega)
  clear hrow hbw hbb hsz
  go_wp2_with fail
  go_loopg [16] n (fun m t wr => ∃ (f : Nat) (F : Nat → Int), f + m = n ∧ t = .int .i64 (f : Int) ∧ wr.rowIs b 50 n (fun p => .int .u64 (F p)) ∧ (∀ p, p < n → FrontU B M f p (F p)) ∧ Below w.heap.size w wr)
  case atStart => exact ⟨0, fun _ => 18446744073709551615, by omega, rfl, HROW.out, fun p _ => FrontU.start B M p, HB0.out⟩
  case round =>
    clear HROW HB0
    obtain ⟨f, F, hfm, rfl, hrow, hfr, hbw⟩ := hrel
    have HFM := Lib.hid hfm
    have HROW := Lib.hid hrow
    have HFR := Lib.hid hfr
    have HBW := Lib.hid hbw
    clear hfm hrow hfr hbw
    by_cases hf : f < n
    · have hf0 : (0 : Int) ≤ (f : Int) := Int.natCast_nonneg _
      have hf1 : (f : Int) < (n : Int) := by omega
      have HF := Lib.hid hf
      have g0 := (HMAT.out.below HBW.out).top.cell hf
      clear hf
      go_wp2_with fail
      go_at_call 97
      refine (Batch.least_any (f : Int) (HSB.out.below HBW.out) HR.out HBL.out).mono ?_
      rintro e w3 ⟨rfl, hb3⟩
      have HROW3 := Lib.hid (HROW.out.of_block (hb3.block _ HROW.out.lt))
      have HBW3 := Lib.hid (HBW.out.trans (hb3.mono HBW.out.size))
      have HLB := Lib.hid (show 0 ≤ Batch.leastL B f ∧ Batch.leastL B f ≤ 18446744073709551615 from ⟨by
        rcases Batch.leastL_is (l := B) (p := (f : Int)) with e | ⟨x, hx, _, e⟩
        · omega
        · have := HWT.out x hx; omega, Batch.leastL_le⟩)
      obtain ⟨lb, hlb⟩ : ∃ q, q = Batch.leastL B f := ⟨_, rfl⟩
      have HLE := Lib.hid hlb
      rw [← hlb] at HLB
      rw [← hlb]
      clear hb3 HROW HBW g0 hlb
      have hmin : ∀ (ts : Array TypeId) (t : TypeId) (W : World), (Builtin.min_ ts t #[.int .i64 (n : Int), .int .i64 (n : Int)]).run Tryz.prog W = .ok (.int .i64 (n : Int)) W := fun ts t W => by rw [run_min_int2 W ts t .i64 .i64 _ _, if_neg (by omega)]
      go_wp2_with fail
      go_loopg [29] n (fun m2 t wq => ∃ (y : Nat) (F2 : Nat → Int), y + m2 = n ∧ t = .int .i64 (y : Int) ∧ wq.rowIs b 50 n (fun p => .int .u64 (F2 p)) ∧ (∀ p, p < n → p < y → FrontU B M (f + 1) p (F2 p)) ∧ (∀ p, p < n → y ≤ p → FrontU B M f p (F2 p)) ∧ Below w.heap.size w wq)
      case atStart => exact ⟨0, F, by omega, rfl, HROW3.out, fun p _ h => by omega, fun p hp _ => HFR.out p hp, HBW3.out⟩
      case round =>
        clear HROW3 HBW3 HFR
        obtain ⟨y, F2, hym, rfl, hrow, hdone, hrest, hbw⟩ := hrel
        have HYM := Lib.hid hym
        have HROW := Lib.hid hrow
        have HDN := Lib.hid hdone
        have HRS := Lib.hid hrest
        have HBW := Lib.hid hbw
        clear hym hrow hdone hrest hbw
        by_cases hy : y < n
        · have hy0 : (0 : Int) ≤ (y : Int) := Int.natCast_nonneg _
          have hy1 : (y : Int) < (n : Int) := by omega
          have HY := Lib.hid hy
          have rc := HROW.out.cell hy
          have rf := HROW.out.frozen y
          have mc := ((HMAT.out.below HBW.out).row f HF.out).cell hy
          have HU2 := Lib.hid (HM.out f y HF.out hy)
          have HST := Lib.hid (FrontU.port HWT.out HU2.out.1 HU2.out.2 (HRS.out y hy (Nat.le_refl _)))
          have HSET := Lib.hid (HROW.out.set y (.int .u64 (min (F2 y) (plusN lb (M f y)))))
          have HB6 := Lib.hid (HBW.out.setCell (p := ⟨b, y, none⟩) HBB.out (.int .u64 (min (F2 y) (plusN lb (M f y)))))
          rw [← HLE.out] at HST
          obtain ⟨m0, hm0⟩ : ∃ q, q = F2 y := ⟨_, rfl⟩
          obtain ⟨m2, hm2⟩ : ∃ q, q = M f y := ⟨_, rfl⟩
          rw [← hm0] at rc HST HSET HB6
          rw [← hm2] at mc HST HSET HB6 HU2
          obtain ⟨ps, hps⟩ : ∃ ps, ps = plusN lb m2 := ⟨_, rfl⟩
          have HPS := Lib.hid (fun W => plus_still lb m2 HLB.out HU2.out W)
          rw [← hps] at HST HSET HB6 HPS
          clear hm0 hm2 hps hy
          go_wp2_with fail
          go_still_tail 14, (by kernel_rfl)
          still_call (HPS.out _)
          repeat still_step
          refine wpStill_nil ?_
          go_wp2_with fail
          go_roundg (n - (y + 1))
          case measure => have := HYM.out; have := HY.out; omega
          case rel =>
            refine ⟨y + 1, fun p => if p = y then min m0 ps else F2 p, by have := HYM.out; have := HY.out; omega, by go_num, ?_, fun p hp hpy => ?_, fun p hp hpy => ?_, HB6.out.drew⟩
            · refine (HSET.out.of_block rfl).congr fun p hp => ?_
              by_cases e : p = y
              · simp [e]
              · simp [e]
            · show FrontU B M (f + 1) p (if p = y then min m0 ps else F2 p)
              by_cases e : p = y
              · subst e; rw [if_pos rfl]; exact HST.out
              · rw [if_neg e]; exact HDN.out p hp (by omega)
            · show FrontU B M f p (if p = y then min m0 ps else F2 p)
              rw [if_neg (by omega)]; exact HRS.out p hp (by omega)
        · go_wp2_with fail
          go_roundg (n - (f + 1))
          case measure => have := HFM.out; have := HF.out; omega
          case rel => exact ⟨f + 1, F2, by have := HFM.out; have := HF.out; omega, by go_num, HROW.out, fun p hp => HDN.out p hp (by omega), HBW.out⟩
    · obtain rfl : n = f := by have := HFM.out; omega
      go_wp2_with fail
      go_ret
      exact ⟨b, F, rfl, HBB.out, HROW.out, HFR.out, HBW.out⟩
end Go.Proofs.YtdllgeanmlmmfaaGreatDoor.Fr
