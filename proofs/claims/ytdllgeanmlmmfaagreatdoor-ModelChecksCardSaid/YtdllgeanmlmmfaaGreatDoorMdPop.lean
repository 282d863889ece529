/-
  PACKAGE model: pop, drain. (gen/mdpop.py)
-/
import Derived.Test.YtdllgeanmlmmfaaGreatDoorMdPut
namespace Go.Proofs.YtdllgeanmlmmfaaGreatDoor.Md
open Go.RowKit Gr Cl
set_option linter.unusedVariables false
set_option linter.unusedSimpArgs false
def popV (s : Ms) (i : Nat) (x : Th) : (Int × Int) × Ms :=
  match x.ring with
  | [] => ((0, 0), s)
  | q :: r => if Batch.sumsE (s.staged ++ q) ≠ 0 then ((0, Batch.sumsE (s.staged ++ q)), s) else ((1, 0), { s with staged := Batch.sumsR (s.staged ++ q), th := s.th.set i { x with ring := r } })
def drainV (s : Ms) : (Int × Int) × Ms :=
  if Batch.sumsE (s.staged ++ s.pool) ≠ 0 then ((0, Batch.sumsE (s.staged ++ s.pool)), s) else (((s.pool.length : Int), 0), { s with staged := Batch.sumsR (s.staged ++ s.pool), pool := [] })
section
variable {τ : Nat → Nat} {w w' : World} {b i g : Nat} {c : Mc} {tv : List Tv} {s : Ms} {t : Tv} {x : Th} {v q' : Sx} {rest : List (List Batch.Ch)} {R : List Batch.Ch}
set_option maxRecDepth 1000000 in
set_option maxHeartbeats 16000000 in
theorem mdPopR_any (h : MdAt τ w b c tv s) (hx : s.th[i]? = some x) (hth : c.th = some ⟨g, 0, none⟩) (hsp : Batch.Sorted s.staged) (hso : ∀ q ∈ x.ring, Batch.Sorted q ∧ q.length ≤ 1000) (hlp : s.staged.length ≤ 90000) :
    Calls Tryz.prog 38 #[.pointer (some ⟨b, 0, none⟩), .pointer (some ⟨g, i * 4, none⟩)] w (AnP τ w b (popV s i x)) := by
  obtain ⟨g', t, hth', tg, ht, hT, hgl, hic, d0, d1, d2, d3, df⟩ := h.thr_at hx
  obtain rfl : g' = g := by rw [hth] at hth'; simpa using hth'.symm
  obtain ⟨sh, sb, ⟨oa, on, oc⟩, ⟨ra, rn, rc⟩⟩ := t
  obtain ⟨w1, hw1⟩ : ∃ w1, w1 = w.alloc (.cells #[.int .i64 0, .int .i64 0, .slice none 0 0] 48) := ⟨_, rfl⟩
  have hb1 : Below w.heap.size w w1 := by rw [hw1]; exact (Below.refl _ _).alloc (Nat.le_refl _) _
  have HZ := Lib.hid (show w1.heap[w.heap.size]? = some (.cells #[.int .i64 0, .int .i64 0, .slice none 0 0] 48 (0, 0)) by rw [hw1]; exact heap_alloc_new w _)
  have HS1 := Lib.hid (show w1.heap.size = w.heap.size + 1 by rw [hw1]; simp)
  have HM0 := Lib.hid h
  have HM := Lib.hid (h.below hb1)
  have HB1 := Lib.hid hb1
  have HX := Lib.hid hx
  have HTH := Lib.hid hth
  have HTT := Lib.hid ht
  have HTG := Lib.hid tg
  have HSO := Lib.hid (And.intro hsp (And.intro hso hlp))
  have hon : on = x.off.length := hT.off.1
  have hrn : rn = x.ring.length := hT.ring.1
  have k2 := (hb1.cell (p := ⟨g', i * 4 + 2, none⟩) hgl).trans d2
  have k3 := (hb1.cell (p := ⟨g', i * 4 + 3, none⟩) hgl).trans d3
  have kf2 := (hb1.frozen (p := ⟨g', i * 4 + 2, none⟩) hgl).trans (df _)
  have kf3 := (hb1.frozen (p := ⟨g', i * 4 + 3, none⟩) hgl).trans (df _)
  have HK := Lib.hid (And.intro k2 (And.intro k3 (And.intro kf2 kf3)))
  have t0 : τ w.heap.size = 0 := Classical.byContradiction fun h' => absurd (h.tz _ h') (Nat.lt_irrefl _)
  have HT0 := Lib.hid t0
  obtain ⟨z0, z1, z2, zf⟩ := three_cells HZ.out
  have zf0 := zf 0
  have zf1 := zf 1
  have zf2 := zf 2
  unfold Sx.val at k2 k3
  dsimp only at k2 k3
  clear h hb1 hx hth hth' tg ht hT hgl hic d0 d1 d2 d3 df zf hsp hso hlp kf2 kf3 t0
  have HFIN := Lib.hid (fun (n er : Int) (s' : Ms) (W : World) (V : (Int × Int) × Ms) (hV : V = ((n, er), s')) (hP : MdP τ w1 b s' W) (hz : W.heap[w.heap.size]? = w1.heap[w.heap.size]?) => calls1 HZ.out HB1.out HS1.out HT0.out hV hP hz)
  cases hoff : x.ring with
  | nil =>
    rw [hoff] at hrn
    obtain rfl : rn = 0 := hrn
    have HV := Lib.hid (show popV s i x = ((0, 0), s) by unfold popV; rw [hoff])
    clear hoff k2 hon
    go_enter Tryz.func38, Tryz.ntmps38
    go_upto_region 1 with fail
    rw [← hw1]
    clear hw1
    go_wp2_with fail
    obtain ⟨⟨W3, rfl, r0, r1, r2, hF⟩, _⟩ := HFIN.out 0 0 s w1 _ HV.out (MdP.same ⟨c, tv, HM.out⟩ (Below.refl _ _)) rfl
    exact bodyPost_ret (v := .agg #[.int .i64 0, .int .i64 0, .slice none 0 0]) (by simp [results, Tryz.results38, go_sem, r0, r1, r2]) rfl hF
  | cons q r =>
    rw [hoff, List.length_cons] at hrn
    have hn0 : ((rn : Int) == 0) = false := by simp; omega
    have HV := Lib.hid (show popV s i x = if Batch.sumsE (s.staged ++ q) ≠ 0 then ((0, Batch.sumsE (s.staged ++ q)), s) else ((1, 0), { s with staged := Batch.sumsR (s.staged ++ q), th := s.th.set i { x with ring := r } }) by unfold popV; rw [hoff])
    have HMD := Lib.hid (HM.out.below (below_drewN (Below.refl w1.heap.size w1) 1))
    have hT1 := HMD.out.thr i _ x HTT.out HX.out
    obtain ⟨pa, pc, hpv, _⟩ := id HMD.out.staged.out
    have hq1 := hT1.ring
    rw [hoff] at hq1
    have HMV := Lib.hid (mdMove_any (g := g') (o := i * 4 + 3) (t := 5 + 2 * i) (b := b) (j := 5) (a := ⟨pa, s.staged.length, pc⟩) (A := s.staged) hq1 (by omega) HMD.out.tz HTG.out HMD.out.tb ((below_drewN (Below.refl w1.heap.size w1) 1).cell (p := ⟨g', i * 4 + 3, none⟩) (Lib.lt_of_cell HK.out.2.1) |>.trans HK.out.2.1) HK.out.2.2.2 (by rw [HMD.out.mc.c5, hpv]; rfl) (HMD.out.mc.free 5) (HMD.out.staged.imp fun W hW => by rw [hpv] at hW; exact hW) HSO.out.1 (HSO.out.2.1 q (by rw [hoff]; exact List.mem_cons_self ..)).1 (by have h1 := (HSO.out.2.1 q (by rw [hoff]; exact List.mem_cons_self ..)).2; have h2 := HSO.out.2.2; omega))
    by_cases hE : Batch.sumsE (s.staged ++ q) = 0
    · have HV := Lib.hid (show popV s i x = ((1, 0), { s with staged := Batch.sumsR (s.staged ++ q), th := s.th.set i { x with ring := r } }) by rw [HV.out, if_neg (fun h => h hE)])
      have HMV := Lib.hid (HMV.out.mono fun e w' hq => mvq_0 hq hE)
      clear hoff k2 hT1 hq1 hpv hE hon
      go_enter Tryz.func38, Tryz.ntmps38
      go_upto_region 1 with fail
      rw [← hw1]
      clear hw1
      go_upto_region 3 with fail
      clear z0 z1 z2 zf0 zf1 zf2 k3
      refine wp_region_held_drew (S := (fun _ => True)) (by kernel_rfl) ?_ (fun hHeld => ?_)
      · ((try dsimp only); first | done | trivial)
      refine wpAnyH_take (i := 0) (v := ?_) rfl (by kernel_rfl) (by kernel_rfl) (by kernel_rfl) (fun _ _ _ h => h) (Or.inl ⟨by rfl, ?_⟩) (by assumption) ?_
      rotate_left 1
      · (intro w hSw; (try dsimp only at hSw); first | (go_simp; done) | (go_simp; with_reducible rfl))
      try simp only [Act.put, List.setIfInBounds_toArray, List.set_cons_zero, List.set_cons_succ, List.getElem_toArray, List.getElem_cons_zero]
      refine wpAnyH_take (i := 1) (v := ?_) rfl (by kernel_rfl) (by kernel_rfl) (by kernel_rfl) (fun _ _ _ h => h) (Or.inl ⟨by rfl, ?_⟩) (by assumption) ?_
      rotate_left 1
      · (intro w hSw; (try dsimp only at hSw); first | (go_simp; done) | (go_simp; with_reducible rfl))
      try simp only [Act.put, List.setIfInBounds_toArray, List.set_cons_zero, List.set_cons_succ, List.getElem_toArray, List.getElem_cons_zero, List.getElem_cons_succ]
      refine wpAnyH_take (i := 2) (v := ?_) rfl (by kernel_rfl) (by kernel_rfl) (by kernel_rfl) (fun _ _ _ h => h) (Or.inl ⟨by rfl, ?_⟩) (by assumption) ?_
      rotate_left 1
      · (intro w hSw; (try dsimp only at hSw); first | (go_simp; done) | (go_simp; with_reducible rfl))
      try simp only [Act.put, List.setIfInBounds_toArray, List.set_cons_zero, List.set_cons_succ, List.getElem_toArray, List.getElem_cons_zero, List.getElem_cons_succ]
      refine wpAnyH_take (i := 3) (v := ?_) rfl (by kernel_rfl) (by kernel_rfl) (by kernel_rfl) (fun _ _ _ h => h) (Or.inl ⟨by rfl, ?_⟩) (by assumption) ?_
      rotate_left 1
      · (intro w hSw; (try dsimp only at hSw); first | (go_simp; done) | (go_simp; with_reducible rfl))
      try simp only [Act.put, List.setIfInBounds_toArray, List.set_cons_zero, List.set_cons_succ, List.getElem_toArray, List.getElem_cons_zero, List.getElem_cons_succ]
      refine wpAnyH_take (i := 4) (v := ?_) rfl (by kernel_rfl) (by kernel_rfl) (by kernel_rfl) (fun _ _ _ h => h) (Or.inl ⟨by rfl, ?_⟩) (by assumption) ?_
      rotate_left 1
      · (intro w hSw; (try dsimp only at hSw); first | (go_simp; done) | (go_simp; with_reducible rfl))
      try simp only [Act.put, List.setIfInBounds_toArray, List.set_cons_zero, List.set_cons_succ, List.getElem_toArray, List.getElem_cons_zero, List.getElem_cons_succ]
      refine wpAnyH_take (i := 5) (v := ?_) rfl (by kernel_rfl) (by kernel_rfl) (by kernel_rfl) (fun _ _ _ h => h) (Or.inl ⟨by rfl, ?_⟩) (by assumption) ?_
      rotate_left 1
      · (intro w hSw; (try dsimp only at hSw); first | (go_simp; done) | (go_simp; with_reducible rfl))
      try simp only [Act.put, List.setIfInBounds_toArray, List.set_cons_zero, List.set_cons_succ, List.getElem_toArray, List.getElem_cons_zero, List.getElem_cons_succ]
      refine wpAnyH_ready (rs := [6]) (by kernel_rfl) (by simp) ?_
      refine AllReadyH.cons rfl (fun K hK => ?_) AllReadyH.nil
      go_simp
      go_at_call 67
      refine HMV.out.mono ?_
      rintro e w3 ⟨rfl, τ', v, s'', hm⟩
      obtain ⟨⟨W3, rfl, r0, r1, r2, hF⟩, z0, z1, z2, zf⟩ := HFIN.out 1 0 _ w3 _ HV.out ⟨τ', HMD.out.pop1 HX.out HTH.out HTT.out hm, (StepM.below (below_drewN (Below.refl w1.heap.size w1) 1)).trans hm.st, fun _ => hm.c3 (by decide)⟩ (hm.oth _ (show w.heap.size < w1.heap.size by rw [HS1.out]; exact Nat.lt_succ_self _) (fun e => by have h1 := HM.out.tb; rw [← e, HT0.out] at h1; omega) (fun e => by have h1 := HTG.out; rw [← e, HT0.out] at h1; omega) (by rw [HT0.out]; omega))
      have zf0 := zf 0
      have zf1 := zf 1
      have zf2 := zf 2
      clear zf hm
      try go_wp2_with fail
      refine hK.out _ _ ?_ (fun hHeld => ?_)
      · ((try dsimp only); first | done | trivial)
      clear hK K
      try simp only [Act.put, List.setIfInBounds_toArray, List.set_cons_zero, List.set_cons_succ, List.getElem_toArray, List.getElem_cons_zero, List.getElem_cons_succ]
      refine wpAnyH_ready (rs := [7]) (by kernel_rfl) (by simp) ?_
      refine AllReadyH.cons rfl (fun K hK => ?_) AllReadyH.nil
      go_simp
      refine hK.out _ _ trivial (fun hHeld => ?_)
      clear hK K
      try simp only [Act.put, List.setIfInBounds_toArray, List.set_cons_zero, List.set_cons_succ, List.getElem_toArray, List.getElem_cons_zero, List.getElem_cons_succ]
      refine wpAnyH_done (by kernel_rfl) ?_ _
      go_wp2_with fail
      exact bodyPost_ret (v := .agg #[.int .i64 1, .int .i64 0, .slice none 0 0]) (by simp [results, Tryz.results38, go_sem, r0, r1, r2]) rfl hF
    · have HV := Lib.hid (show popV s i x = ((0, Batch.sumsE (s.staged ++ q)), s) by rw [HV.out, if_pos hE])
      have HMV := Lib.hid (HMV.out.mono fun e w' hq => mvq_1 hq hE)
      generalize Batch.sumsE (s.staged ++ q) = E at *
      clear hoff k2 hT1 hq1 hpv hE hon
      go_enter Tryz.func38, Tryz.ntmps38
      go_upto_region 1 with fail
      rw [← hw1]
      clear hw1
      go_upto_region 3 with fail
      clear z0 z1 z2 zf0 zf1 zf2 k3
      refine wp_region_held_drew (S := (fun _ => True)) (by kernel_rfl) ?_ (fun hHeld => ?_)
      · ((try dsimp only); first | done | trivial)
      refine wpAnyH_take (i := 0) (v := ?_) rfl (by kernel_rfl) (by kernel_rfl) (by kernel_rfl) (fun _ _ _ h => h) (Or.inl ⟨by rfl, ?_⟩) (by assumption) ?_
      rotate_left 1
      · (intro w hSw; (try dsimp only at hSw); first | (go_simp; done) | (go_simp; with_reducible rfl))
      try simp only [Act.put, List.setIfInBounds_toArray, List.set_cons_zero, List.set_cons_succ, List.getElem_toArray, List.getElem_cons_zero]
      refine wpAnyH_take (i := 1) (v := ?_) rfl (by kernel_rfl) (by kernel_rfl) (by kernel_rfl) (fun _ _ _ h => h) (Or.inl ⟨by rfl, ?_⟩) (by assumption) ?_
      rotate_left 1
      · (intro w hSw; (try dsimp only at hSw); first | (go_simp; done) | (go_simp; with_reducible rfl))
      try simp only [Act.put, List.setIfInBounds_toArray, List.set_cons_zero, List.set_cons_succ, List.getElem_toArray, List.getElem_cons_zero, List.getElem_cons_succ]
      refine wpAnyH_take (i := 2) (v := ?_) rfl (by kernel_rfl) (by kernel_rfl) (by kernel_rfl) (fun _ _ _ h => h) (Or.inl ⟨by rfl, ?_⟩) (by assumption) ?_
      rotate_left 1
      · (intro w hSw; (try dsimp only at hSw); first | (go_simp; done) | (go_simp; with_reducible rfl))
      try simp only [Act.put, List.setIfInBounds_toArray, List.set_cons_zero, List.set_cons_succ, List.getElem_toArray, List.getElem_cons_zero, List.getElem_cons_succ]
      refine wpAnyH_take (i := 3) (v := ?_) rfl (by kernel_rfl) (by kernel_rfl) (by kernel_rfl) (fun _ _ _ h => h) (Or.inl ⟨by rfl, ?_⟩) (by assumption) ?_
      rotate_left 1
      · (intro w hSw; (try dsimp only at hSw); first | (go_simp; done) | (go_simp; with_reducible rfl))
      try simp only [Act.put, List.setIfInBounds_toArray, List.set_cons_zero, List.set_cons_succ, List.getElem_toArray, List.getElem_cons_zero, List.getElem_cons_succ]
      refine wpAnyH_take (i := 4) (v := ?_) rfl (by kernel_rfl) (by kernel_rfl) (by kernel_rfl) (fun _ _ _ h => h) (Or.inl ⟨by rfl, ?_⟩) (by assumption) ?_
      rotate_left 1
      · (intro w hSw; (try dsimp only at hSw); first | (go_simp; done) | (go_simp; with_reducible rfl))
      try simp only [Act.put, List.setIfInBounds_toArray, List.set_cons_zero, List.set_cons_succ, List.getElem_toArray, List.getElem_cons_zero, List.getElem_cons_succ]
      refine wpAnyH_take (i := 5) (v := ?_) rfl (by kernel_rfl) (by kernel_rfl) (by kernel_rfl) (fun _ _ _ h => h) (Or.inl ⟨by rfl, ?_⟩) (by assumption) ?_
      rotate_left 1
      · (intro w hSw; (try dsimp only at hSw); first | (go_simp; done) | (go_simp; with_reducible rfl))
      try simp only [Act.put, List.setIfInBounds_toArray, List.set_cons_zero, List.set_cons_succ, List.getElem_toArray, List.getElem_cons_zero, List.getElem_cons_succ]
      refine wpAnyH_ready (rs := [6]) (by kernel_rfl) (by simp) ?_
      refine AllReadyH.cons rfl (fun K hK => ?_) AllReadyH.nil
      go_simp
      go_at_call 67
      refine HMV.out.mono ?_
      rintro e w3 ⟨rfl, hb⟩
      obtain ⟨⟨W3, rfl, r0, r1, r2, hF⟩, z0, z1, z2, zf⟩ := HFIN.out 0 E s w3 _ HV.out (MdP.same ⟨c, tv, HM.out⟩ ((below_drewN (Below.refl w1.heap.size w1) 1).trans hb)) (hb.block _ (show w.heap.size < w1.heap.size by rw [HS1.out]; exact Nat.lt_succ_self _))
      have zf0 := zf 0
      have zf1 := zf 1
      have zf2 := zf 2
      clear zf hb
      try go_wp2_with fail
      refine hK.out _ _ ?_ (fun hHeld => ?_)
      · ((try dsimp only); first | done | trivial)
      clear hK K
      try simp only [Act.put, List.setIfInBounds_toArray, List.set_cons_zero, List.set_cons_succ, List.getElem_toArray, List.getElem_cons_zero, List.getElem_cons_succ]
      refine wpAnyH_ready (rs := [7]) (by kernel_rfl) (by simp) ?_
      refine AllReadyH.cons rfl (fun K hK => ?_) AllReadyH.nil
      go_simp
      refine hK.out _ _ trivial (fun hHeld => ?_)
      clear hK K
      try simp only [Act.put, List.setIfInBounds_toArray, List.set_cons_zero, List.set_cons_succ, List.getElem_toArray, List.getElem_cons_zero, List.getElem_cons_succ]
      refine wpAnyH_done (by kernel_rfl) ?_ _
      go_wp2_with fail
      exact bodyPost_ret (v := .agg #[.int .i64 0, .int .i64 E, .slice none 0 0]) (by simp [results, Tryz.results38, go_sem, r0, r1, r2]) rfl hF
end
end Go.Proofs.YtdllgeanmlmmfaaGreatDoor.Md
