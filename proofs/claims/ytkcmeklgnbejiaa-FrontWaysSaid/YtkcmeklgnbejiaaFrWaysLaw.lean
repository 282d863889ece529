
/-
  PACKAGE marchlandlaw06: FrontWays.
-/
import Derived.Test.YtkcmeklgnbejiaaFrLaw
import Derived.Deep.RegionHeldLaw
namespace Go.Proofs.Ytkcmeklgnbejiaa.Fr
open Go.RowKit Go.Deep Gr
set_option linter.unusedVariables false
set_option linter.unusedSimpArgs false

theorem avalF (n : Int) (k : Nat) (h1 : 1 ≤ k) (h9 : k ≤ 64) : ∃ a : Nat, a < k ∧ IntKind.i64.wrap ((IntKind.u64.wrap n).tmod (k : Int)) = (a : Int) ∧ wrap64 ((IntKind.u64.wrap n).tmod (k : Int)) = (a : Int) := by
  have h2 := Int.tmod_nonneg (k : Int) (u64_range n).1
  have h3 := Int.tmod_lt_of_pos (IntKind.u64.wrap n) (show (0 : Int) < (k : Int) by omega)
  refine ⟨((IntKind.u64.wrap n).tmod (k : Int)).toNat, by omega, ?_, ?_⟩
  · rw [i64_id (by omega) (by omega)]; omega
  · unfold wrap64; omega
theorem plusN_zero {t : Int} (h0 : 0 ≤ t) (h1 : t < 18446744073709551615) : plusN t 0 = t := by unfold plusN; rw [if_neg (by omega)]; omega
set_option maxRecDepth 1000000 in
set_option maxHeartbeats 16000000 in
theorem fways_any {w : World} {ve vi : Value} {E : List Ed} {I : List Int} (n : Int) (hg : GMemP w ve vi E I) (port t : Int) (ht : 0 ≤ t ∧ t ≤ 18446744073709551615) :
    Calls Try.prog 9 #[.agg #[.int .i64 n, ve, vi], .int .i64 port, .int .u64 t] w fun e w' => e = .returned (.bool true) ∧ Below w.heap.size w w' := by
  obtain ⟨⟨ao, cap, rfl, _⟩, ⟨aoi, capi, rfl, _⟩⟩ := And.intro hg.ed hg.inp
  obtain ⟨w0, hw0⟩ : ∃ w0, w0 = w.alloc (.cells #[.int .i64 n, .slice ao E.length cap, .slice aoi I.length capi] 54) := ⟨_, rfl⟩
  have hb0 : Below w.heap.size w w0 := by rw [hw0]; exact (Below.refl _ _).alloc (Nat.le_refl _) _
  have hs0 : w0.heap.size = w.heap.size + 1 := by rw [hw0]; simp
  have hx0 : w0.heap[w.heap.size]? = some (.cells #[.int .i64 n, .slice ao E.length cap, .slice aoi I.length capi] 54 (0, 0)) := by rw [hw0]; exact heap_alloc_new w _
  have HG := Lib.hid (show GMemP w0 (.slice ao E.length cap) (.slice aoi I.length capi) E I from hg.below hb0)
  have HX0 := Lib.hid hx0
  have HB0 := Lib.hid hb0
  have HS0 := Lib.hid hs0
  clear hg hb0 hs0 hx0
  go_enter Try.func9, Try.ntmps9
  go_wp2_with fail
  go_at_call 27
  rw [← hw0]
  clear hw0
  refine (gfix_any n HG.out).mono ?_
  rintro e w1 ⟨m, ve1, vi1, E1, I1, hm6, hl12, rfl, hgm, hoe, hoi, hok, hb⟩
  obtain ⟨aoE, capE, rfl⟩ := formE hoe
  obtain ⟨aoI, capI, rfl⟩ := hoi.form
  have HM6 := Lib.hid (show 1 ≤ m ∧ m ≤ 64 from ⟨hok.n0, hok.n1⟩)
  have HL12 := Lib.hid (show E1.length ≤ 12 ∧ I1.length ≤ 8 from ⟨hl12, inlenF hok⟩)
  have HOK := Lib.hid hok
  have HOE := Lib.hid hoe
  have HOI := Lib.hid hoi
  have HWE := Lib.hid (And.intro hgm.ed.wf hgm.inp.wf)
  have HB1 := Lib.hid hb
  clear hm6 hl12 hgm hoe hoi hok HG
  have hb2 : Below (w.heap.size + 1) w0 w1 := HB1.out.mono (by rw [HS0.out]; exact Nat.le_refl _)
  have hx1 := (hb2.block _ (Nat.lt_succ_self _)).trans HX0.out
  obtain ⟨y0, y1, y2, yf⟩ := three_cells hx1
  have yf0 := yf 0
  have yf1 := yf 1
  have yf2 := yf 2
  have hr1 := heap_setCell_same w1 w.heap.size 0 _ _ (.int .i64 (m : Int)) hx1
  have hr2 := heap_setCell_same _ w.heap.size 1 _ _ (.slice aoE E1.length capE) hr1
  have hr3 := heap_setCell_same _ w.heap.size 2 _ _ (.slice aoI I1.length capI) hr2
  have hbe := World.ownsRow.lt HOE.out
  have hbi := World.ownsRow.lt HOI.out
  rw [HS0.out] at hbe hbi
  obtain ⟨w2, hw2⟩ : ∃ w2, w2 = ((w1.setCell ⟨w.heap.size, 0, none⟩ (.int .i64 (m : Int))).setCell ⟨w.heap.size, 1, none⟩ (.slice aoE E1.length capE)).setCell ⟨w.heap.size, 2, none⟩ (.slice aoI I1.length capI) := ⟨_, rfl⟩
  have hoe2 : Own w2 (w0.heap.size + 3) 83 (.slice aoE E1.length capE) E1 := by
    rw [hw2]
    exact ownsRow_setCell_other (ownsRow_setCell_other (ownsRow_setCell_other HOE.out (fun e => by have h := (hbe _ e).1; dsimp only at h; omega) _) (fun e => by have h := (hbe _ e).1; dsimp only at h; omega) _) (fun e => by have h := (hbe _ e).1; dsimp only at h; omega) _
  have hoi2 : OwnI w2 (w0.heap.size + 3) 3 (.slice aoI I1.length capI) I1 := by
    rw [hw2]
    exact ownsRow_setCell_other (ownsRow_setCell_other (ownsRow_setCell_other HOI.out (fun e => by have h := (hbi _ e).1; dsimp only at h; omega) _) (fun e => by have h := (hbi _ e).1; dsimp only at h; omega) _) (fun e => by have h := (hbi _ e).1; dsimp only at h; omega) _
  have HGE := Lib.hid (show GMemP w2 (.slice aoE E1.length capE) (.slice aoI I1.length capI) E1 I1 from ⟨hoe2.rd HWE.out.1, hoi2.rd HWE.out.2⟩)
  have HB := Lib.hid (show Below w.heap.size w w2 by rw [hw2]; exact (((HB0.out.trans (hb2.mono (Nat.le_succ _))).setCell (Nat.le_refl _) _).setCell (Nat.le_refl _) _).setCell (Nat.le_refl _) _)
  have HX := Lib.hid (show w2.heap[w.heap.size]? = some (.cells #[.int .i64 (m : Int), .slice aoE E1.length capE, .slice aoI I1.length capI] 54 (0, 0)) by rw [hw2]; simpa using hr3)
  clear hb hb2 hx1 yf hr1 hr2 hr3 hbe hbi hoe2 hoi2 HX0 HS0 HB0 HB1 HOE HOI
  go_upto_region 2 with fail
  rw [← hw2]
  clear hw2 y0 y1 y2 yf0 yf1 yf2
  obtain ⟨x0, x1, x2, _⟩ := three_cells HX.out
  obtain ⟨pn, hpm, hp1, hp2⟩ := avalF port m HM6.out.1 HM6.out.2
  have hmu : IntKind.u64.wrap (m : Int) = (m : Int) := u64_id (by omega) (by have := HM6.out; omega)
  have hmz : ¬ m = 0 := by have := HM6.out; omega
  obtain ⟨U, hU⟩ : ∃ U, U = t.tmod 18446744073709551615 := ⟨_, rfl⟩
  have hU0 : 0 ≤ U := by rw [hU]; exact Int.tmod_nonneg _ ht.1
  have hU1 : U < 18446744073709551615 := by rw [hU]; exact Int.tmod_lt_of_pos _ (by decide)
  have hU2 : t.tmod 18446744073709551615 = U := hU.symm
  have HUU := Lib.hid (And.intro hU0 hU1)
  have HPM := Lib.hid hpm
  clear hU hU0 hU1 hpm ht
  go_wp2_with fail
  go_at_call 29
  refine (gto_any (m : Int) HGE.out (by have := HL12.out; omega) (by have := HL12.out; omega)).mono ?_
  rintro e w3 ⟨ve3, vi3, rfl, hg3, hb⟩
  have HG3 := Lib.hid hg3
  replace HGE := Lib.hid (HGE.out.below hb)
  replace HX := Lib.hid ((hb.block _ (Array.getElem?_eq_some_iff.1 HX.out).1).trans HX.out)
  replace HB := Lib.hid (HB.out.trans (hb.mono HB.out.size))
  clear hg3 hb x0 x1 x2
  go_wp2_with fail
  go_at_call 28
  refine (paths_any HG3.out.ed HG3.out.inp HOK.out).mono ?_
  rintro e w5 ⟨v5, M, rfl, hmat, hls, hb⟩
  obtain ⟨gp, rp, rfl, hmf⟩ := hmat
  have HMAT := Lib.hid (show Mat w5 w3.heap.size (.slice (some ⟨gp, 0, none⟩) m m) m M from ⟨gp, rp, rfl, hmf⟩)
  have HLS := Lib.hid hls
  replace HX := Lib.hid ((hb.block _ (Array.getElem?_eq_some_iff.1 HX.out).1).trans HX.out)
  replace HB := Lib.hid (HB.out.trans (hb.mono HB.out.size))
  have HMF := Lib.hid hmf
  clear hmf hls hb HG3 HGE hp1 hp2 hmu hmz hU2
  go_wp2_with fail
  have hw4 : ∃ w4, w4 = w5.alloc (.cells #[.int .i64 (pn : Int), .int .u64 U, .int .i64 1] 46) := ⟨_, rfl⟩
  obtain ⟨w4, hw4⟩ := hw4
  have hb4 : Below w5.heap.size w5 w4 := by rw [hw4]; exact (Below.refl _ _).alloc (Nat.le_refl _) _
  have hwf : ∀ x ∈ [(⟨(pn : Int), U, 1⟩ : Batch.Ch)], x.Wf := by
    intro x hx
    simp at hx
    subst hx
    have := HUU.out
    have := HPM.out
    have := HM6.out
    exact ⟨by dsimp only; omega, by dsimp only; omega, by dsimp only; omega, by dsimp only; omega, by dsimp only; omega, by dsimp only; omega⟩
  have hs4 : Batch.Sl w4 (.slice (some ⟨w5.heap.size, 0, none⟩) 1 1) [⟨(pn : Int), U, 1⟩] := by rw [hw4]; exact Batch.sl_new w5 [⟨(pn : Int), U, 1⟩] 46 hwf (by simp)
  go_at_call 32
  rw [← hw4]
  clear hw4
  refine (of_any ((HMAT.out.below hb4).base (Nat.zero_le _)) (m_bd HLS.out) hs4 (by simp) (by simp) HM6.out.1 HM6.out.2).mono ?_
  rintro e w6 ⟨g1, F, rfl, _, hrow, hfr, hb⟩
  have HF := Lib.hid (show ∀ i, i < m → F i = plusN U (M pn i) from fun i hi => by
    have h := front_one (hfr i hi) (by dsimp only; omega) (by have := HPM.out; dsimp only; omega) (plusN_le (by have := HUU.out; dsimp only; omega)).1
    simpa using h)
  have HROW := Lib.hid hrow
  replace HX := Lib.hid ((hb4.block _ (Array.getElem?_eq_some_iff.1 HX.out).1).trans HX.out)
  replace HX := Lib.hid ((hb.block _ (Array.getElem?_eq_some_iff.1 HX.out).1).trans HX.out)
  replace HMF := Lib.hid ((HMF.out.below hb4).below hb)
  replace HB := Lib.hid (HB.out.trans (hb4.mono HB.out.size))
  replace HB := Lib.hid (HB.out.trans (hb.mono HB.out.size))
  clear hb4 hwf hs4 hrow hfr hb HMAT
  obtain ⟨w5, rfl⟩ : ∃ w5', w5' = w6 := ⟨_, rfl⟩
  have HS3 := Lib.hid (show ∀ W, Below w5.heap.size w5 W → (W.cell? ⟨w.heap.size, 0, none⟩ = some (.int .i64 (m : Int)) ∧ W.cell? ⟨gp, pn, none⟩ = some (.slice (some ⟨rp pn, 0, none⟩) m m)) from fun W h => by
    obtain ⟨q0, q1, q2, _⟩ := three_cells ((h.block _ (Array.getElem?_eq_some_iff.1 HX.out).1).trans HX.out)
    exact ⟨q0, (HMF.out.below h).top.cell HPM.out⟩)
  have hpn0 : (0 : Int) ≤ (pn : Int) := Int.natCast_nonneg _
  have hpn1 : (pn : Int) < (m : Int) := by have := HPM.out; omega
  go_upto_region 6 with fail
  refine wp_region_held_drew (S := (fun w' => w'.cell? ⟨w.heap.size, 0, none⟩ = some (.int .i64 (m : Int)) ∧ w'.cell? ⟨gp, pn, none⟩ = some (.slice (some ⟨rp pn, 0, none⟩) m m))) (by kernel_rfl) ?_ (fun hHeld => ?_)
  · exact HS3.out _ ((Below.refl _ _).drew)
  have HK := Lib.hid ((Below.refl w5.heap.size w5).drew)
  refine wpAnyH_ready (rs := [0]) (by kernel_rfl) (by simp) ?_
  refine AllReadyH.cons rfl (fun K hK => ?_) AllReadyH.nil
  go_simp
  go_at_call 30
  refine (frtold_any _).mono ?_
  rintro e wk ⟨rfl, hcb⟩
  replace HK := Lib.hid (HK.out.trans (hcb.mono HK.out.size))
  clear hcb
  try go_wp2_with fail
  refine hK.out _ _ ?_ (fun hHeld => ?_)
  · exact HS3.out _ HK.out
  clear hK K
  try simp only [Act.put, List.setIfInBounds_toArray, List.set_cons_zero, List.set_cons_succ, List.getElem_toArray, List.getElem_cons_zero]
  refine wpAnyH_take (i := 1) (v := ?_) rfl (by kernel_rfl) (by kernel_rfl) (by kernel_rfl) (fun _ _ _ h => h) (Or.inl ⟨by rfl, ?_⟩) (by assumption) ?_
  rotate_left 1
  · (intro w hSw; (try dsimp only at hSw); first | (go_simp; done) | (go_simp; with_reducible rfl))
  try simp only [Act.put, List.setIfInBounds_toArray, List.set_cons_zero, List.set_cons_succ, List.getElem_toArray, List.getElem_cons_zero, List.getElem_cons_succ]
  refine wpAnyH_take (i := 2) (v := ?_) rfl (by kernel_rfl) (by kernel_rfl) (by kernel_rfl) (fun _ _ _ h => h) (Or.inl ⟨by rfl, ?_⟩) (by assumption) ?_
  rotate_left 1
  · (intro w hSw; (try dsimp only at hSw); first | (go_simp; done) | (go_simp; with_reducible rfl))
  try simp only [Act.put, List.setIfInBounds_toArray, List.set_cons_zero, List.set_cons_succ, List.getElem_toArray, List.getElem_cons_zero, List.getElem_cons_succ]
  refine wpAnyH_take (i := 3) (v := ?_) rfl (by kernel_rfl) (by kernel_rfl) (by kernel_rfl) (fun _ _ _ h => h) (Or.inl ⟨by rfl, ?_⟩) (by assumption) ?_
  rotate_left 1
  · (intro w hSw; (try dsimp only at hSw); first | (go_simp; done) | (go_simp; with_reducible rfl))
  try simp only [Act.put, List.setIfInBounds_toArray, List.set_cons_zero, List.set_cons_succ, List.getElem_toArray, List.getElem_cons_zero, List.getElem_cons_succ]
  refine wpAnyH_take (i := 4) (v := ?_) rfl (by kernel_rfl) (by kernel_rfl) (by kernel_rfl) (fun _ _ _ h => h) (Or.inl ⟨by rfl, ?_⟩) (by assumption) ?_
  rotate_left 1
  · (intro w hSw; (try dsimp only at hSw); first | (go_simp; done) | (go_simp; with_reducible rfl))
  try simp only [Act.put, List.setIfInBounds_toArray, List.set_cons_zero, List.set_cons_succ, List.getElem_toArray, List.getElem_cons_zero, List.getElem_cons_succ]
  refine wpAnyH_take (i := 5) (v := ?_) rfl (by kernel_rfl) (by kernel_rfl) (by kernel_rfl) (fun _ _ _ h => h) (Or.inl ⟨by rfl, ?_⟩) (by assumption) ?_
  rotate_left 1
  · (intro w hSw; (try dsimp only at hSw); first | (go_simp; done) | (go_simp; with_reducible rfl))
  try simp only [Act.put, List.setIfInBounds_toArray, List.set_cons_zero, List.set_cons_succ, List.getElem_toArray, List.getElem_cons_zero, List.getElem_cons_succ]
  refine wpAnyH_take (i := 6) (v := ?_) rfl (by kernel_rfl) (by kernel_rfl) (by kernel_rfl) (fun _ _ _ h => h) (Or.inl ⟨by rfl, ?_⟩) (by assumption) ?_
  rotate_left 1
  · (intro w hSw; (try dsimp only at hSw); first | (go_simp; done) | (go_simp; with_reducible rfl))
  try simp only [Act.put, List.setIfInBounds_toArray, List.set_cons_zero, List.set_cons_succ, List.getElem_toArray, List.getElem_cons_zero, List.getElem_cons_succ]
  refine wpAnyH_take (i := 7) (v := ?_) rfl (by kernel_rfl) (by kernel_rfl) (by kernel_rfl) (fun _ _ _ h => h) (Or.inl ⟨by rfl, ?_⟩) (by assumption) ?_
  rotate_left 1
  · (intro w hSw; (try dsimp only at hSw); first | (go_simp; done) | (go_simp; with_reducible rfl))
  try simp only [Act.put, List.setIfInBounds_toArray, List.set_cons_zero, List.set_cons_succ, List.getElem_toArray, List.getElem_cons_zero, List.getElem_cons_succ]
  refine wpAnyH_take (i := 8) (v := ?_) rfl (by kernel_rfl) (by kernel_rfl) (by kernel_rfl) (fun _ _ _ h => h) (Or.inl ⟨by rfl, ?_⟩) (by assumption) ?_
  rotate_left 1
  · (intro w hSw; (try dsimp only at hSw); first | (go_simp; done) | (go_simp; with_reducible rfl))
  try simp only [Act.put, List.setIfInBounds_toArray, List.set_cons_zero, List.set_cons_succ, List.getElem_toArray, List.getElem_cons_zero, List.getElem_cons_succ]
  refine wpAnyH_take (i := 9) (v := ?_) rfl (by kernel_rfl) (by kernel_rfl) (by kernel_rfl) (fun _ _ _ h => h) (Or.inl ⟨by rfl, ?_⟩) (by assumption) ?_
  rotate_left 1
  · (intro w hSw; (try dsimp only at hSw); first | (go_simp; done) | (go_simp; with_reducible rfl))
  try simp only [Act.put, List.setIfInBounds_toArray, List.set_cons_zero, List.set_cons_succ, List.getElem_toArray, List.getElem_cons_zero, List.getElem_cons_succ]
  refine wpAnyH_take (i := 10) (v := ?_) rfl (by kernel_rfl) (by kernel_rfl) (by kernel_rfl) (fun _ _ _ h => h) (Or.inl ⟨by rfl, ?_⟩) (by assumption) ?_
  rotate_left 1
  · (intro w hSw; (try dsimp only at hSw); first | (go_simp; done) | (go_simp; with_reducible rfl))
  try simp only [Act.put, List.setIfInBounds_toArray, List.set_cons_zero, List.set_cons_succ, List.getElem_toArray, List.getElem_cons_zero, List.getElem_cons_succ]
  refine wpAnyH_take (i := 11) (v := ?_) rfl (by kernel_rfl) (by kernel_rfl) (by kernel_rfl) (fun _ _ _ h => h) (Or.inl ⟨by rfl, ?_⟩) (by assumption) ?_
  rotate_left 1
  · (intro w hSw; (try dsimp only at hSw); first | (go_simp; done) | (go_simp; with_reducible rfl))
  try simp only [Act.put, List.setIfInBounds_toArray, List.set_cons_zero, List.set_cons_succ, List.getElem_toArray, List.getElem_cons_zero, List.getElem_cons_succ]
  refine wpAnyH_take (i := 12) (v := ?_) rfl (by kernel_rfl) (by kernel_rfl) (by kernel_rfl) (fun _ _ _ h => h) (Or.inl ⟨by rfl, ?_⟩) (by assumption) ?_
  rotate_left 1
  · (intro w hSw; (try dsimp only at hSw); first | (go_simp; done) | (go_simp; with_reducible rfl))
  try simp only [Act.put, List.setIfInBounds_toArray, List.set_cons_zero, List.set_cons_succ, List.getElem_toArray, List.getElem_cons_zero, List.getElem_cons_succ]
  refine wpAnyH_take (i := 13) (v := ?_) rfl (by kernel_rfl) (by kernel_rfl) (by kernel_rfl) (fun _ _ _ h => h) (Or.inl ⟨by rfl, ?_⟩) (by assumption) ?_
  rotate_left 1
  · (intro w hSw; (try dsimp only at hSw); first | (go_simp; done) | (go_simp; with_reducible rfl))
  try simp only [Act.put, List.setIfInBounds_toArray, List.set_cons_zero, List.set_cons_succ, List.getElem_toArray, List.getElem_cons_zero, List.getElem_cons_succ]
  refine wpAnyH_take (i := 14) (v := ?_) rfl (by kernel_rfl) (by kernel_rfl) (by kernel_rfl) (fun _ _ _ h => h) (Or.inl ⟨by rfl, ?_⟩) (by assumption) ?_
  rotate_left 1
  · (intro w hSw; (try dsimp only at hSw); first | (go_simp; done) | (go_simp; with_reducible rfl))
  try simp only [Act.put, List.setIfInBounds_toArray, List.set_cons_zero, List.set_cons_succ, List.getElem_toArray, List.getElem_cons_zero, List.getElem_cons_succ]
  refine wpAnyH_take (i := 15) (v := ?_) rfl (by kernel_rfl) (by kernel_rfl) (by kernel_rfl) (fun _ _ _ h => h) (Or.inl ⟨by rfl, ?_⟩) (by assumption) ?_
  rotate_left 1
  · (intro w hSw; (try dsimp only at hSw); first | (go_simp; done) | (go_simp; with_reducible rfl))
  try simp only [Act.put, List.setIfInBounds_toArray, List.set_cons_zero, List.set_cons_succ, List.getElem_toArray, List.getElem_cons_zero, List.getElem_cons_succ]
  refine wpAnyH_take (i := 16) (v := ?_) rfl (by kernel_rfl) (by kernel_rfl) (by kernel_rfl) (fun _ _ _ h => h) (Or.inl ⟨by rfl, ?_⟩) (by assumption) ?_
  rotate_left 1
  · (intro w hSw; (try dsimp only at hSw); first | (go_simp; done) | (go_simp; with_reducible rfl))
  try simp only [Act.put, List.setIfInBounds_toArray, List.set_cons_zero, List.set_cons_succ, List.getElem_toArray, List.getElem_cons_zero, List.getElem_cons_succ]
  refine wpAnyH_take (i := 17) (v := ?_) rfl (by kernel_rfl) (by kernel_rfl) (by kernel_rfl) (fun _ _ _ h => h) (Or.inl ⟨by rfl, ?_⟩) (by assumption) ?_
  rotate_left 1
  · (intro w hSw; (try dsimp only at hSw); first | (go_simp; done) | (go_simp; with_reducible rfl))
  try simp only [Act.put, List.setIfInBounds_toArray, List.set_cons_zero, List.set_cons_succ, List.getElem_toArray, List.getElem_cons_zero, List.getElem_cons_succ]
  refine wpAnyH_take (i := 18) (v := ?_) rfl (by kernel_rfl) (by kernel_rfl) (by kernel_rfl) (fun _ _ _ h => h) (Or.inl ⟨by rfl, ?_⟩) (by assumption) ?_
  rotate_left 1
  · (intro w hSw; (try dsimp only at hSw); first | (go_simp; done) | (go_simp; with_reducible rfl))
  try simp only [Act.put, List.setIfInBounds_toArray, List.set_cons_zero, List.set_cons_succ, List.getElem_toArray, List.getElem_cons_zero, List.getElem_cons_succ]
  refine wpAnyH_take (i := 19) (v := ?_) rfl (by kernel_rfl) (by kernel_rfl) (by kernel_rfl) (fun _ _ _ h => h) (Or.inl ⟨by rfl, ?_⟩) (by assumption) ?_
  rotate_left 1
  · (intro w hSw; (try dsimp only at hSw); first | (go_simp; done) | (go_simp; with_reducible rfl))
  try simp only [Act.put, List.setIfInBounds_toArray, List.set_cons_zero, List.set_cons_succ, List.getElem_toArray, List.getElem_cons_zero, List.getElem_cons_succ]
  refine wpAnyH_take (i := 20) (v := ?_) rfl (by kernel_rfl) (by kernel_rfl) (by kernel_rfl) (fun _ _ _ h => h) (Or.inl ⟨by rfl, ?_⟩) (by assumption) ?_
  rotate_left 1
  · (intro w hSw; (try dsimp only at hSw); first | (go_simp; done) | (go_simp; with_reducible rfl))
  try simp only [Act.put, List.setIfInBounds_toArray, List.set_cons_zero, List.set_cons_succ, List.getElem_toArray, List.getElem_cons_zero, List.getElem_cons_succ]
  refine wpAnyH_take (i := 21) (v := ?_) rfl (by kernel_rfl) (by kernel_rfl) (by kernel_rfl) (fun _ _ _ h => h) (Or.inl ⟨by rfl, ?_⟩) (by assumption) ?_
  rotate_left 1
  · (intro w hSw; (try dsimp only at hSw); first | (go_simp; done) | (go_simp; with_reducible rfl))
  try simp only [Act.put, List.setIfInBounds_toArray, List.set_cons_zero, List.set_cons_succ, List.getElem_toArray, List.getElem_cons_zero, List.getElem_cons_succ]
  refine wpAnyH_take (i := 22) (v := ?_) rfl (by kernel_rfl) (by kernel_rfl) (by kernel_rfl) (fun _ _ _ h => h) (Or.inl ⟨by rfl, ?_⟩) (by assumption) ?_
  rotate_left 1
  · (intro w hSw; (try dsimp only at hSw); first | (go_simp; done) | (go_simp; with_reducible rfl))
  try simp only [Act.put, List.setIfInBounds_toArray, List.set_cons_zero, List.set_cons_succ, List.getElem_toArray, List.getElem_cons_zero, List.getElem_cons_succ]
  refine wpAnyH_take (i := 23) (v := ?_) rfl (by kernel_rfl) (by kernel_rfl) (by kernel_rfl) (fun _ _ _ h => h) (Or.inl ⟨by rfl, ?_⟩) (by assumption) ?_
  rotate_left 1
  · (intro w hSw; (try dsimp only at hSw); first | (go_simp; done) | (go_simp; with_reducible rfl))
  try simp only [Act.put, List.setIfInBounds_toArray, List.set_cons_zero, List.set_cons_succ, List.getElem_toArray, List.getElem_cons_zero, List.getElem_cons_succ]
  refine wpAnyH_take (i := 24) (v := ?_) rfl (by kernel_rfl) (by kernel_rfl) (by kernel_rfl) (fun _ _ _ h => h) (Or.inl ⟨by rfl, ?_⟩) (by assumption) ?_
  rotate_left 1
  · (intro w hSw; (try dsimp only at hSw); first | (go_simp; done) | (go_simp; with_reducible rfl))
  try simp only [Act.put, List.setIfInBounds_toArray, List.set_cons_zero, List.set_cons_succ, List.getElem_toArray, List.getElem_cons_zero, List.getElem_cons_succ]
  refine wpAnyH_take (i := 25) (v := ?_) rfl (by kernel_rfl) (by kernel_rfl) (by kernel_rfl) (fun _ _ _ h => h) (Or.inl ⟨by rfl, ?_⟩) (by assumption) ?_
  rotate_left 1
  · (intro w hSw; (try dsimp only at hSw); first | (go_simp; done) | (go_simp; with_reducible rfl))
  try simp only [Act.put, List.setIfInBounds_toArray, List.set_cons_zero, List.set_cons_succ, List.getElem_toArray, List.getElem_cons_zero, List.getElem_cons_succ]
  refine wpAnyH_done (by kernel_rfl) ?_ _
  go_wp2_with fail
  go_loopg [11] m (fun k t wr => ∃ i : Nat, i + k = m ∧ t = .int .i64 (i : Int) ∧ Below w5.heap.size w5 wr)
  case atStart => exact ⟨0, by omega, rfl, HK.out⟩
  case round =>
    obtain ⟨i, him, rfl, hbw⟩ := hrel
    have HIM := Lib.hid him
    have HBW := Lib.hid hbw
    obtain ⟨x0, p0⟩ := HS3.out _ hbw
    clear him hbw
    by_cases hi : i < m
    · have hi0 : (0 : Int) ≤ (i : Int) := Int.natCast_nonneg _
      have hi1 : (i : Int) < (m : Int) := by omega
      have hm64 : (m : Int) ≤ 64 := by have := HM6.out; omega
      have f0 := (HROW.out.of_block (HBW.out.block _ HROW.out.lt)).cell hi
      have r0 := ((HMF.out.below HBW.out).row pn HPM.out).cell hi
      rw [HF.out i hi] at f0
      have HU2 := Lib.hid (HLS.out pn i HPM.out hi).1.1
      obtain ⟨m1, hm1⟩ : ∃ z, z = M pn i := ⟨_, rfl⟩
      rw [← hm1] at f0 r0 HU2
      obtain ⟨ps, hps⟩ : ∃ z, z = plusN U m1 := ⟨_, rfl⟩
      have HPS := Lib.hid (fun W => refplus_still U m1 ⟨HUU.out.1, by have := HUU.out; omega⟩ HU2.out W)
      rw [← hps] at f0 HPS
      have HI := Lib.hid hi
      clear hi hm1 hps
      go_wp2_with fail
      go_quiet ((go_at_call 36; exact Calls.quiet_of_same (HPS.out _)))
      go_wp2_with fail
      go_roundg (m - (i + 1))
      case measure => have := HIM.out; have := HI.out; omega
      case rel => exact ⟨i + 1, by have := HIM.out; have := HI.out; omega, by go_num, below_drewN HBW.out _⟩
    · have f0 := (HROW.out.of_block (HBW.out.block _ HROW.out.lt)).cell HPM.out
      rw [HF.out pn HPM.out, (HLS.out pn pn HPM.out HPM.out).one (least_here HOK.out.fits (pn : Int)), plusN_zero HUU.out.1 HUU.out.2] at f0
      go_wp2_with fail
      go_ret
      exact ⟨by simp, HB.out.trans (HBW.out.mono HB.out.size)⟩
end Go.Proofs.Ytkcmeklgnbejiaa.Fr
