/-
  PACKAGE model: New of a right Plan. (gen/mdnew.py)
-/
import Derived.Test.YtdllgeanmlmmfaaGreatDoorJoined15
import Derived.Test.YtdllgeanmlmmfaaGreatDoorJoined28
import Derived.Laws.Build
import Derived.Deep.CutRange
namespace Go.Proofs.YtdllgeanmlmmfaaGreatDoor.Md
open Go.RowKit Gr Cl Go.Deep
set_option linter.unusedVariables false
set_option linter.unusedSimpArgs false

set_option maxRecDepth 1000000 in
set_option maxHeartbeats 64000000 in
theorem mdNew_ok {w : World} {ve vi : Value} {E : List Ed} {I : List Int} {p T : Nat} (R S K : Int) (hv : Rd w ve E) (hi : RdI w vi I) (hok : (planV (p : Int) E I (T : Int) R S K).2 = 0) (hg : GOk p E I) (hp : p ≤ 64) (hT : 1 ≤ T ∧ T ≤ 8) (hI : 0 < I.length ∧ I.length ≤ 8) :
    Calls Tryz.prog 8 #[.agg #[.int .i64 (p : Int), ve, vi, .int .i64 (T : Int), .int .i64 R, .int .i64 S, .int .i64 K]] w fun e w' => ∃ b τ M, e = .returned (.tuple #[.pointer (some ⟨b, 0, none⟩), .nilIface]) ∧ MdI τ w' b (newM p T R I M) ∧ LeastM E true p M ∧ (∀ k, k < w.heap.size → τ k = 0) ∧ Below w.heap.size w w' := by
  obtain ⟨ao, cap, e1, _⟩ := id hv
  obtain ⟨aoi, capi, e2, _⟩ := id hi
  subst e1 e2
  obtain ⟨bi, oi, rfl⟩ : ∃ bi oi, aoi = some ⟨bi, oi, none⟩ := by
    obtain ⟨b, off, e, _⟩ := rdi_at hi (List.getElem?_eq_getElem hI.1)
    exact ⟨b, off, e⟩
  have HV0 := Lib.hid hv
  have HI0 := Lib.hid hi
  have HOK := Lib.hid hok
  have HG := Lib.hid hg
  have HT8 := Lib.hid (And.intro hT (And.intro hp hI))
  obtain ⟨oT, hmT, hkT⟩ := mk_th T hT.2
  obtain ⟨oS, hmS, hkS⟩ := mk_sh p hp
  obtain ⟨w1, hw1⟩ : ∃ w1, w1 = w.alloc (.cells #[.int .i64 (p : Int), .slice ao E.length cap, .slice (some ⟨bi, oi, none⟩) I.length capi, .int .i64 (T : Int), .int .i64 R, .int .i64 S, .int .i64 K] 35) := ⟨_, rfl⟩
  have HX := Lib.hid (show w1.heap[w.heap.size]? = some (.cells #[.int .i64 (p : Int), .slice ao E.length cap, .slice (some ⟨bi, oi, none⟩) I.length capi, .int .i64 (T : Int), .int .i64 R, .int .i64 S, .int .i64 K] 35 (0, 0)) by rw [hw1]; exact heap_alloc_new w _)
  have HB := Lib.hid (show Below w.heap.size w w1 by rw [hw1]; exact (Below.refl _ _).alloc (Nat.le_refl _) _)
  clear hv hi hok hg hT hp hI
  go_enter Tryz.func8, Tryz.ntmps8
  go_upto_region 1 with fail
  rw [← hw1]
  clear hw1
  obtain ⟨y0, y1, y2, y3, y4, y5, y6⟩ := cells7 HX.out
  go_wp2_with fail
  go_at_call 5
  refine (mdCheck_any (p : Int) (T : Int) R S K (HV0.out.below HB.out) (HI0.out.below HB.out)).mono ?_
  rintro e w2 ⟨v, rfl, hE, hb⟩
  obtain rfl : v = .nilIface := by
    rcases hE with ⟨_, _, h⟩ | ⟨h, _⟩
    · exact h
    · exact absurd HOK.out h
  have hx2 := (hb.block _ (Array.getElem?_eq_some_iff.1 HX.out).1).trans HX.out
  have hb02 := HB.out.trans (hb.mono HB.out.size)
  clear y0 y1 y2 y3 y4 y5 y6 hE hb HX HB HOK
  obtain ⟨wq0, hwq0⟩ : ∃ wq, wq = w2 := ⟨_, rfl⟩
  subst hwq0
  obtain ⟨y0, y1, y2, y3, y4, _, _⟩ := cells7 hx2
  go_upto_region 4 with fail
  have hV1 := HV0.out.below hb02
  have hI1 := HI0.out.below hb02
  have hLT : w.heap.size < wq0.heap.size := (Array.getElem?_eq_some_iff.1 hx2).1
  have HX2 := Lib.hid (show wq0.drew.heap[w.heap.size]? = _ from hx2)
  have HBW := Lib.hid (show Below w.heap.size w wq0.drew from below_drewN hb02 1)
  have HV := Lib.hid (show Rd wq0.drew _ E from hV1)
  have HI := Lib.hid (show RdI wq0.drew _ I from hI1)
  have HLT := Lib.hid (show w.heap.size < wq0.drew.heap.size from hLT)
  have HY := Lib.hid (show wq0.drew.cell? ⟨w.heap.size, 0, none⟩ = some (.int .i64 (p : Int)) ∧ wq0.drew.cell? ⟨w.heap.size, 1, none⟩ = some (.slice ao E.length cap) ∧ wq0.drew.cell? ⟨w.heap.size, 2, none⟩ = some (.slice (some ⟨bi, oi, none⟩) I.length capi) ∧ wq0.drew.cell? ⟨w.heap.size, 3, none⟩ = some (.int .i64 (T : Int)) ∧ wq0.drew.cell? ⟨w.heap.size, 4, none⟩ = some (.int .i64 R) from ⟨y0, y1, y2, y3, y4⟩)
  have HB_0 := Lib.hid (Below.refl wq0.drew.heap.size wq0.drew)
  clear hx2 hb02 hV1 hI1 hLT HV0
  go_cut [5] from 13 to 27 (fun s5 wx => ∃ b, s5 = .pointer (some ⟨b, 0, none⟩) ∧ Hid (NewQ w wx b p T R E I ∧ wx.heap[w.heap.size]? = some (.cells #[.int .i64 (p : Int), .slice ao E.length cap, .slice (some ⟨bi, oi, none⟩) I.length capi, .int .i64 (T : Int), .int .i64 R, .int .i64 S, .int .i64 K] 35 (0, 0))))
  case first =>
    refine wp_region_held_drew (S := (fun w' => w'.cell? ⟨w.heap.size, 0, none⟩ = some (.int .i64 (p : Int)) ∧ w'.cell? ⟨w.heap.size, 1, none⟩ = some (.slice ao E.length cap) ∧ w'.cell? ⟨w.heap.size, 2, none⟩ = some (.slice (some ⟨bi, oi, none⟩) I.length capi) ∧ w'.cell? ⟨w.heap.size, 3, none⟩ = some (.int .i64 (T : Int)) ∧ w'.cell? ⟨w.heap.size, 4, none⟩ = some (.int .i64 R))) (by kernel_rfl) ?_ (fun hHeld => ?_)
    · ((try dsimp only); exact ⟨y0, y1, y2, y3, y4⟩)
    clear y0 y1 y2 y3 y4
    generalize wq0.drew = wq at *
    refine wpAnyH_take (i := 0) (v := ?_) rfl (by kernel_rfl) (by kernel_rfl) (by kernel_rfl) (fun _ _ _ h => h) (Or.inl ⟨by rfl, ?_⟩) (by assumption) ?_
    rotate_left 1
    · (intro w hSw; (try dsimp only at hSw); first | (go_simp; done) | (go_simp; with_reducible rfl))
    try simp only [Act.put, List.setIfInBounds_toArray, List.set_cons_zero, List.set_cons_succ, List.getElem_toArray, List.getElem_cons_zero]
    refine wpAnyH_take (i := 1) (v := ?_) rfl (by kernel_rfl) (by kernel_rfl) (by kernel_rfl) (fun _ _ _ h => h) (Or.inl ⟨by rfl, ?_⟩) (by assumption) ?_
    rotate_left 1
    · (intro w hSw; (try dsimp only at hSw); first | (go_simp; done) | (go_simp; with_reducible rfl))
    try simp only [Act.put, List.setIfInBounds_toArray, List.set_cons_zero, List.set_cons_succ, List.getElem_toArray, List.getElem_cons_zero, List.getElem_cons_succ]
    refine wpAnyH_take (i := 3) (v := ?_) rfl (by kernel_rfl) (by kernel_rfl) (by kernel_rfl) (fun _ _ _ h => h) (Or.inl ⟨by rfl, ?_⟩) (by assumption) ?_
    rotate_left 1
    · (intro w hSw; (try dsimp only at hSw); first | (go_simp; done) | (go_simp; with_reducible rfl))
    try simp only [Act.put, List.setIfInBounds_toArray, List.set_cons_zero, List.set_cons_succ, List.getElem_toArray, List.getElem_cons_zero, List.getElem_cons_succ]
    refine wpAnyH_take (i := 4) (v := ?_) rfl (by kernel_rfl) (by kernel_rfl) (by kernel_rfl) (fun _ _ _ h => h) (Or.inl ⟨by rfl, ?_⟩) (by assumption) ?_
    rotate_left 1
    · (intro w hSw; (try dsimp only at hSw); first | (go_simp; done) | (go_simp; with_reducible rfl))
    try simp only [Act.put, List.setIfInBounds_toArray, List.set_cons_zero, List.set_cons_succ, List.getElem_toArray, List.getElem_cons_zero, List.getElem_cons_succ]
    refine wpAnyH_take (i := 6) (v := ?_) rfl (by kernel_rfl) (by kernel_rfl) (by kernel_rfl) (fun _ _ _ h => h) (Or.inl ⟨by rfl, ?_⟩) (by assumption) ?_
    rotate_left 1
    · (intro w hSw; (try dsimp only at hSw); first | (go_simp; done) | (go_simp; with_reducible rfl))
    try simp only [Act.put, List.setIfInBounds_toArray, List.set_cons_zero, List.set_cons_succ, List.getElem_toArray, List.getElem_cons_zero, List.getElem_cons_succ]
    refine wpAnyH_take (i := 7) (v := ?_) rfl (by kernel_rfl) (by kernel_rfl) (by kernel_rfl) (fun _ _ _ h => h) (Or.inl ⟨by rfl, ?_⟩) (by assumption) ?_
    rotate_left 1
    · (intro w hSw; (try dsimp only at hSw); first | (go_simp; done) | (go_simp; with_reducible rfl))
    try simp only [Act.put, List.setIfInBounds_toArray, List.set_cons_zero, List.set_cons_succ, List.getElem_toArray, List.getElem_cons_zero, List.getElem_cons_succ]
    refine wpAnyH_take (i := 9) (v := ?_) rfl (by kernel_rfl) (by kernel_rfl) (by kernel_rfl) (fun _ _ _ h => h) (Or.inl ⟨by rfl, ?_⟩) (by assumption) ?_
    rotate_left 1
    · (intro w hSw; (try dsimp only at hSw); first | (go_simp; done) | (go_simp; with_reducible rfl))
    try simp only [Act.put, List.setIfInBounds_toArray, List.set_cons_zero, List.set_cons_succ, List.getElem_toArray, List.getElem_cons_zero, List.getElem_cons_succ]
    refine wpAnyH_take (i := 10) (v := ?_) rfl (by kernel_rfl) (by kernel_rfl) (by kernel_rfl) (fun _ _ _ h => h) (Or.inl ⟨by rfl, ?_⟩) (by assumption) ?_
    rotate_left 1
    · (intro w hSw; (try dsimp only at hSw); first | (go_simp; done) | (go_simp; with_reducible rfl))
    try simp only [Act.put, List.setIfInBounds_toArray, List.set_cons_zero, List.set_cons_succ, List.getElem_toArray, List.getElem_cons_zero, List.getElem_cons_succ]
    refine wpAnyH_take (i := 11) (v := ?_) rfl (by kernel_rfl) (by kernel_rfl) (by kernel_rfl) (fun _ _ _ h => h) (Or.inl ⟨by rfl, ?_⟩) (by assumption) ?_
    rotate_left 1
    · (intro w hSw; (try dsimp only at hSw); first | (go_simp; done) | (go_simp; with_reducible rfl))
    try simp only [Act.put, List.setIfInBounds_toArray, List.set_cons_zero, List.set_cons_succ, List.getElem_toArray, List.getElem_cons_zero, List.getElem_cons_succ]
    refine wpAnyH_ready (rs := [2, 8, 12]) (by kernel_rfl) (by simp) ?_
    refine AllReadyH.cons rfl (fun K hK => ?_) <| AllReadyH.cons rfl (fun K hK => ?_) <| AllReadyH.cons rfl (fun K hK => ?_) <| AllReadyH.nil
    · go_simp
      go_at_call 28
      refine (paths_any (HV.out.below HB_0.out) (HI.out.below HB_0.out) HG.out).mono ?_
      rintro e v1 ⟨vp, M, rfl, ⟨gp, rp, rfl, hM⟩, hl, hc⟩
      have HP_1 := Lib.hid (Rng.mat ⟨gp, rp, rfl, hM⟩)
      have HL := Lib.hid hl
      clear hl hM
      have hs := hc.size
      have HS1 : Hid (wq.heap.size ≤ v1.heap.size) := Lib.hid hs
      have HB_1 := Lib.hid (HB_0.out.trans (hc.mono HB_0.out.size))
      clear hc hs
      refine hK.out _ _ ?_ (fun hHeld => ?_)
      · ((try dsimp only); exact ⟨((HB_1.out).cell (p := ⟨w.heap.size, 0, none⟩) HLT.out).trans HY.out.1, ((HB_1.out).cell (p := ⟨w.heap.size, 1, none⟩) HLT.out).trans HY.out.2.1, ((HB_1.out).cell (p := ⟨w.heap.size, 2, none⟩) HLT.out).trans HY.out.2.2.1, ((HB_1.out).cell (p := ⟨w.heap.size, 3, none⟩) HLT.out).trans HY.out.2.2.2.1, ((HB_1.out).cell (p := ⟨w.heap.size, 4, none⟩) HLT.out).trans HY.out.2.2.2.2⟩)
      clear hK K
      try simp only [Act.put, List.setIfInBounds_toArray, List.set_cons_zero, List.set_cons_succ, List.getElem_toArray, List.getElem_cons_zero, List.getElem_cons_succ]
      refine wpAnyH_ready (rs := [5, 8, 12]) (by kernel_rfl) (by simp) ?_
      refine AllReadyH.cons rfl (fun K hK => ?_) <| AllReadyH.cons rfl (fun K hK => ?_) <| AllReadyH.cons rfl (fun K hK => ?_) <| AllReadyH.nil
      · go_simp
        go_at_call 29
        refine (Tb.fresh_any _).mono ?_
        rintro e v2 ⟨vt, rfl, ho, hc⟩
        obtain ⟨at', ct', rfl⟩ := ho.form2
        have HF_2 := Lib.hid (Rng.own ho)
        clear ho
        have hs := hc.size
        have HS2 : Hid (v1.heap.size ≤ v2.heap.size) := Lib.hid hs
        have HB_2 := Lib.hid (HB_1.out.trans (hc.mono HB_1.out.size))
        have HP_2 := Lib.hid (HP_1.out.below hc)
        clear hc hs
        refine hK.out _ _ ?_ (fun hHeld => ?_)
        · ((try dsimp only); exact ⟨((HB_2.out).cell (p := ⟨w.heap.size, 0, none⟩) HLT.out).trans HY.out.1, ((HB_2.out).cell (p := ⟨w.heap.size, 1, none⟩) HLT.out).trans HY.out.2.1, ((HB_2.out).cell (p := ⟨w.heap.size, 2, none⟩) HLT.out).trans HY.out.2.2.1, ((HB_2.out).cell (p := ⟨w.heap.size, 3, none⟩) HLT.out).trans HY.out.2.2.2.1, ((HB_2.out).cell (p := ⟨w.heap.size, 4, none⟩) HLT.out).trans HY.out.2.2.2.2⟩)
        clear hK K
        try simp only [Act.put, List.setIfInBounds_toArray, List.set_cons_zero, List.set_cons_succ, List.getElem_toArray, List.getElem_cons_zero, List.getElem_cons_succ]
        refine wpAnyH_ready (rs := [8, 12]) (by kernel_rfl) (by simp) ?_
        refine AllReadyH.cons rfl (fun K hK => ?_) <| AllReadyH.cons rfl (fun K hK => ?_) <| AllReadyH.nil
        · go_simp
          have hn := heap_alloc_new v2 oT
          have hc : Below v2.heap.size v2 (v2.alloc oT) := (Below.refl _ _).alloc (Nat.le_refl _) _
          have hz : (v2.alloc oT).heap.size = v2.heap.size + 1 := by simp
          obtain ⟨gT, hgT⟩ : ∃ g, g = v2.heap.size := ⟨_, rfl⟩
          have HET := Lib.hid hgT
          rw [← hgT] at hn ⊢
          generalize v2.alloc oT = v3 at *
          have HT_3 := Lib.hid hn
          have HZT := Lib.hid hz
          clear hn hz hgT
          have hs := hc.size
          have HS3 : Hid (v2.heap.size ≤ v3.heap.size) := Lib.hid hs
          have HB_3 := Lib.hid (HB_2.out.trans (hc.mono HB_2.out.size))
          have HP_3 := Lib.hid (HP_2.out.below hc)
          have HF_3 := Lib.hid (HF_2.out.below hc)
          clear hc hs
          refine hK.out _ _ ?_ (fun hHeld => ?_)
          · ((try dsimp only); exact ⟨((HB_3.out).cell (p := ⟨w.heap.size, 0, none⟩) HLT.out).trans HY.out.1, ((HB_3.out).cell (p := ⟨w.heap.size, 1, none⟩) HLT.out).trans HY.out.2.1, ((HB_3.out).cell (p := ⟨w.heap.size, 2, none⟩) HLT.out).trans HY.out.2.2.1, ((HB_3.out).cell (p := ⟨w.heap.size, 3, none⟩) HLT.out).trans HY.out.2.2.2.1, ((HB_3.out).cell (p := ⟨w.heap.size, 4, none⟩) HLT.out).trans HY.out.2.2.2.2⟩)
          clear hK K
          try simp only [Act.put, List.setIfInBounds_toArray, List.set_cons_zero, List.set_cons_succ, List.getElem_toArray, List.getElem_cons_zero, List.getElem_cons_succ]
          refine wpAnyH_ready (rs := [12]) (by kernel_rfl) (by simp) ?_
          refine AllReadyH.cons rfl (fun K hK => ?_) <| AllReadyH.nil
          · go_simp
            have hn := heap_alloc_new v3 oS
            have hc : Below v3.heap.size v3 (v3.alloc oS) := (Below.refl _ _).alloc (Nat.le_refl _) _
            have hz : (v3.alloc oS).heap.size = v3.heap.size + 1 := by simp
            obtain ⟨gS, hgS⟩ : ∃ g, g = v3.heap.size := ⟨_, rfl⟩
            have HES := Lib.hid hgS
            rw [← hgS] at hn ⊢
            generalize v3.alloc oS = v4 at *
            have HS_4 := Lib.hid hn
            have HZS := Lib.hid hz
            clear hn hz hgS
            have hs := hc.size
            have HS4 : Hid (v3.heap.size ≤ v4.heap.size) := Lib.hid hs
            have HB_4 := Lib.hid (HB_3.out.trans (hc.mono HB_3.out.size))
            have HP_4 := Lib.hid (HP_3.out.below hc)
            have HF_4 := Lib.hid (HF_3.out.below hc)
            have HT_4 := Lib.hid ((hc.block _ (Array.getElem?_eq_some_iff.1 HT_3.out).1).trans HT_3.out)
            clear hc hs
            refine hK.out _ _ ?_ (fun hHeld => ?_)
            · ((try dsimp only); exact ⟨((HB_4.out).cell (p := ⟨w.heap.size, 0, none⟩) HLT.out).trans HY.out.1, ((HB_4.out).cell (p := ⟨w.heap.size, 1, none⟩) HLT.out).trans HY.out.2.1, ((HB_4.out).cell (p := ⟨w.heap.size, 2, none⟩) HLT.out).trans HY.out.2.2.1, ((HB_4.out).cell (p := ⟨w.heap.size, 3, none⟩) HLT.out).trans HY.out.2.2.2.1, ((HB_4.out).cell (p := ⟨w.heap.size, 4, none⟩) HLT.out).trans HY.out.2.2.2.2⟩)
            clear hK K
            try simp only [Act.put, List.setIfInBounds_toArray, List.set_cons_zero, List.set_cons_succ, List.getElem_toArray, List.getElem_cons_zero, List.getElem_cons_succ]
            refine wpAnyH_take (i := 13) (v := ?_) rfl (by kernel_rfl) (by kernel_rfl) (by kernel_rfl) (fun _ _ _ h => h) (Or.inl ⟨by rfl, ?_⟩) (by assumption) ?_
            rotate_left 1
            · (intro w hSw; (try dsimp only at hSw); first | (go_simp; done) | (go_simp; with_reducible rfl))
            try simp only [Act.put, List.setIfInBounds_toArray, List.set_cons_zero, List.set_cons_succ, List.getElem_toArray, List.getElem_cons_zero, List.getElem_cons_succ]
            refine wpAnyH_ready (rs := [14]) (by kernel_rfl) (by simp) ?_
            refine AllReadyH.cons rfl (fun K hK => ?_) AllReadyH.nil
            go_simp
            obtain ⟨wc, hwc⟩ : ∃ wc, wc = v4.alloc (.cells (newC (.slice (some ⟨gp, 0, none⟩) p p) (.slice at' Tb.freshL.length ct') R gT gS p T) 84) := ⟨_, rfl⟩
            have hwc2 := hwc
            unfold newC at hwc2
            rw [← hwc2]
            clear hwc2
            have hb5 : Below v4.heap.size v4 wc := by rw [hwc]; exact (Below.refl _ _).alloc (Nat.le_refl _) _
            have HWC := Lib.hid hwc
            clear hwc
            have HB_5 := Lib.hid (HB_4.out.trans (hb5.mono HB_4.out.size))
            clear hb5
            refine hK.out _ _ ?_ (fun hHeld => ?_)
            · ((try dsimp only); exact ⟨((HB_5.out).cell (p := ⟨w.heap.size, 0, none⟩) HLT.out).trans HY.out.1, ((HB_5.out).cell (p := ⟨w.heap.size, 1, none⟩) HLT.out).trans HY.out.2.1, ((HB_5.out).cell (p := ⟨w.heap.size, 2, none⟩) HLT.out).trans HY.out.2.2.1, ((HB_5.out).cell (p := ⟨w.heap.size, 3, none⟩) HLT.out).trans HY.out.2.2.2.1, ((HB_5.out).cell (p := ⟨w.heap.size, 4, none⟩) HLT.out).trans HY.out.2.2.2.2⟩)
            clear hK K
            try simp only [Act.put, List.setIfInBounds_toArray, List.set_cons_zero, List.set_cons_succ, List.getElem_toArray, List.getElem_cons_zero, List.getElem_cons_succ]
            refine wpAnyH_take (i := 15) (v := ?_) rfl (by kernel_rfl) (by kernel_rfl) (by kernel_rfl) (fun _ _ _ h => h) (Or.inl ⟨by rfl, ?_⟩) (by assumption) ?_
            rotate_left 1
            · (intro w hSw; (try dsimp only at hSw); first | (go_simp; done) | (go_simp; with_reducible rfl))
            try simp only [Act.put, List.setIfInBounds_toArray, List.set_cons_zero, List.set_cons_succ, List.getElem_toArray, List.getElem_cons_zero, List.getElem_cons_succ]
            refine wpAnyH_done (by kernel_rfl) ?_ _
            go_wp2_with fail
            go_meet
            refine ⟨_, rfl, Lib.hid ⟨nw_make (HBW.out.trans (HB_4.out.mono HBW.out.size)) HP_4.out HF_4.out HL.out HT_4.out HS_4.out hkT hkS ?_ ?_ ?_ ?_ ?_ ?_ ?_ HWC.out, (HB_5.out.block _ HLT.out).trans HX2.out⟩⟩
            all_goals (have q0 := HBW.out.size; have q1 := HS1.out; have q2 := HS2.out; have q3 := HS3.out; have q4 := HS4.out; have q5 := HET.out; have q6 := HES.out; have q7 := HZT.out; have q8 := HZS.out; have q9 := HLT.out; omega)
        · go_simp
          have hn := heap_alloc_new v2 oS
          have hc : Below v2.heap.size v2 (v2.alloc oS) := (Below.refl _ _).alloc (Nat.le_refl _) _
          have hz : (v2.alloc oS).heap.size = v2.heap.size + 1 := by simp
          obtain ⟨gS, hgS⟩ : ∃ g, g = v2.heap.size := ⟨_, rfl⟩
          have HES := Lib.hid hgS
          rw [← hgS] at hn ⊢
          generalize v2.alloc oS = v3 at *
          have HS_3 := Lib.hid hn
          have HZS := Lib.hid hz
          clear hn hz hgS
          have hs := hc.size
          have HS3 : Hid (v2.heap.size ≤ v3.heap.size) := Lib.hid hs
          have HB_3 := Lib.hid (HB_2.out.trans (hc.mono HB_2.out.size))
          have HP_3 := Lib.hid (HP_2.out.below hc)
          have HF_3 := Lib.hid (HF_2.out.below hc)
          clear hc hs
          refine hK.out _ _ ?_ (fun hHeld => ?_)
          · ((try dsimp only); exact ⟨((HB_3.out).cell (p := ⟨w.heap.size, 0, none⟩) HLT.out).trans HY.out.1, ((HB_3.out).cell (p := ⟨w.heap.size, 1, none⟩) HLT.out).trans HY.out.2.1, ((HB_3.out).cell (p := ⟨w.heap.size, 2, none⟩) HLT.out).trans HY.out.2.2.1, ((HB_3.out).cell (p := ⟨w.heap.size, 3, none⟩) HLT.out).trans HY.out.2.2.2.1, ((HB_3.out).cell (p := ⟨w.heap.size, 4, none⟩) HLT.out).trans HY.out.2.2.2.2⟩)
          clear hK K
          try simp only [Act.put, List.setIfInBounds_toArray, List.set_cons_zero, List.set_cons_succ, List.getElem_toArray, List.getElem_cons_zero, List.getElem_cons_succ]
          refine wpAnyH_ready (rs := [8]) (by kernel_rfl) (by simp) ?_
          refine AllReadyH.cons rfl (fun K hK => ?_) <| AllReadyH.nil
          · go_simp
            have hn := heap_alloc_new v3 oT
            have hc : Below v3.heap.size v3 (v3.alloc oT) := (Below.refl _ _).alloc (Nat.le_refl _) _
            have hz : (v3.alloc oT).heap.size = v3.heap.size + 1 := by simp
            obtain ⟨gT, hgT⟩ : ∃ g, g = v3.heap.size := ⟨_, rfl⟩
            have HET := Lib.hid hgT
            rw [← hgT] at hn ⊢
            generalize v3.alloc oT = v4 at *
            have HT_4 := Lib.hid hn
            have HZT := Lib.hid hz
            clear hn hz hgT
            have hs := hc.size
            have HS4 : Hid (v3.heap.size ≤ v4.heap.size) := Lib.hid hs
            have HB_4 := Lib.hid (HB_3.out.trans (hc.mono HB_3.out.size))
            have HP_4 := Lib.hid (HP_3.out.below hc)
            have HF_4 := Lib.hid (HF_3.out.below hc)
            have HS_4 := Lib.hid ((hc.block _ (Array.getElem?_eq_some_iff.1 HS_3.out).1).trans HS_3.out)
            clear hc hs
            refine hK.out _ _ ?_ (fun hHeld => ?_)
            · ((try dsimp only); exact ⟨((HB_4.out).cell (p := ⟨w.heap.size, 0, none⟩) HLT.out).trans HY.out.1, ((HB_4.out).cell (p := ⟨w.heap.size, 1, none⟩) HLT.out).trans HY.out.2.1, ((HB_4.out).cell (p := ⟨w.heap.size, 2, none⟩) HLT.out).trans HY.out.2.2.1, ((HB_4.out).cell (p := ⟨w.heap.size, 3, none⟩) HLT.out).trans HY.out.2.2.2.1, ((HB_4.out).cell (p := ⟨w.heap.size, 4, none⟩) HLT.out).trans HY.out.2.2.2.2⟩)
            clear hK K
            try simp only [Act.put, List.setIfInBounds_toArray, List.set_cons_zero, List.set_cons_succ, List.getElem_toArray, List.getElem_cons_zero, List.getElem_cons_succ]
            refine wpAnyH_take (i := 13) (v := ?_) rfl (by kernel_rfl) (by kernel_rfl) (by kernel_rfl) (fun _ _ _ h => h) (Or.inl ⟨by rfl, ?_⟩) (by assumption) ?_
            rotate_left 1
            · (intro w hSw; (try dsimp only at hSw); first | (go_simp; done) | (go_simp; with_reducible rfl))
            try simp only [Act.put, List.setIfInBounds_toArray, List.set_cons_zero, List.set_cons_succ, List.getElem_toArray, List.getElem_cons_zero, List.getElem_cons_succ]
            refine wpAnyH_ready (rs := [14]) (by kernel_rfl) (by simp) ?_
            refine AllReadyH.cons rfl (fun K hK => ?_) AllReadyH.nil
            go_simp
            obtain ⟨wc, hwc⟩ : ∃ wc, wc = v4.alloc (.cells (newC (.slice (some ⟨gp, 0, none⟩) p p) (.slice at' Tb.freshL.length ct') R gT gS p T) 84) := ⟨_, rfl⟩
            have hwc2 := hwc
            unfold newC at hwc2
            rw [← hwc2]
            clear hwc2
            have hb5 : Below v4.heap.size v4 wc := by rw [hwc]; exact (Below.refl _ _).alloc (Nat.le_refl _) _
            have HWC := Lib.hid hwc
            clear hwc
            have HB_5 := Lib.hid (HB_4.out.trans (hb5.mono HB_4.out.size))
            clear hb5
            refine hK.out _ _ ?_ (fun hHeld => ?_)
            · ((try dsimp only); exact ⟨((HB_5.out).cell (p := ⟨w.heap.size, 0, none⟩) HLT.out).trans HY.out.1, ((HB_5.out).cell (p := ⟨w.heap.size, 1, none⟩) HLT.out).trans HY.out.2.1, ((HB_5.out).cell (p := ⟨w.heap.size, 2, none⟩) HLT.out).trans HY.out.2.2.1, ((HB_5.out).cell (p := ⟨w.heap.size, 3, none⟩) HLT.out).trans HY.out.2.2.2.1, ((HB_5.out).cell (p := ⟨w.heap.size, 4, none⟩) HLT.out).trans HY.out.2.2.2.2⟩)
            clear hK K
            try simp only [Act.put, List.setIfInBounds_toArray, List.set_cons_zero, List.set_cons_succ, List.getElem_toArray, List.getElem_cons_zero, List.getElem_cons_succ]
            refine wpAnyH_take (i := 15) (v := ?_) rfl (by kernel_rfl) (by kernel_rfl) (by kernel_rfl) (fun _ _ _ h => h) (Or.inl ⟨by rfl, ?_⟩) (by assumption) ?_
            rotate_left 1
            · (intro w hSw; (try dsimp only at hSw); first | (go_simp; done) | (go_simp; with_reducible rfl))
            try simp only [Act.put, List.setIfInBounds_toArray, List.set_cons_zero, List.set_cons_succ, List.getElem_toArray, List.getElem_cons_zero, List.getElem_cons_succ]
            refine wpAnyH_done (by kernel_rfl) ?_ _
            go_wp2_with fail
            go_meet
            refine ⟨_, rfl, Lib.hid ⟨nw_make (HBW.out.trans (HB_4.out.mono HBW.out.size)) HP_4.out HF_4.out HL.out HT_4.out HS_4.out hkT hkS ?_ ?_ ?_ ?_ ?_ ?_ ?_ HWC.out, (HB_5.out.block _ HLT.out).trans HX2.out⟩⟩
            all_goals (have q0 := HBW.out.size; have q1 := HS1.out; have q2 := HS2.out; have q3 := HS3.out; have q4 := HS4.out; have q5 := HET.out; have q6 := HES.out; have q7 := HZT.out; have q8 := HZS.out; have q9 := HLT.out; omega)
      · go_simp
        have hn := heap_alloc_new v1 oT
        have hc : Below v1.heap.size v1 (v1.alloc oT) := (Below.refl _ _).alloc (Nat.le_refl _) _
        have hz : (v1.alloc oT).heap.size = v1.heap.size + 1 := by simp
        obtain ⟨gT, hgT⟩ : ∃ g, g = v1.heap.size := ⟨_, rfl⟩
        have HET := Lib.hid hgT
        rw [← hgT] at hn ⊢
        generalize v1.alloc oT = v2 at *
        have HT_2 := Lib.hid hn
        have HZT := Lib.hid hz
        clear hn hz hgT
        have hs := hc.size
        have HS2 : Hid (v1.heap.size ≤ v2.heap.size) := Lib.hid hs
        have HB_2 := Lib.hid (HB_1.out.trans (hc.mono HB_1.out.size))
        have HP_2 := Lib.hid (HP_1.out.below hc)
        clear hc hs
        refine hK.out _ _ ?_ (fun hHeld => ?_)
        · ((try dsimp only); exact ⟨((HB_2.out).cell (p := ⟨w.heap.size, 0, none⟩) HLT.out).trans HY.out.1, ((HB_2.out).cell (p := ⟨w.heap.size, 1, none⟩) HLT.out).trans HY.out.2.1, ((HB_2.out).cell (p := ⟨w.heap.size, 2, none⟩) HLT.out).trans HY.out.2.2.1, ((HB_2.out).cell (p := ⟨w.heap.size, 3, none⟩) HLT.out).trans HY.out.2.2.2.1, ((HB_2.out).cell (p := ⟨w.heap.size, 4, none⟩) HLT.out).trans HY.out.2.2.2.2⟩)
        clear hK K
        try simp only [Act.put, List.setIfInBounds_toArray, List.set_cons_zero, List.set_cons_succ, List.getElem_toArray, List.getElem_cons_zero, List.getElem_cons_succ]
        refine wpAnyH_ready (rs := [5, 12]) (by kernel_rfl) (by simp) ?_
        refine AllReadyH.cons rfl (fun K hK => ?_) <| AllReadyH.cons rfl (fun K hK => ?_) <| AllReadyH.nil
        · go_simp
          go_at_call 29
          refine (Tb.fresh_any _).mono ?_
          rintro e v3 ⟨vt, rfl, ho, hc⟩
          obtain ⟨at', ct', rfl⟩ := ho.form2
          have HF_3 := Lib.hid (Rng.own ho)
          clear ho
          have hs := hc.size
          have HS3 : Hid (v2.heap.size ≤ v3.heap.size) := Lib.hid hs
          have HB_3 := Lib.hid (HB_2.out.trans (hc.mono HB_2.out.size))
          have HP_3 := Lib.hid (HP_2.out.below hc)
          have HT_3 := Lib.hid ((hc.block _ (Array.getElem?_eq_some_iff.1 HT_2.out).1).trans HT_2.out)
          clear hc hs
          refine hK.out _ _ ?_ (fun hHeld => ?_)
          · ((try dsimp only); exact ⟨((HB_3.out).cell (p := ⟨w.heap.size, 0, none⟩) HLT.out).trans HY.out.1, ((HB_3.out).cell (p := ⟨w.heap.size, 1, none⟩) HLT.out).trans HY.out.2.1, ((HB_3.out).cell (p := ⟨w.heap.size, 2, none⟩) HLT.out).trans HY.out.2.2.1, ((HB_3.out).cell (p := ⟨w.heap.size, 3, none⟩) HLT.out).trans HY.out.2.2.2.1, ((HB_3.out).cell (p := ⟨w.heap.size, 4, none⟩) HLT.out).trans HY.out.2.2.2.2⟩)
          clear hK K
          try simp only [Act.put, List.setIfInBounds_toArray, List.set_cons_zero, List.set_cons_succ, List.getElem_toArray, List.getElem_cons_zero, List.getElem_cons_succ]
          refine wpAnyH_ready (rs := [12]) (by kernel_rfl) (by simp) ?_
          refine AllReadyH.cons rfl (fun K hK => ?_) <| AllReadyH.nil
          · go_simp
            have hn := heap_alloc_new v3 oS
            have hc : Below v3.heap.size v3 (v3.alloc oS) := (Below.refl _ _).alloc (Nat.le_refl _) _
            have hz : (v3.alloc oS).heap.size = v3.heap.size + 1 := by simp
            obtain ⟨gS, hgS⟩ : ∃ g, g = v3.heap.size := ⟨_, rfl⟩
            have HES := Lib.hid hgS
            rw [← hgS] at hn ⊢
            generalize v3.alloc oS = v4 at *
            have HS_4 := Lib.hid hn
            have HZS := Lib.hid hz
            clear hn hz hgS
            have hs := hc.size
            have HS4 : Hid (v3.heap.size ≤ v4.heap.size) := Lib.hid hs
            have HB_4 := Lib.hid (HB_3.out.trans (hc.mono HB_3.out.size))
            have HP_4 := Lib.hid (HP_3.out.below hc)
            have HT_4 := Lib.hid ((hc.block _ (Array.getElem?_eq_some_iff.1 HT_3.out).1).trans HT_3.out)
            have HF_4 := Lib.hid (HF_3.out.below hc)
            clear hc hs
            refine hK.out _ _ ?_ (fun hHeld => ?_)
            · ((try dsimp only); exact ⟨((HB_4.out).cell (p := ⟨w.heap.size, 0, none⟩) HLT.out).trans HY.out.1, ((HB_4.out).cell (p := ⟨w.heap.size, 1, none⟩) HLT.out).trans HY.out.2.1, ((HB_4.out).cell (p := ⟨w.heap.size, 2, none⟩) HLT.out).trans HY.out.2.2.1, ((HB_4.out).cell (p := ⟨w.heap.size, 3, none⟩) HLT.out).trans HY.out.2.2.2.1, ((HB_4.out).cell (p := ⟨w.heap.size, 4, none⟩) HLT.out).trans HY.out.2.2.2.2⟩)
            clear hK K
            try simp only [Act.put, List.setIfInBounds_toArray, List.set_cons_zero, List.set_cons_succ, List.getElem_toArray, List.getElem_cons_zero, List.getElem_cons_succ]
            refine wpAnyH_take (i := 13) (v := ?_) rfl (by kernel_rfl) (by kernel_rfl) (by kernel_rfl) (fun _ _ _ h => h) (Or.inl ⟨by rfl, ?_⟩) (by assumption) ?_
            rotate_left 1
            · (intro w hSw; (try dsimp only at hSw); first | (go_simp; done) | (go_simp; with_reducible rfl))
            try simp only [Act.put, List.setIfInBounds_toArray, List.set_cons_zero, List.set_cons_succ, List.getElem_toArray, List.getElem_cons_zero, List.getElem_cons_succ]
            refine wpAnyH_ready (rs := [14]) (by kernel_rfl) (by simp) ?_
            refine AllReadyH.cons rfl (fun K hK => ?_) AllReadyH.nil
            go_simp
            obtain ⟨wc, hwc⟩ : ∃ wc, wc = v4.alloc (.cells (newC (.slice (some ⟨gp, 0, none⟩) p p) (.slice at' Tb.freshL.length ct') R gT gS p T) 84) := ⟨_, rfl⟩
            have hwc2 := hwc
            unfold newC at hwc2
            rw [← hwc2]
            clear hwc2
            have hb5 : Below v4.heap.size v4 wc := by rw [hwc]; exact (Below.refl _ _).alloc (Nat.le_refl _) _
            have HWC := Lib.hid hwc
            clear hwc
            have HB_5 := Lib.hid (HB_4.out.trans (hb5.mono HB_4.out.size))
            clear hb5
            refine hK.out _ _ ?_ (fun hHeld => ?_)
            · ((try dsimp only); exact ⟨((HB_5.out).cell (p := ⟨w.heap.size, 0, none⟩) HLT.out).trans HY.out.1, ((HB_5.out).cell (p := ⟨w.heap.size, 1, none⟩) HLT.out).trans HY.out.2.1, ((HB_5.out).cell (p := ⟨w.heap.size, 2, none⟩) HLT.out).trans HY.out.2.2.1, ((HB_5.out).cell (p := ⟨w.heap.size, 3, none⟩) HLT.out).trans HY.out.2.2.2.1, ((HB_5.out).cell (p := ⟨w.heap.size, 4, none⟩) HLT.out).trans HY.out.2.2.2.2⟩)
            clear hK K
            try simp only [Act.put, List.setIfInBounds_toArray, List.set_cons_zero, List.set_cons_succ, List.getElem_toArray, List.getElem_cons_zero, List.getElem_cons_succ]
            refine wpAnyH_take (i := 15) (v := ?_) rfl (by kernel_rfl) (by kernel_rfl) (by kernel_rfl) (fun _ _ _ h => h) (Or.inl ⟨by rfl, ?_⟩) (by assumption) ?_
            rotate_left 1
            · (intro w hSw; (try dsimp only at hSw); first | (go_simp; done) | (go_simp; with_reducible rfl))
            try simp only [Act.put, List.setIfInBounds_toArray, List.set_cons_zero, List.set_cons_succ, List.getElem_toArray, List.getElem_cons_zero, List.getElem_cons_succ]
            refine wpAnyH_done (by kernel_rfl) ?_ _
            go_wp2_with fail
            go_meet
            refine ⟨_, rfl, Lib.hid ⟨nw_make (HBW.out.trans (HB_4.out.mono HBW.out.size)) HP_4.out HF_4.out HL.out HT_4.out HS_4.out hkT hkS ?_ ?_ ?_ ?_ ?_ ?_ ?_ HWC.out, (HB_5.out.block _ HLT.out).trans HX2.out⟩⟩
            all_goals (have q0 := HBW.out.size; have q1 := HS1.out; have q2 := HS2.out; have q3 := HS3.out; have q4 := HS4.out; have q5 := HET.out; have q6 := HES.out; have q7 := HZT.out; have q8 := HZS.out; have q9 := HLT.out; omega)
        · go_simp
          have hn := heap_alloc_new v2 oS
          have hc : Below v2.heap.size v2 (v2.alloc oS) := (Below.refl _ _).alloc (Nat.le_refl _) _
          have hz : (v2.alloc oS).heap.size = v2.heap.size + 1 := by simp
          obtain ⟨gS, hgS⟩ : ∃ g, g = v2.heap.size := ⟨_, rfl⟩
          have HES := Lib.hid hgS
          rw [← hgS] at hn ⊢
          generalize v2.alloc oS = v3 at *
          have HS_3 := Lib.hid hn
          have HZS := Lib.hid hz
          clear hn hz hgS
          have hs := hc.size
          have HS3 : Hid (v2.heap.size ≤ v3.heap.size) := Lib.hid hs
          have HB_3 := Lib.hid (HB_2.out.trans (hc.mono HB_2.out.size))
          have HP_3 := Lib.hid (HP_2.out.below hc)
          have HT_3 := Lib.hid ((hc.block _ (Array.getElem?_eq_some_iff.1 HT_2.out).1).trans HT_2.out)
          clear hc hs
          refine hK.out _ _ ?_ (fun hHeld => ?_)
          · ((try dsimp only); exact ⟨((HB_3.out).cell (p := ⟨w.heap.size, 0, none⟩) HLT.out).trans HY.out.1, ((HB_3.out).cell (p := ⟨w.heap.size, 1, none⟩) HLT.out).trans HY.out.2.1, ((HB_3.out).cell (p := ⟨w.heap.size, 2, none⟩) HLT.out).trans HY.out.2.2.1, ((HB_3.out).cell (p := ⟨w.heap.size, 3, none⟩) HLT.out).trans HY.out.2.2.2.1, ((HB_3.out).cell (p := ⟨w.heap.size, 4, none⟩) HLT.out).trans HY.out.2.2.2.2⟩)
          clear hK K
          try simp only [Act.put, List.setIfInBounds_toArray, List.set_cons_zero, List.set_cons_succ, List.getElem_toArray, List.getElem_cons_zero, List.getElem_cons_succ]
          refine wpAnyH_ready (rs := [5]) (by kernel_rfl) (by simp) ?_
          refine AllReadyH.cons rfl (fun K hK => ?_) <| AllReadyH.nil
          · go_simp
            go_at_call 29
            refine (Tb.fresh_any _).mono ?_
            rintro e v4 ⟨vt, rfl, ho, hc⟩
            obtain ⟨at', ct', rfl⟩ := ho.form2
            have HF_4 := Lib.hid (Rng.own ho)
            clear ho
            have hs := hc.size
            have HS4 : Hid (v3.heap.size ≤ v4.heap.size) := Lib.hid hs
            have HB_4 := Lib.hid (HB_3.out.trans (hc.mono HB_3.out.size))
            have HP_4 := Lib.hid (HP_3.out.below hc)
            have HT_4 := Lib.hid ((hc.block _ (Array.getElem?_eq_some_iff.1 HT_3.out).1).trans HT_3.out)
            have HS_4 := Lib.hid ((hc.block _ (Array.getElem?_eq_some_iff.1 HS_3.out).1).trans HS_3.out)
            clear hc hs
            refine hK.out _ _ ?_ (fun hHeld => ?_)
            · ((try dsimp only); exact ⟨((HB_4.out).cell (p := ⟨w.heap.size, 0, none⟩) HLT.out).trans HY.out.1, ((HB_4.out).cell (p := ⟨w.heap.size, 1, none⟩) HLT.out).trans HY.out.2.1, ((HB_4.out).cell (p := ⟨w.heap.size, 2, none⟩) HLT.out).trans HY.out.2.2.1, ((HB_4.out).cell (p := ⟨w.heap.size, 3, none⟩) HLT.out).trans HY.out.2.2.2.1, ((HB_4.out).cell (p := ⟨w.heap.size, 4, none⟩) HLT.out).trans HY.out.2.2.2.2⟩)
            clear hK K
            try simp only [Act.put, List.setIfInBounds_toArray, List.set_cons_zero, List.set_cons_succ, List.getElem_toArray, List.getElem_cons_zero, List.getElem_cons_succ]
            refine wpAnyH_take (i := 13) (v := ?_) rfl (by kernel_rfl) (by kernel_rfl) (by kernel_rfl) (fun _ _ _ h => h) (Or.inl ⟨by rfl, ?_⟩) (by assumption) ?_
            rotate_left 1
            · (intro w hSw; (try dsimp only at hSw); first | (go_simp; done) | (go_simp; with_reducible rfl))
            try simp only [Act.put, List.setIfInBounds_toArray, List.set_cons_zero, List.set_cons_succ, List.getElem_toArray, List.getElem_cons_zero, List.getElem_cons_succ]
            refine wpAnyH_ready (rs := [14]) (by kernel_rfl) (by simp) ?_
            refine AllReadyH.cons rfl (fun K hK => ?_) AllReadyH.nil
            go_simp
            obtain ⟨wc, hwc⟩ : ∃ wc, wc = v4.alloc (.cells (newC (.slice (some ⟨gp, 0, none⟩) p p) (.slice at' Tb.freshL.length ct') R gT gS p T) 84) := ⟨_, rfl⟩
            have hwc2 := hwc
            unfold newC at hwc2
            rw [← hwc2]
            clear hwc2
            have hb5 : Below v4.heap.size v4 wc := by rw [hwc]; exact (Below.refl _ _).alloc (Nat.le_refl _) _
            have HWC := Lib.hid hwc
            clear hwc
            have HB_5 := Lib.hid (HB_4.out.trans (hb5.mono HB_4.out.size))
            clear hb5
            refine hK.out _ _ ?_ (fun hHeld => ?_)
            · ((try dsimp only); exact ⟨((HB_5.out).cell (p := ⟨w.heap.size, 0, none⟩) HLT.out).trans HY.out.1, ((HB_5.out).cell (p := ⟨w.heap.size, 1, none⟩) HLT.out).trans HY.out.2.1, ((HB_5.out).cell (p := ⟨w.heap.size, 2, none⟩) HLT.out).trans HY.out.2.2.1, ((HB_5.out).cell (p := ⟨w.heap.size, 3, none⟩) HLT.out).trans HY.out.2.2.2.1, ((HB_5.out).cell (p := ⟨w.heap.size, 4, none⟩) HLT.out).trans HY.out.2.2.2.2⟩)
            clear hK K
            try simp only [Act.put, List.setIfInBounds_toArray, List.set_cons_zero, List.set_cons_succ, List.getElem_toArray, List.getElem_cons_zero, List.getElem_cons_succ]
            refine wpAnyH_take (i := 15) (v := ?_) rfl (by kernel_rfl) (by kernel_rfl) (by kernel_rfl) (fun _ _ _ h => h) (Or.inl ⟨by rfl, ?_⟩) (by assumption) ?_
            rotate_left 1
            · (intro w hSw; (try dsimp only at hSw); first | (go_simp; done) | (go_simp; with_reducible rfl))
            try simp only [Act.put, List.setIfInBounds_toArray, List.set_cons_zero, List.set_cons_succ, List.getElem_toArray, List.getElem_cons_zero, List.getElem_cons_succ]
            refine wpAnyH_done (by kernel_rfl) ?_ _
            go_wp2_with fail
            go_meet
            refine ⟨_, rfl, Lib.hid ⟨nw_make (HBW.out.trans (HB_4.out.mono HBW.out.size)) HP_4.out HF_4.out HL.out HT_4.out HS_4.out hkT hkS ?_ ?_ ?_ ?_ ?_ ?_ ?_ HWC.out, (HB_5.out.block _ HLT.out).trans HX2.out⟩⟩
            all_goals (have q0 := HBW.out.size; have q1 := HS1.out; have q2 := HS2.out; have q3 := HS3.out; have q4 := HS4.out; have q5 := HET.out; have q6 := HES.out; have q7 := HZT.out; have q8 := HZS.out; have q9 := HLT.out; omega)
      · go_simp
        have hn := heap_alloc_new v1 oS
        have hc : Below v1.heap.size v1 (v1.alloc oS) := (Below.refl _ _).alloc (Nat.le_refl _) _
        have hz : (v1.alloc oS).heap.size = v1.heap.size + 1 := by simp
        obtain ⟨gS, hgS⟩ : ∃ g, g = v1.heap.size := ⟨_, rfl⟩
        have HES := Lib.hid hgS
        rw [← hgS] at hn ⊢
        generalize v1.alloc oS = v2 at *
        have HS_2 := Lib.hid hn
        have HZS := Lib.hid hz
        clear hn hz hgS
        have hs := hc.size
        have HS2 : Hid (v1.heap.size ≤ v2.heap.size) := Lib.hid hs
        have HB_2 := Lib.hid (HB_1.out.trans (hc.mono HB_1.out.size))
        have HP_2 := Lib.hid (HP_1.out.below hc)
        clear hc hs
        refine hK.out _ _ ?_ (fun hHeld => ?_)
        · ((try dsimp only); exact ⟨((HB_2.out).cell (p := ⟨w.heap.size, 0, none⟩) HLT.out).trans HY.out.1, ((HB_2.out).cell (p := ⟨w.heap.size, 1, none⟩) HLT.out).trans HY.out.2.1, ((HB_2.out).cell (p := ⟨w.heap.size, 2, none⟩) HLT.out).trans HY.out.2.2.1, ((HB_2.out).cell (p := ⟨w.heap.size, 3, none⟩) HLT.out).trans HY.out.2.2.2.1, ((HB_2.out).cell (p := ⟨w.heap.size, 4, none⟩) HLT.out).trans HY.out.2.2.2.2⟩)
        clear hK K
        try simp only [Act.put, List.setIfInBounds_toArray, List.set_cons_zero, List.set_cons_succ, List.getElem_toArray, List.getElem_cons_zero, List.getElem_cons_succ]
        refine wpAnyH_ready (rs := [5, 8]) (by kernel_rfl) (by simp) ?_
        refine AllReadyH.cons rfl (fun K hK => ?_) <| AllReadyH.cons rfl (fun K hK => ?_) <| AllReadyH.nil
        · go_simp
          go_at_call 29
          refine (Tb.fresh_any _).mono ?_
          rintro e v3 ⟨vt, rfl, ho, hc⟩
          obtain ⟨at', ct', rfl⟩ := ho.form2
          have HF_3 := Lib.hid (Rng.own ho)
          clear ho
          have hs := hc.size
          have HS3 : Hid (v2.heap.size ≤ v3.heap.size) := Lib.hid hs
          have HB_3 := Lib.hid (HB_2.out.trans (hc.mono HB_2.out.size))
          have HP_3 := Lib.hid (HP_2.out.below hc)
          have HS_3 := Lib.hid ((hc.block _ (Array.getElem?_eq_some_iff.1 HS_2.out).1).trans HS_2.out)
          clear hc hs
          refine hK.out _ _ ?_ (fun hHeld => ?_)
          · ((try dsimp only); exact ⟨((HB_3.out).cell (p := ⟨w.heap.size, 0, none⟩) HLT.out).trans HY.out.1, ((HB_3.out).cell (p := ⟨w.heap.size, 1, none⟩) HLT.out).trans HY.out.2.1, ((HB_3.out).cell (p := ⟨w.heap.size, 2, none⟩) HLT.out).trans HY.out.2.2.1, ((HB_3.out).cell (p := ⟨w.heap.size, 3, none⟩) HLT.out).trans HY.out.2.2.2.1, ((HB_3.out).cell (p := ⟨w.heap.size, 4, none⟩) HLT.out).trans HY.out.2.2.2.2⟩)
          clear hK K
          try simp only [Act.put, List.setIfInBounds_toArray, List.set_cons_zero, List.set_cons_succ, List.getElem_toArray, List.getElem_cons_zero, List.getElem_cons_succ]
          refine wpAnyH_ready (rs := [8]) (by kernel_rfl) (by simp) ?_
          refine AllReadyH.cons rfl (fun K hK => ?_) <| AllReadyH.nil
          · go_simp
            have hn := heap_alloc_new v3 oT
            have hc : Below v3.heap.size v3 (v3.alloc oT) := (Below.refl _ _).alloc (Nat.le_refl _) _
            have hz : (v3.alloc oT).heap.size = v3.heap.size + 1 := by simp
            obtain ⟨gT, hgT⟩ : ∃ g, g = v3.heap.size := ⟨_, rfl⟩
            have HET := Lib.hid hgT
            rw [← hgT] at hn ⊢
            generalize v3.alloc oT = v4 at *
            have HT_4 := Lib.hid hn
            have HZT := Lib.hid hz
            clear hn hz hgT
            have hs := hc.size
            have HS4 : Hid (v3.heap.size ≤ v4.heap.size) := Lib.hid hs
            have HB_4 := Lib.hid (HB_3.out.trans (hc.mono HB_3.out.size))
            have HP_4 := Lib.hid (HP_3.out.below hc)
            have HS_4 := Lib.hid ((hc.block _ (Array.getElem?_eq_some_iff.1 HS_3.out).1).trans HS_3.out)
            have HF_4 := Lib.hid (HF_3.out.below hc)
            clear hc hs
            refine hK.out _ _ ?_ (fun hHeld => ?_)
            · ((try dsimp only); exact ⟨((HB_4.out).cell (p := ⟨w.heap.size, 0, none⟩) HLT.out).trans HY.out.1, ((HB_4.out).cell (p := ⟨w.heap.size, 1, none⟩) HLT.out).trans HY.out.2.1, ((HB_4.out).cell (p := ⟨w.heap.size, 2, none⟩) HLT.out).trans HY.out.2.2.1, ((HB_4.out).cell (p := ⟨w.heap.size, 3, none⟩) HLT.out).trans HY.out.2.2.2.1, ((HB_4.out).cell (p := ⟨w.heap.size, 4, none⟩) HLT.out).trans HY.out.2.2.2.2⟩)
            clear hK K
            try simp only [Act.put, List.setIfInBounds_toArray, List.set_cons_zero, List.set_cons_succ, List.getElem_toArray, List.getElem_cons_zero, List.getElem_cons_succ]
            refine wpAnyH_take (i := 13) (v := ?_) rfl (by kernel_rfl) (by kernel_rfl) (by kernel_rfl) (fun _ _ _ h => h) (Or.inl ⟨by rfl, ?_⟩) (by assumption) ?_
            rotate_left 1
            · (intro w hSw; (try dsimp only at hSw); first | (go_simp; done) | (go_simp; with_reducible rfl))
            try simp only [Act.put, List.setIfInBounds_toArray, List.set_cons_zero, List.set_cons_succ, List.getElem_toArray, List.getElem_cons_zero, List.getElem_cons_succ]
            refine wpAnyH_ready (rs := [14]) (by kernel_rfl) (by simp) ?_
            refine AllReadyH.cons rfl (fun K hK => ?_) AllReadyH.nil
            go_simp
            obtain ⟨wc, hwc⟩ : ∃ wc, wc = v4.alloc (.cells (newC (.slice (some ⟨gp, 0, none⟩) p p) (.slice at' Tb.freshL.length ct') R gT gS p T) 84) := ⟨_, rfl⟩
            have hwc2 := hwc
            unfold newC at hwc2
            rw [← hwc2]
            clear hwc2
            have hb5 : Below v4.heap.size v4 wc := by rw [hwc]; exact (Below.refl _ _).alloc (Nat.le_refl _) _
            have HWC := Lib.hid hwc
            clear hwc
            have HB_5 := Lib.hid (HB_4.out.trans (hb5.mono HB_4.out.size))
            clear hb5
            refine hK.out _ _ ?_ (fun hHeld => ?_)
            · ((try dsimp only); exact ⟨((HB_5.out).cell (p := ⟨w.heap.size, 0, none⟩) HLT.out).trans HY.out.1, ((HB_5.out).cell (p := ⟨w.heap.size, 1, none⟩) HLT.out).trans HY.out.2.1, ((HB_5.out).cell (p := ⟨w.heap.size, 2, none⟩) HLT.out).trans HY.out.2.2.1, ((HB_5.out).cell (p := ⟨w.heap.size, 3, none⟩) HLT.out).trans HY.out.2.2.2.1, ((HB_5.out).cell (p := ⟨w.heap.size, 4, none⟩) HLT.out).trans HY.out.2.2.2.2⟩)
            clear hK K
            try simp only [Act.put, List.setIfInBounds_toArray, List.set_cons_zero, List.set_cons_succ, List.getElem_toArray, List.getElem_cons_zero, List.getElem_cons_succ]
            refine wpAnyH_take (i := 15) (v := ?_) rfl (by kernel_rfl) (by kernel_rfl) (by kernel_rfl) (fun _ _ _ h => h) (Or.inl ⟨by rfl, ?_⟩) (by assumption) ?_
            rotate_left 1
            · (intro w hSw; (try dsimp only at hSw); first | (go_simp; done) | (go_simp; with_reducible rfl))
            try simp only [Act.put, List.setIfInBounds_toArray, List.set_cons_zero, List.set_cons_succ, List.getElem_toArray, List.getElem_cons_zero, List.getElem_cons_succ]
            refine wpAnyH_done (by kernel_rfl) ?_ _
            go_wp2_with fail
            go_meet
            refine ⟨_, rfl, Lib.hid ⟨nw_make (HBW.out.trans (HB_4.out.mono HBW.out.size)) HP_4.out HF_4.out HL.out HT_4.out HS_4.out hkT hkS ?_ ?_ ?_ ?_ ?_ ?_ ?_ HWC.out, (HB_5.out.block _ HLT.out).trans HX2.out⟩⟩
            all_goals (have q0 := HBW.out.size; have q1 := HS1.out; have q2 := HS2.out; have q3 := HS3.out; have q4 := HS4.out; have q5 := HET.out; have q6 := HES.out; have q7 := HZT.out; have q8 := HZS.out; have q9 := HLT.out; omega)
        · go_simp
          have hn := heap_alloc_new v2 oT
          have hc : Below v2.heap.size v2 (v2.alloc oT) := (Below.refl _ _).alloc (Nat.le_refl _) _
          have hz : (v2.alloc oT).heap.size = v2.heap.size + 1 := by simp
          obtain ⟨gT, hgT⟩ : ∃ g, g = v2.heap.size := ⟨_, rfl⟩
          have HET := Lib.hid hgT
          rw [← hgT] at hn ⊢
          generalize v2.alloc oT = v3 at *
          have HT_3 := Lib.hid hn
          have HZT := Lib.hid hz
          clear hn hz hgT
          have hs := hc.size
          have HS3 : Hid (v2.heap.size ≤ v3.heap.size) := Lib.hid hs
          have HB_3 := Lib.hid (HB_2.out.trans (hc.mono HB_2.out.size))
          have HP_3 := Lib.hid (HP_2.out.below hc)
          have HS_3 := Lib.hid ((hc.block _ (Array.getElem?_eq_some_iff.1 HS_2.out).1).trans HS_2.out)
          clear hc hs
          refine hK.out _ _ ?_ (fun hHeld => ?_)
          · ((try dsimp only); exact ⟨((HB_3.out).cell (p := ⟨w.heap.size, 0, none⟩) HLT.out).trans HY.out.1, ((HB_3.out).cell (p := ⟨w.heap.size, 1, none⟩) HLT.out).trans HY.out.2.1, ((HB_3.out).cell (p := ⟨w.heap.size, 2, none⟩) HLT.out).trans HY.out.2.2.1, ((HB_3.out).cell (p := ⟨w.heap.size, 3, none⟩) HLT.out).trans HY.out.2.2.2.1, ((HB_3.out).cell (p := ⟨w.heap.size, 4, none⟩) HLT.out).trans HY.out.2.2.2.2⟩)
          clear hK K
          try simp only [Act.put, List.setIfInBounds_toArray, List.set_cons_zero, List.set_cons_succ, List.getElem_toArray, List.getElem_cons_zero, List.getElem_cons_succ]
          refine wpAnyH_ready (rs := [5]) (by kernel_rfl) (by simp) ?_
          refine AllReadyH.cons rfl (fun K hK => ?_) <| AllReadyH.nil
          · go_simp
            go_at_call 29
            refine (Tb.fresh_any _).mono ?_
            rintro e v4 ⟨vt, rfl, ho, hc⟩
            obtain ⟨at', ct', rfl⟩ := ho.form2
            have HF_4 := Lib.hid (Rng.own ho)
            clear ho
            have hs := hc.size
            have HS4 : Hid (v3.heap.size ≤ v4.heap.size) := Lib.hid hs
            have HB_4 := Lib.hid (HB_3.out.trans (hc.mono HB_3.out.size))
            have HP_4 := Lib.hid (HP_3.out.below hc)
            have HS_4 := Lib.hid ((hc.block _ (Array.getElem?_eq_some_iff.1 HS_3.out).1).trans HS_3.out)
            have HT_4 := Lib.hid ((hc.block _ (Array.getElem?_eq_some_iff.1 HT_3.out).1).trans HT_3.out)
            clear hc hs
            refine hK.out _ _ ?_ (fun hHeld => ?_)
            · ((try dsimp only); exact ⟨((HB_4.out).cell (p := ⟨w.heap.size, 0, none⟩) HLT.out).trans HY.out.1, ((HB_4.out).cell (p := ⟨w.heap.size, 1, none⟩) HLT.out).trans HY.out.2.1, ((HB_4.out).cell (p := ⟨w.heap.size, 2, none⟩) HLT.out).trans HY.out.2.2.1, ((HB_4.out).cell (p := ⟨w.heap.size, 3, none⟩) HLT.out).trans HY.out.2.2.2.1, ((HB_4.out).cell (p := ⟨w.heap.size, 4, none⟩) HLT.out).trans HY.out.2.2.2.2⟩)
            clear hK K
            try simp only [Act.put, List.setIfInBounds_toArray, List.set_cons_zero, List.set_cons_succ, List.getElem_toArray, List.getElem_cons_zero, List.getElem_cons_succ]
            refine wpAnyH_take (i := 13) (v := ?_) rfl (by kernel_rfl) (by kernel_rfl) (by kernel_rfl) (fun _ _ _ h => h) (Or.inl ⟨by rfl, ?_⟩) (by assumption) ?_
            rotate_left 1
            · (intro w hSw; (try dsimp only at hSw); first | (go_simp; done) | (go_simp; with_reducible rfl))
            try simp only [Act.put, List.setIfInBounds_toArray, List.set_cons_zero, List.set_cons_succ, List.getElem_toArray, List.getElem_cons_zero, List.getElem_cons_succ]
            refine wpAnyH_ready (rs := [14]) (by kernel_rfl) (by simp) ?_
            refine AllReadyH.cons rfl (fun K hK => ?_) AllReadyH.nil
            go_simp
            obtain ⟨wc, hwc⟩ : ∃ wc, wc = v4.alloc (.cells (newC (.slice (some ⟨gp, 0, none⟩) p p) (.slice at' Tb.freshL.length ct') R gT gS p T) 84) := ⟨_, rfl⟩
            have hwc2 := hwc
            unfold newC at hwc2
            rw [← hwc2]
            clear hwc2
            have hb5 : Below v4.heap.size v4 wc := by rw [hwc]; exact (Below.refl _ _).alloc (Nat.le_refl _) _
            have HWC := Lib.hid hwc
            clear hwc
            have HB_5 := Lib.hid (HB_4.out.trans (hb5.mono HB_4.out.size))
            clear hb5
            refine hK.out _ _ ?_ (fun hHeld => ?_)
            · ((try dsimp only); exact ⟨((HB_5.out).cell (p := ⟨w.heap.size, 0, none⟩) HLT.out).trans HY.out.1, ((HB_5.out).cell (p := ⟨w.heap.size, 1, none⟩) HLT.out).trans HY.out.2.1, ((HB_5.out).cell (p := ⟨w.heap.size, 2, none⟩) HLT.out).trans HY.out.2.2.1, ((HB_5.out).cell (p := ⟨w.heap.size, 3, none⟩) HLT.out).trans HY.out.2.2.2.1, ((HB_5.out).cell (p := ⟨w.heap.size, 4, none⟩) HLT.out).trans HY.out.2.2.2.2⟩)
            clear hK K
            try simp only [Act.put, List.setIfInBounds_toArray, List.set_cons_zero, List.set_cons_succ, List.getElem_toArray, List.getElem_cons_zero, List.getElem_cons_succ]
            refine wpAnyH_take (i := 15) (v := ?_) rfl (by kernel_rfl) (by kernel_rfl) (by kernel_rfl) (fun _ _ _ h => h) (Or.inl ⟨by rfl, ?_⟩) (by assumption) ?_
            rotate_left 1
            · (intro w hSw; (try dsimp only at hSw); first | (go_simp; done) | (go_simp; with_reducible rfl))
            try simp only [Act.put, List.setIfInBounds_toArray, List.set_cons_zero, List.set_cons_succ, List.getElem_toArray, List.getElem_cons_zero, List.getElem_cons_succ]
            refine wpAnyH_done (by kernel_rfl) ?_ _
            go_wp2_with fail
            go_meet
            refine ⟨_, rfl, Lib.hid ⟨nw_make (HBW.out.trans (HB_4.out.mono HBW.out.size)) HP_4.out HF_4.out HL.out HT_4.out HS_4.out hkT hkS ?_ ?_ ?_ ?_ ?_ ?_ ?_ HWC.out, (HB_5.out.block _ HLT.out).trans HX2.out⟩⟩
            all_goals (have q0 := HBW.out.size; have q1 := HS1.out; have q2 := HS2.out; have q3 := HS3.out; have q4 := HS4.out; have q5 := HET.out; have q6 := HES.out; have q7 := HZT.out; have q8 := HZS.out; have q9 := HLT.out; omega)
    · go_simp
      have hn := heap_alloc_new wq oT
      have hc : Below wq.heap.size wq (wq.alloc oT) := (Below.refl _ _).alloc (Nat.le_refl _) _
      have hz : (wq.alloc oT).heap.size = wq.heap.size + 1 := by simp
      obtain ⟨gT, hgT⟩ : ∃ g, g = wq.heap.size := ⟨_, rfl⟩
      have HET := Lib.hid hgT
      rw [← hgT] at hn ⊢
      generalize wq.alloc oT = v1 at *
      have HT_1 := Lib.hid hn
      have HZT := Lib.hid hz
      clear hn hz hgT
      have hs := hc.size
      have HS1 : Hid (wq.heap.size ≤ v1.heap.size) := Lib.hid hs
      have HB_1 := Lib.hid (HB_0.out.trans (hc.mono HB_0.out.size))
      clear hc hs
      refine hK.out _ _ ?_ (fun hHeld => ?_)
      · ((try dsimp only); exact ⟨((HB_1.out).cell (p := ⟨w.heap.size, 0, none⟩) HLT.out).trans HY.out.1, ((HB_1.out).cell (p := ⟨w.heap.size, 1, none⟩) HLT.out).trans HY.out.2.1, ((HB_1.out).cell (p := ⟨w.heap.size, 2, none⟩) HLT.out).trans HY.out.2.2.1, ((HB_1.out).cell (p := ⟨w.heap.size, 3, none⟩) HLT.out).trans HY.out.2.2.2.1, ((HB_1.out).cell (p := ⟨w.heap.size, 4, none⟩) HLT.out).trans HY.out.2.2.2.2⟩)
      clear hK K
      try simp only [Act.put, List.setIfInBounds_toArray, List.set_cons_zero, List.set_cons_succ, List.getElem_toArray, List.getElem_cons_zero, List.getElem_cons_succ]
      refine wpAnyH_ready (rs := [2, 12]) (by kernel_rfl) (by simp) ?_
      refine AllReadyH.cons rfl (fun K hK => ?_) <| AllReadyH.cons rfl (fun K hK => ?_) <| AllReadyH.nil
      · go_simp
        go_at_call 28
        refine (paths_any (HV.out.below HB_1.out) (HI.out.below HB_1.out) HG.out).mono ?_
        rintro e v2 ⟨vp, M, rfl, ⟨gp, rp, rfl, hM⟩, hl, hc⟩
        have HP_2 := Lib.hid (Rng.mat ⟨gp, rp, rfl, hM⟩)
        have HL := Lib.hid hl
        clear hl hM
        have hs := hc.size
        have HS2 : Hid (v1.heap.size ≤ v2.heap.size) := Lib.hid hs
        have HB_2 := Lib.hid (HB_1.out.trans (hc.mono HB_1.out.size))
        have HT_2 := Lib.hid ((hc.block _ (Array.getElem?_eq_some_iff.1 HT_1.out).1).trans HT_1.out)
        clear hc hs
        refine hK.out _ _ ?_ (fun hHeld => ?_)
        · ((try dsimp only); exact ⟨((HB_2.out).cell (p := ⟨w.heap.size, 0, none⟩) HLT.out).trans HY.out.1, ((HB_2.out).cell (p := ⟨w.heap.size, 1, none⟩) HLT.out).trans HY.out.2.1, ((HB_2.out).cell (p := ⟨w.heap.size, 2, none⟩) HLT.out).trans HY.out.2.2.1, ((HB_2.out).cell (p := ⟨w.heap.size, 3, none⟩) HLT.out).trans HY.out.2.2.2.1, ((HB_2.out).cell (p := ⟨w.heap.size, 4, none⟩) HLT.out).trans HY.out.2.2.2.2⟩)
        clear hK K
        try simp only [Act.put, List.setIfInBounds_toArray, List.set_cons_zero, List.set_cons_succ, List.getElem_toArray, List.getElem_cons_zero, List.getElem_cons_succ]
        refine wpAnyH_ready (rs := [5, 12]) (by kernel_rfl) (by simp) ?_
        refine AllReadyH.cons rfl (fun K hK => ?_) <| AllReadyH.cons rfl (fun K hK => ?_) <| AllReadyH.nil
        · go_simp
          go_at_call 29
          refine (Tb.fresh_any _).mono ?_
          rintro e v3 ⟨vt, rfl, ho, hc⟩
          obtain ⟨at', ct', rfl⟩ := ho.form2
          have HF_3 := Lib.hid (Rng.own ho)
          clear ho
          have hs := hc.size
          have HS3 : Hid (v2.heap.size ≤ v3.heap.size) := Lib.hid hs
          have HB_3 := Lib.hid (HB_2.out.trans (hc.mono HB_2.out.size))
          have HT_3 := Lib.hid ((hc.block _ (Array.getElem?_eq_some_iff.1 HT_2.out).1).trans HT_2.out)
          have HP_3 := Lib.hid (HP_2.out.below hc)
          clear hc hs
          refine hK.out _ _ ?_ (fun hHeld => ?_)
          · ((try dsimp only); exact ⟨((HB_3.out).cell (p := ⟨w.heap.size, 0, none⟩) HLT.out).trans HY.out.1, ((HB_3.out).cell (p := ⟨w.heap.size, 1, none⟩) HLT.out).trans HY.out.2.1, ((HB_3.out).cell (p := ⟨w.heap.size, 2, none⟩) HLT.out).trans HY.out.2.2.1, ((HB_3.out).cell (p := ⟨w.heap.size, 3, none⟩) HLT.out).trans HY.out.2.2.2.1, ((HB_3.out).cell (p := ⟨w.heap.size, 4, none⟩) HLT.out).trans HY.out.2.2.2.2⟩)
          clear hK K
          try simp only [Act.put, List.setIfInBounds_toArray, List.set_cons_zero, List.set_cons_succ, List.getElem_toArray, List.getElem_cons_zero, List.getElem_cons_succ]
          refine wpAnyH_ready (rs := [12]) (by kernel_rfl) (by simp) ?_
          refine AllReadyH.cons rfl (fun K hK => ?_) <| AllReadyH.nil
          · go_simp
            have hn := heap_alloc_new v3 oS
            have hc : Below v3.heap.size v3 (v3.alloc oS) := (Below.refl _ _).alloc (Nat.le_refl _) _
            have hz : (v3.alloc oS).heap.size = v3.heap.size + 1 := by simp
            obtain ⟨gS, hgS⟩ : ∃ g, g = v3.heap.size := ⟨_, rfl⟩
            have HES := Lib.hid hgS
            rw [← hgS] at hn ⊢
            generalize v3.alloc oS = v4 at *
            have HS_4 := Lib.hid hn
            have HZS := Lib.hid hz
            clear hn hz hgS
            have hs := hc.size
            have HS4 : Hid (v3.heap.size ≤ v4.heap.size) := Lib.hid hs
            have HB_4 := Lib.hid (HB_3.out.trans (hc.mono HB_3.out.size))
            have HT_4 := Lib.hid ((hc.block _ (Array.getElem?_eq_some_iff.1 HT_3.out).1).trans HT_3.out)
            have HP_4 := Lib.hid (HP_3.out.below hc)
            have HF_4 := Lib.hid (HF_3.out.below hc)
            clear hc hs
            refine hK.out _ _ ?_ (fun hHeld => ?_)
            · ((try dsimp only); exact ⟨((HB_4.out).cell (p := ⟨w.heap.size, 0, none⟩) HLT.out).trans HY.out.1, ((HB_4.out).cell (p := ⟨w.heap.size, 1, none⟩) HLT.out).trans HY.out.2.1, ((HB_4.out).cell (p := ⟨w.heap.size, 2, none⟩) HLT.out).trans HY.out.2.2.1, ((HB_4.out).cell (p := ⟨w.heap.size, 3, none⟩) HLT.out).trans HY.out.2.2.2.1, ((HB_4.out).cell (p := ⟨w.heap.size, 4, none⟩) HLT.out).trans HY.out.2.2.2.2⟩)
            clear hK K
            try simp only [Act.put, List.setIfInBounds_toArray, List.set_cons_zero, List.set_cons_succ, List.getElem_toArray, List.getElem_cons_zero, List.getElem_cons_succ]
            refine wpAnyH_take (i := 13) (v := ?_) rfl (by kernel_rfl) (by kernel_rfl) (by kernel_rfl) (fun _ _ _ h => h) (Or.inl ⟨by rfl, ?_⟩) (by assumption) ?_
            rotate_left 1
            · (intro w hSw; (try dsimp only at hSw); first | (go_simp; done) | (go_simp; with_reducible rfl))
            try simp only [Act.put, List.setIfInBounds_toArray, List.set_cons_zero, List.set_cons_succ, List.getElem_toArray, List.getElem_cons_zero, List.getElem_cons_succ]
            refine wpAnyH_ready (rs := [14]) (by kernel_rfl) (by simp) ?_
            refine AllReadyH.cons rfl (fun K hK => ?_) AllReadyH.nil
            go_simp
            obtain ⟨wc, hwc⟩ : ∃ wc, wc = v4.alloc (.cells (newC (.slice (some ⟨gp, 0, none⟩) p p) (.slice at' Tb.freshL.length ct') R gT gS p T) 84) := ⟨_, rfl⟩
            have hwc2 := hwc
            unfold newC at hwc2
            rw [← hwc2]
            clear hwc2
            have hb5 : Below v4.heap.size v4 wc := by rw [hwc]; exact (Below.refl _ _).alloc (Nat.le_refl _) _
            have HWC := Lib.hid hwc
            clear hwc
            have HB_5 := Lib.hid (HB_4.out.trans (hb5.mono HB_4.out.size))
            clear hb5
            refine hK.out _ _ ?_ (fun hHeld => ?_)
            · ((try dsimp only); exact ⟨((HB_5.out).cell (p := ⟨w.heap.size, 0, none⟩) HLT.out).trans HY.out.1, ((HB_5.out).cell (p := ⟨w.heap.size, 1, none⟩) HLT.out).trans HY.out.2.1, ((HB_5.out).cell (p := ⟨w.heap.size, 2, none⟩) HLT.out).trans HY.out.2.2.1, ((HB_5.out).cell (p := ⟨w.heap.size, 3, none⟩) HLT.out).trans HY.out.2.2.2.1, ((HB_5.out).cell (p := ⟨w.heap.size, 4, none⟩) HLT.out).trans HY.out.2.2.2.2⟩)
            clear hK K
            try simp only [Act.put, List.setIfInBounds_toArray, List.set_cons_zero, List.set_cons_succ, List.getElem_toArray, List.getElem_cons_zero, List.getElem_cons_succ]
            refine wpAnyH_take (i := 15) (v := ?_) rfl (by kernel_rfl) (by kernel_rfl) (by kernel_rfl) (fun _ _ _ h => h) (Or.inl ⟨by rfl, ?_⟩) (by assumption) ?_
            rotate_left 1
            · (intro w hSw; (try dsimp only at hSw); first | (go_simp; done) | (go_simp; with_reducible rfl))
            try simp only [Act.put, List.setIfInBounds_toArray, List.set_cons_zero, List.set_cons_succ, List.getElem_toArray, List.getElem_cons_zero, List.getElem_cons_succ]
            refine wpAnyH_done (by kernel_rfl) ?_ _
            go_wp2_with fail
            go_meet
            refine ⟨_, rfl, Lib.hid ⟨nw_make (HBW.out.trans (HB_4.out.mono HBW.out.size)) HP_4.out HF_4.out HL.out HT_4.out HS_4.out hkT hkS ?_ ?_ ?_ ?_ ?_ ?_ ?_ HWC.out, (HB_5.out.block _ HLT.out).trans HX2.out⟩⟩
            all_goals (have q0 := HBW.out.size; have q1 := HS1.out; have q2 := HS2.out; have q3 := HS3.out; have q4 := HS4.out; have q5 := HET.out; have q6 := HES.out; have q7 := HZT.out; have q8 := HZS.out; have q9 := HLT.out; omega)
        · go_simp
          have hn := heap_alloc_new v2 oS
          have hc : Below v2.heap.size v2 (v2.alloc oS) := (Below.refl _ _).alloc (Nat.le_refl _) _
          have hz : (v2.alloc oS).heap.size = v2.heap.size + 1 := by simp
          obtain ⟨gS, hgS⟩ : ∃ g, g = v2.heap.size := ⟨_, rfl⟩
          have HES := Lib.hid hgS
          rw [← hgS] at hn ⊢
          generalize v2.alloc oS = v3 at *
          have HS_3 := Lib.hid hn
          have HZS := Lib.hid hz
          clear hn hz hgS
          have hs := hc.size
          have HS3 : Hid (v2.heap.size ≤ v3.heap.size) := Lib.hid hs
          have HB_3 := Lib.hid (HB_2.out.trans (hc.mono HB_2.out.size))
          have HT_3 := Lib.hid ((hc.block _ (Array.getElem?_eq_some_iff.1 HT_2.out).1).trans HT_2.out)
          have HP_3 := Lib.hid (HP_2.out.below hc)
          clear hc hs
          refine hK.out _ _ ?_ (fun hHeld => ?_)
          · ((try dsimp only); exact ⟨((HB_3.out).cell (p := ⟨w.heap.size, 0, none⟩) HLT.out).trans HY.out.1, ((HB_3.out).cell (p := ⟨w.heap.size, 1, none⟩) HLT.out).trans HY.out.2.1, ((HB_3.out).cell (p := ⟨w.heap.size, 2, none⟩) HLT.out).trans HY.out.2.2.1, ((HB_3.out).cell (p := ⟨w.heap.size, 3, none⟩) HLT.out).trans HY.out.2.2.2.1, ((HB_3.out).cell (p := ⟨w.heap.size, 4, none⟩) HLT.out).trans HY.out.2.2.2.2⟩)
          clear hK K
          try simp only [Act.put, List.setIfInBounds_toArray, List.set_cons_zero, List.set_cons_succ, List.getElem_toArray, List.getElem_cons_zero, List.getElem_cons_succ]
          refine wpAnyH_ready (rs := [5]) (by kernel_rfl) (by simp) ?_
          refine AllReadyH.cons rfl (fun K hK => ?_) <| AllReadyH.nil
          · go_simp
            go_at_call 29
            refine (Tb.fresh_any _).mono ?_
            rintro e v4 ⟨vt, rfl, ho, hc⟩
            obtain ⟨at', ct', rfl⟩ := ho.form2
            have HF_4 := Lib.hid (Rng.own ho)
            clear ho
            have hs := hc.size
            have HS4 : Hid (v3.heap.size ≤ v4.heap.size) := Lib.hid hs
            have HB_4 := Lib.hid (HB_3.out.trans (hc.mono HB_3.out.size))
            have HT_4 := Lib.hid ((hc.block _ (Array.getElem?_eq_some_iff.1 HT_3.out).1).trans HT_3.out)
            have HP_4 := Lib.hid (HP_3.out.below hc)
            have HS_4 := Lib.hid ((hc.block _ (Array.getElem?_eq_some_iff.1 HS_3.out).1).trans HS_3.out)
            clear hc hs
            refine hK.out _ _ ?_ (fun hHeld => ?_)
            · ((try dsimp only); exact ⟨((HB_4.out).cell (p := ⟨w.heap.size, 0, none⟩) HLT.out).trans HY.out.1, ((HB_4.out).cell (p := ⟨w.heap.size, 1, none⟩) HLT.out).trans HY.out.2.1, ((HB_4.out).cell (p := ⟨w.heap.size, 2, none⟩) HLT.out).trans HY.out.2.2.1, ((HB_4.out).cell (p := ⟨w.heap.size, 3, none⟩) HLT.out).trans HY.out.2.2.2.1, ((HB_4.out).cell (p := ⟨w.heap.size, 4, none⟩) HLT.out).trans HY.out.2.2.2.2⟩)
            clear hK K
            try simp only [Act.put, List.setIfInBounds_toArray, List.set_cons_zero, List.set_cons_succ, List.getElem_toArray, List.getElem_cons_zero, List.getElem_cons_succ]
            refine wpAnyH_take (i := 13) (v := ?_) rfl (by kernel_rfl) (by kernel_rfl) (by kernel_rfl) (fun _ _ _ h => h) (Or.inl ⟨by rfl, ?_⟩) (by assumption) ?_
            rotate_left 1
            · (intro w hSw; (try dsimp only at hSw); first | (go_simp; done) | (go_simp; with_reducible rfl))
            try simp only [Act.put, List.setIfInBounds_toArray, List.set_cons_zero, List.set_cons_succ, List.getElem_toArray, List.getElem_cons_zero, List.getElem_cons_succ]
            refine wpAnyH_ready (rs := [14]) (by kernel_rfl) (by simp) ?_
            refine AllReadyH.cons rfl (fun K hK => ?_) AllReadyH.nil
            go_simp
            obtain ⟨wc, hwc⟩ : ∃ wc, wc = v4.alloc (.cells (newC (.slice (some ⟨gp, 0, none⟩) p p) (.slice at' Tb.freshL.length ct') R gT gS p T) 84) := ⟨_, rfl⟩
            have hwc2 := hwc
            unfold newC at hwc2
            rw [← hwc2]
            clear hwc2
            have hb5 : Below v4.heap.size v4 wc := by rw [hwc]; exact (Below.refl _ _).alloc (Nat.le_refl _) _
            have HWC := Lib.hid hwc
            clear hwc
            have HB_5 := Lib.hid (HB_4.out.trans (hb5.mono HB_4.out.size))
            clear hb5
            refine hK.out _ _ ?_ (fun hHeld => ?_)
            · ((try dsimp only); exact ⟨((HB_5.out).cell (p := ⟨w.heap.size, 0, none⟩) HLT.out).trans HY.out.1, ((HB_5.out).cell (p := ⟨w.heap.size, 1, none⟩) HLT.out).trans HY.out.2.1, ((HB_5.out).cell (p := ⟨w.heap.size, 2, none⟩) HLT.out).trans HY.out.2.2.1, ((HB_5.out).cell (p := ⟨w.heap.size, 3, none⟩) HLT.out).trans HY.out.2.2.2.1, ((HB_5.out).cell (p := ⟨w.heap.size, 4, none⟩) HLT.out).trans HY.out.2.2.2.2⟩)
            clear hK K
            try simp only [Act.put, List.setIfInBounds_toArray, List.set_cons_zero, List.set_cons_succ, List.getElem_toArray, List.getElem_cons_zero, List.getElem_cons_succ]
            refine wpAnyH_take (i := 15) (v := ?_) rfl (by kernel_rfl) (by kernel_rfl) (by kernel_rfl) (fun _ _ _ h => h) (Or.inl ⟨by rfl, ?_⟩) (by assumption) ?_
            rotate_left 1
            · (intro w hSw; (try dsimp only at hSw); first | (go_simp; done) | (go_simp; with_reducible rfl))
            try simp only [Act.put, List.setIfInBounds_toArray, List.set_cons_zero, List.set_cons_succ, List.getElem_toArray, List.getElem_cons_zero, List.getElem_cons_succ]
            refine wpAnyH_done (by kernel_rfl) ?_ _
            go_wp2_with fail
            go_meet
            refine ⟨_, rfl, Lib.hid ⟨nw_make (HBW.out.trans (HB_4.out.mono HBW.out.size)) HP_4.out HF_4.out HL.out HT_4.out HS_4.out hkT hkS ?_ ?_ ?_ ?_ ?_ ?_ ?_ HWC.out, (HB_5.out.block _ HLT.out).trans HX2.out⟩⟩
            all_goals (have q0 := HBW.out.size; have q1 := HS1.out; have q2 := HS2.out; have q3 := HS3.out; have q4 := HS4.out; have q5 := HET.out; have q6 := HES.out; have q7 := HZT.out; have q8 := HZS.out; have q9 := HLT.out; omega)
      · go_simp
        have hn := heap_alloc_new v1 oS
        have hc : Below v1.heap.size v1 (v1.alloc oS) := (Below.refl _ _).alloc (Nat.le_refl _) _
        have hz : (v1.alloc oS).heap.size = v1.heap.size + 1 := by simp
        obtain ⟨gS, hgS⟩ : ∃ g, g = v1.heap.size := ⟨_, rfl⟩
        have HES := Lib.hid hgS
        rw [← hgS] at hn ⊢
        generalize v1.alloc oS = v2 at *
        have HS_2 := Lib.hid hn
        have HZS := Lib.hid hz
        clear hn hz hgS
        have hs := hc.size
        have HS2 : Hid (v1.heap.size ≤ v2.heap.size) := Lib.hid hs
        have HB_2 := Lib.hid (HB_1.out.trans (hc.mono HB_1.out.size))
        have HT_2 := Lib.hid ((hc.block _ (Array.getElem?_eq_some_iff.1 HT_1.out).1).trans HT_1.out)
        clear hc hs
        refine hK.out _ _ ?_ (fun hHeld => ?_)
        · ((try dsimp only); exact ⟨((HB_2.out).cell (p := ⟨w.heap.size, 0, none⟩) HLT.out).trans HY.out.1, ((HB_2.out).cell (p := ⟨w.heap.size, 1, none⟩) HLT.out).trans HY.out.2.1, ((HB_2.out).cell (p := ⟨w.heap.size, 2, none⟩) HLT.out).trans HY.out.2.2.1, ((HB_2.out).cell (p := ⟨w.heap.size, 3, none⟩) HLT.out).trans HY.out.2.2.2.1, ((HB_2.out).cell (p := ⟨w.heap.size, 4, none⟩) HLT.out).trans HY.out.2.2.2.2⟩)
        clear hK K
        try simp only [Act.put, List.setIfInBounds_toArray, List.set_cons_zero, List.set_cons_succ, List.getElem_toArray, List.getElem_cons_zero, List.getElem_cons_succ]
        refine wpAnyH_ready (rs := [2]) (by kernel_rfl) (by simp) ?_
        refine AllReadyH.cons rfl (fun K hK => ?_) <| AllReadyH.nil
        · go_simp
          go_at_call 28
          refine (paths_any (HV.out.below HB_2.out) (HI.out.below HB_2.out) HG.out).mono ?_
          rintro e v3 ⟨vp, M, rfl, ⟨gp, rp, rfl, hM⟩, hl, hc⟩
          have HP_3 := Lib.hid (Rng.mat ⟨gp, rp, rfl, hM⟩)
          have HL := Lib.hid hl
          clear hl hM
          have hs := hc.size
          have HS3 : Hid (v2.heap.size ≤ v3.heap.size) := Lib.hid hs
          have HB_3 := Lib.hid (HB_2.out.trans (hc.mono HB_2.out.size))
          have HT_3 := Lib.hid ((hc.block _ (Array.getElem?_eq_some_iff.1 HT_2.out).1).trans HT_2.out)
          have HS_3 := Lib.hid ((hc.block _ (Array.getElem?_eq_some_iff.1 HS_2.out).1).trans HS_2.out)
          clear hc hs
          refine hK.out _ _ ?_ (fun hHeld => ?_)
          · ((try dsimp only); exact ⟨((HB_3.out).cell (p := ⟨w.heap.size, 0, none⟩) HLT.out).trans HY.out.1, ((HB_3.out).cell (p := ⟨w.heap.size, 1, none⟩) HLT.out).trans HY.out.2.1, ((HB_3.out).cell (p := ⟨w.heap.size, 2, none⟩) HLT.out).trans HY.out.2.2.1, ((HB_3.out).cell (p := ⟨w.heap.size, 3, none⟩) HLT.out).trans HY.out.2.2.2.1, ((HB_3.out).cell (p := ⟨w.heap.size, 4, none⟩) HLT.out).trans HY.out.2.2.2.2⟩)
          clear hK K
          try simp only [Act.put, List.setIfInBounds_toArray, List.set_cons_zero, List.set_cons_succ, List.getElem_toArray, List.getElem_cons_zero, List.getElem_cons_succ]
          refine wpAnyH_ready (rs := [5]) (by kernel_rfl) (by simp) ?_
          refine AllReadyH.cons rfl (fun K hK => ?_) <| AllReadyH.nil
          · go_simp
            go_at_call 29
            refine (Tb.fresh_any _).mono ?_
            rintro e v4 ⟨vt, rfl, ho, hc⟩
            obtain ⟨at', ct', rfl⟩ := ho.form2
            have HF_4 := Lib.hid (Rng.own ho)
            clear ho
            have hs := hc.size
            have HS4 : Hid (v3.heap.size ≤ v4.heap.size) := Lib.hid hs
            have HB_4 := Lib.hid (HB_3.out.trans (hc.mono HB_3.out.size))
            have HT_4 := Lib.hid ((hc.block _ (Array.getElem?_eq_some_iff.1 HT_3.out).1).trans HT_3.out)
            have HS_4 := Lib.hid ((hc.block _ (Array.getElem?_eq_some_iff.1 HS_3.out).1).trans HS_3.out)
            have HP_4 := Lib.hid (HP_3.out.below hc)
            clear hc hs
            refine hK.out _ _ ?_ (fun hHeld => ?_)
            · ((try dsimp only); exact ⟨((HB_4.out).cell (p := ⟨w.heap.size, 0, none⟩) HLT.out).trans HY.out.1, ((HB_4.out).cell (p := ⟨w.heap.size, 1, none⟩) HLT.out).trans HY.out.2.1, ((HB_4.out).cell (p := ⟨w.heap.size, 2, none⟩) HLT.out).trans HY.out.2.2.1, ((HB_4.out).cell (p := ⟨w.heap.size, 3, none⟩) HLT.out).trans HY.out.2.2.2.1, ((HB_4.out).cell (p := ⟨w.heap.size, 4, none⟩) HLT.out).trans HY.out.2.2.2.2⟩)
            clear hK K
            try simp only [Act.put, List.setIfInBounds_toArray, List.set_cons_zero, List.set_cons_succ, List.getElem_toArray, List.getElem_cons_zero, List.getElem_cons_succ]
            refine wpAnyH_take (i := 13) (v := ?_) rfl (by kernel_rfl) (by kernel_rfl) (by kernel_rfl) (fun _ _ _ h => h) (Or.inl ⟨by rfl, ?_⟩) (by assumption) ?_
            rotate_left 1
            · (intro w hSw; (try dsimp only at hSw); first | (go_simp; done) | (go_simp; with_reducible rfl))
            try simp only [Act.put, List.setIfInBounds_toArray, List.set_cons_zero, List.set_cons_succ, List.getElem_toArray, List.getElem_cons_zero, List.getElem_cons_succ]
            refine wpAnyH_ready (rs := [14]) (by kernel_rfl) (by simp) ?_
            refine AllReadyH.cons rfl (fun K hK => ?_) AllReadyH.nil
            go_simp
            obtain ⟨wc, hwc⟩ : ∃ wc, wc = v4.alloc (.cells (newC (.slice (some ⟨gp, 0, none⟩) p p) (.slice at' Tb.freshL.length ct') R gT gS p T) 84) := ⟨_, rfl⟩
            have hwc2 := hwc
            unfold newC at hwc2
            rw [← hwc2]
            clear hwc2
            have hb5 : Below v4.heap.size v4 wc := by rw [hwc]; exact (Below.refl _ _).alloc (Nat.le_refl _) _
            have HWC := Lib.hid hwc
            clear hwc
            have HB_5 := Lib.hid (HB_4.out.trans (hb5.mono HB_4.out.size))
            clear hb5
            refine hK.out _ _ ?_ (fun hHeld => ?_)
            · ((try dsimp only); exact ⟨((HB_5.out).cell (p := ⟨w.heap.size, 0, none⟩) HLT.out).trans HY.out.1, ((HB_5.out).cell (p := ⟨w.heap.size, 1, none⟩) HLT.out).trans HY.out.2.1, ((HB_5.out).cell (p := ⟨w.heap.size, 2, none⟩) HLT.out).trans HY.out.2.2.1, ((HB_5.out).cell (p := ⟨w.heap.size, 3, none⟩) HLT.out).trans HY.out.2.2.2.1, ((HB_5.out).cell (p := ⟨w.heap.size, 4, none⟩) HLT.out).trans HY.out.2.2.2.2⟩)
            clear hK K
            try simp only [Act.put, List.setIfInBounds_toArray, List.set_cons_zero, List.set_cons_succ, List.getElem_toArray, List.getElem_cons_zero, List.getElem_cons_succ]
            refine wpAnyH_take (i := 15) (v := ?_) rfl (by kernel_rfl) (by kernel_rfl) (by kernel_rfl) (fun _ _ _ h => h) (Or.inl ⟨by rfl, ?_⟩) (by assumption) ?_
            rotate_left 1
            · (intro w hSw; (try dsimp only at hSw); first | (go_simp; done) | (go_simp; with_reducible rfl))
            try simp only [Act.put, List.setIfInBounds_toArray, List.set_cons_zero, List.set_cons_succ, List.getElem_toArray, List.getElem_cons_zero, List.getElem_cons_succ]
            refine wpAnyH_done (by kernel_rfl) ?_ _
            go_wp2_with fail
            go_meet
            refine ⟨_, rfl, Lib.hid ⟨nw_make (HBW.out.trans (HB_4.out.mono HBW.out.size)) HP_4.out HF_4.out HL.out HT_4.out HS_4.out hkT hkS ?_ ?_ ?_ ?_ ?_ ?_ ?_ HWC.out, (HB_5.out.block _ HLT.out).trans HX2.out⟩⟩
            all_goals (have q0 := HBW.out.size; have q1 := HS1.out; have q2 := HS2.out; have q3 := HS3.out; have q4 := HS4.out; have q5 := HET.out; have q6 := HES.out; have q7 := HZT.out; have q8 := HZS.out; have q9 := HLT.out; omega)
    · go_simp
      have hn := heap_alloc_new wq oS
      have hc : Below wq.heap.size wq (wq.alloc oS) := (Below.refl _ _).alloc (Nat.le_refl _) _
      have hz : (wq.alloc oS).heap.size = wq.heap.size + 1 := by simp
      obtain ⟨gS, hgS⟩ : ∃ g, g = wq.heap.size := ⟨_, rfl⟩
      have HES := Lib.hid hgS
      rw [← hgS] at hn ⊢
      generalize wq.alloc oS = v1 at *
      have HS_1 := Lib.hid hn
      have HZS := Lib.hid hz
      clear hn hz hgS
      have hs := hc.size
      have HS1 : Hid (wq.heap.size ≤ v1.heap.size) := Lib.hid hs
      have HB_1 := Lib.hid (HB_0.out.trans (hc.mono HB_0.out.size))
      clear hc hs
      refine hK.out _ _ ?_ (fun hHeld => ?_)
      · ((try dsimp only); exact ⟨((HB_1.out).cell (p := ⟨w.heap.size, 0, none⟩) HLT.out).trans HY.out.1, ((HB_1.out).cell (p := ⟨w.heap.size, 1, none⟩) HLT.out).trans HY.out.2.1, ((HB_1.out).cell (p := ⟨w.heap.size, 2, none⟩) HLT.out).trans HY.out.2.2.1, ((HB_1.out).cell (p := ⟨w.heap.size, 3, none⟩) HLT.out).trans HY.out.2.2.2.1, ((HB_1.out).cell (p := ⟨w.heap.size, 4, none⟩) HLT.out).trans HY.out.2.2.2.2⟩)
      clear hK K
      try simp only [Act.put, List.setIfInBounds_toArray, List.set_cons_zero, List.set_cons_succ, List.getElem_toArray, List.getElem_cons_zero, List.getElem_cons_succ]
      refine wpAnyH_ready (rs := [2, 8]) (by kernel_rfl) (by simp) ?_
      refine AllReadyH.cons rfl (fun K hK => ?_) <| AllReadyH.cons rfl (fun K hK => ?_) <| AllReadyH.nil
      · go_simp
        go_at_call 28
        refine (paths_any (HV.out.below HB_1.out) (HI.out.below HB_1.out) HG.out).mono ?_
        rintro e v2 ⟨vp, M, rfl, ⟨gp, rp, rfl, hM⟩, hl, hc⟩
        have HP_2 := Lib.hid (Rng.mat ⟨gp, rp, rfl, hM⟩)
        have HL := Lib.hid hl
        clear hl hM
        have hs := hc.size
        have HS2 : Hid (v1.heap.size ≤ v2.heap.size) := Lib.hid hs
        have HB_2 := Lib.hid (HB_1.out.trans (hc.mono HB_1.out.size))
        have HS_2 := Lib.hid ((hc.block _ (Array.getElem?_eq_some_iff.1 HS_1.out).1).trans HS_1.out)
        clear hc hs
        refine hK.out _ _ ?_ (fun hHeld => ?_)
        · ((try dsimp only); exact ⟨((HB_2.out).cell (p := ⟨w.heap.size, 0, none⟩) HLT.out).trans HY.out.1, ((HB_2.out).cell (p := ⟨w.heap.size, 1, none⟩) HLT.out).trans HY.out.2.1, ((HB_2.out).cell (p := ⟨w.heap.size, 2, none⟩) HLT.out).trans HY.out.2.2.1, ((HB_2.out).cell (p := ⟨w.heap.size, 3, none⟩) HLT.out).trans HY.out.2.2.2.1, ((HB_2.out).cell (p := ⟨w.heap.size, 4, none⟩) HLT.out).trans HY.out.2.2.2.2⟩)
        clear hK K
        try simp only [Act.put, List.setIfInBounds_toArray, List.set_cons_zero, List.set_cons_succ, List.getElem_toArray, List.getElem_cons_zero, List.getElem_cons_succ]
        refine wpAnyH_ready (rs := [5, 8]) (by kernel_rfl) (by simp) ?_
        refine AllReadyH.cons rfl (fun K hK => ?_) <| AllReadyH.cons rfl (fun K hK => ?_) <| AllReadyH.nil
        · go_simp
          go_at_call 29
          refine (Tb.fresh_any _).mono ?_
          rintro e v3 ⟨vt, rfl, ho, hc⟩
          obtain ⟨at', ct', rfl⟩ := ho.form2
          have HF_3 := Lib.hid (Rng.own ho)
          clear ho
          have hs := hc.size
          have HS3 : Hid (v2.heap.size ≤ v3.heap.size) := Lib.hid hs
          have HB_3 := Lib.hid (HB_2.out.trans (hc.mono HB_2.out.size))
          have HS_3 := Lib.hid ((hc.block _ (Array.getElem?_eq_some_iff.1 HS_2.out).1).trans HS_2.out)
          have HP_3 := Lib.hid (HP_2.out.below hc)
          clear hc hs
          refine hK.out _ _ ?_ (fun hHeld => ?_)
          · ((try dsimp only); exact ⟨((HB_3.out).cell (p := ⟨w.heap.size, 0, none⟩) HLT.out).trans HY.out.1, ((HB_3.out).cell (p := ⟨w.heap.size, 1, none⟩) HLT.out).trans HY.out.2.1, ((HB_3.out).cell (p := ⟨w.heap.size, 2, none⟩) HLT.out).trans HY.out.2.2.1, ((HB_3.out).cell (p := ⟨w.heap.size, 3, none⟩) HLT.out).trans HY.out.2.2.2.1, ((HB_3.out).cell (p := ⟨w.heap.size, 4, none⟩) HLT.out).trans HY.out.2.2.2.2⟩)
          clear hK K
          try simp only [Act.put, List.setIfInBounds_toArray, List.set_cons_zero, List.set_cons_succ, List.getElem_toArray, List.getElem_cons_zero, List.getElem_cons_succ]
          refine wpAnyH_ready (rs := [8]) (by kernel_rfl) (by simp) ?_
          refine AllReadyH.cons rfl (fun K hK => ?_) <| AllReadyH.nil
          · go_simp
            have hn := heap_alloc_new v3 oT
            have hc : Below v3.heap.size v3 (v3.alloc oT) := (Below.refl _ _).alloc (Nat.le_refl _) _
            have hz : (v3.alloc oT).heap.size = v3.heap.size + 1 := by simp
            obtain ⟨gT, hgT⟩ : ∃ g, g = v3.heap.size := ⟨_, rfl⟩
            have HET := Lib.hid hgT
            rw [← hgT] at hn ⊢
            generalize v3.alloc oT = v4 at *
            have HT_4 := Lib.hid hn
            have HZT := Lib.hid hz
            clear hn hz hgT
            have hs := hc.size
            have HS4 : Hid (v3.heap.size ≤ v4.heap.size) := Lib.hid hs
            have HB_4 := Lib.hid (HB_3.out.trans (hc.mono HB_3.out.size))
            have HS_4 := Lib.hid ((hc.block _ (Array.getElem?_eq_some_iff.1 HS_3.out).1).trans HS_3.out)
            have HP_4 := Lib.hid (HP_3.out.below hc)
            have HF_4 := Lib.hid (HF_3.out.below hc)
            clear hc hs
            refine hK.out _ _ ?_ (fun hHeld => ?_)
            · ((try dsimp only); exact ⟨((HB_4.out).cell (p := ⟨w.heap.size, 0, none⟩) HLT.out).trans HY.out.1, ((HB_4.out).cell (p := ⟨w.heap.size, 1, none⟩) HLT.out).trans HY.out.2.1, ((HB_4.out).cell (p := ⟨w.heap.size, 2, none⟩) HLT.out).trans HY.out.2.2.1, ((HB_4.out).cell (p := ⟨w.heap.size, 3, none⟩) HLT.out).trans HY.out.2.2.2.1, ((HB_4.out).cell (p := ⟨w.heap.size, 4, none⟩) HLT.out).trans HY.out.2.2.2.2⟩)
            clear hK K
            try simp only [Act.put, List.setIfInBounds_toArray, List.set_cons_zero, List.set_cons_succ, List.getElem_toArray, List.getElem_cons_zero, List.getElem_cons_succ]
            refine wpAnyH_take (i := 13) (v := ?_) rfl (by kernel_rfl) (by kernel_rfl) (by kernel_rfl) (fun _ _ _ h => h) (Or.inl ⟨by rfl, ?_⟩) (by assumption) ?_
            rotate_left 1
            · (intro w hSw; (try dsimp only at hSw); first | (go_simp; done) | (go_simp; with_reducible rfl))
            try simp only [Act.put, List.setIfInBounds_toArray, List.set_cons_zero, List.set_cons_succ, List.getElem_toArray, List.getElem_cons_zero, List.getElem_cons_succ]
            refine wpAnyH_ready (rs := [14]) (by kernel_rfl) (by simp) ?_
            refine AllReadyH.cons rfl (fun K hK => ?_) AllReadyH.nil
            go_simp
            obtain ⟨wc, hwc⟩ : ∃ wc, wc = v4.alloc (.cells (newC (.slice (some ⟨gp, 0, none⟩) p p) (.slice at' Tb.freshL.length ct') R gT gS p T) 84) := ⟨_, rfl⟩
            have hwc2 := hwc
            unfold newC at hwc2
            rw [← hwc2]
            clear hwc2
            have hb5 : Below v4.heap.size v4 wc := by rw [hwc]; exact (Below.refl _ _).alloc (Nat.le_refl _) _
            have HWC := Lib.hid hwc
            clear hwc
            have HB_5 := Lib.hid (HB_4.out.trans (hb5.mono HB_4.out.size))
            clear hb5
            refine hK.out _ _ ?_ (fun hHeld => ?_)
            · ((try dsimp only); exact ⟨((HB_5.out).cell (p := ⟨w.heap.size, 0, none⟩) HLT.out).trans HY.out.1, ((HB_5.out).cell (p := ⟨w.heap.size, 1, none⟩) HLT.out).trans HY.out.2.1, ((HB_5.out).cell (p := ⟨w.heap.size, 2, none⟩) HLT.out).trans HY.out.2.2.1, ((HB_5.out).cell (p := ⟨w.heap.size, 3, none⟩) HLT.out).trans HY.out.2.2.2.1, ((HB_5.out).cell (p := ⟨w.heap.size, 4, none⟩) HLT.out).trans HY.out.2.2.2.2⟩)
            clear hK K
            try simp only [Act.put, List.setIfInBounds_toArray, List.set_cons_zero, List.set_cons_succ, List.getElem_toArray, List.getElem_cons_zero, List.getElem_cons_succ]
            refine wpAnyH_take (i := 15) (v := ?_) rfl (by kernel_rfl) (by kernel_rfl) (by kernel_rfl) (fun _ _ _ h => h) (Or.inl ⟨by rfl, ?_⟩) (by assumption) ?_
            rotate_left 1
            · (intro w hSw; (try dsimp only at hSw); first | (go_simp; done) | (go_simp; with_reducible rfl))
            try simp only [Act.put, List.setIfInBounds_toArray, List.set_cons_zero, List.set_cons_succ, List.getElem_toArray, List.getElem_cons_zero, List.getElem_cons_succ]
            refine wpAnyH_done (by kernel_rfl) ?_ _
            go_wp2_with fail
            go_meet
            refine ⟨_, rfl, Lib.hid ⟨nw_make (HBW.out.trans (HB_4.out.mono HBW.out.size)) HP_4.out HF_4.out HL.out HT_4.out HS_4.out hkT hkS ?_ ?_ ?_ ?_ ?_ ?_ ?_ HWC.out, (HB_5.out.block _ HLT.out).trans HX2.out⟩⟩
            all_goals (have q0 := HBW.out.size; have q1 := HS1.out; have q2 := HS2.out; have q3 := HS3.out; have q4 := HS4.out; have q5 := HET.out; have q6 := HES.out; have q7 := HZT.out; have q8 := HZS.out; have q9 := HLT.out; omega)
        · go_simp
          have hn := heap_alloc_new v2 oT
          have hc : Below v2.heap.size v2 (v2.alloc oT) := (Below.refl _ _).alloc (Nat.le_refl _) _
          have hz : (v2.alloc oT).heap.size = v2.heap.size + 1 := by simp
          obtain ⟨gT, hgT⟩ : ∃ g, g = v2.heap.size := ⟨_, rfl⟩
          have HET := Lib.hid hgT
          rw [← hgT] at hn ⊢
          generalize v2.alloc oT = v3 at *
          have HT_3 := Lib.hid hn
          have HZT := Lib.hid hz
          clear hn hz hgT
          have hs := hc.size
          have HS3 : Hid (v2.heap.size ≤ v3.heap.size) := Lib.hid hs
          have HB_3 := Lib.hid (HB_2.out.trans (hc.mono HB_2.out.size))
          have HS_3 := Lib.hid ((hc.block _ (Array.getElem?_eq_some_iff.1 HS_2.out).1).trans HS_2.out)
          have HP_3 := Lib.hid (HP_2.out.below hc)
          clear hc hs
          refine hK.out _ _ ?_ (fun hHeld => ?_)
          · ((try dsimp only); exact ⟨((HB_3.out).cell (p := ⟨w.heap.size, 0, none⟩) HLT.out).trans HY.out.1, ((HB_3.out).cell (p := ⟨w.heap.size, 1, none⟩) HLT.out).trans HY.out.2.1, ((HB_3.out).cell (p := ⟨w.heap.size, 2, none⟩) HLT.out).trans HY.out.2.2.1, ((HB_3.out).cell (p := ⟨w.heap.size, 3, none⟩) HLT.out).trans HY.out.2.2.2.1, ((HB_3.out).cell (p := ⟨w.heap.size, 4, none⟩) HLT.out).trans HY.out.2.2.2.2⟩)
          clear hK K
          try simp only [Act.put, List.setIfInBounds_toArray, List.set_cons_zero, List.set_cons_succ, List.getElem_toArray, List.getElem_cons_zero, List.getElem_cons_succ]
          refine wpAnyH_ready (rs := [5]) (by kernel_rfl) (by simp) ?_
          refine AllReadyH.cons rfl (fun K hK => ?_) <| AllReadyH.nil
          · go_simp
            go_at_call 29
            refine (Tb.fresh_any _).mono ?_
            rintro e v4 ⟨vt, rfl, ho, hc⟩
            obtain ⟨at', ct', rfl⟩ := ho.form2
            have HF_4 := Lib.hid (Rng.own ho)
            clear ho
            have hs := hc.size
            have HS4 : Hid (v3.heap.size ≤ v4.heap.size) := Lib.hid hs
            have HB_4 := Lib.hid (HB_3.out.trans (hc.mono HB_3.out.size))
            have HS_4 := Lib.hid ((hc.block _ (Array.getElem?_eq_some_iff.1 HS_3.out).1).trans HS_3.out)
            have HP_4 := Lib.hid (HP_3.out.below hc)
            have HT_4 := Lib.hid ((hc.block _ (Array.getElem?_eq_some_iff.1 HT_3.out).1).trans HT_3.out)
            clear hc hs
            refine hK.out _ _ ?_ (fun hHeld => ?_)
            · ((try dsimp only); exact ⟨((HB_4.out).cell (p := ⟨w.heap.size, 0, none⟩) HLT.out).trans HY.out.1, ((HB_4.out).cell (p := ⟨w.heap.size, 1, none⟩) HLT.out).trans HY.out.2.1, ((HB_4.out).cell (p := ⟨w.heap.size, 2, none⟩) HLT.out).trans HY.out.2.2.1, ((HB_4.out).cell (p := ⟨w.heap.size, 3, none⟩) HLT.out).trans HY.out.2.2.2.1, ((HB_4.out).cell (p := ⟨w.heap.size, 4, none⟩) HLT.out).trans HY.out.2.2.2.2⟩)
            clear hK K
            try simp only [Act.put, List.setIfInBounds_toArray, List.set_cons_zero, List.set_cons_succ, List.getElem_toArray, List.getElem_cons_zero, List.getElem_cons_succ]
            refine wpAnyH_take (i := 13) (v := ?_) rfl (by kernel_rfl) (by kernel_rfl) (by kernel_rfl) (fun _ _ _ h => h) (Or.inl ⟨by rfl, ?_⟩) (by assumption) ?_
            rotate_left 1
            · (intro w hSw; (try dsimp only at hSw); first | (go_simp; done) | (go_simp; with_reducible rfl))
            try simp only [Act.put, List.setIfInBounds_toArray, List.set_cons_zero, List.set_cons_succ, List.getElem_toArray, List.getElem_cons_zero, List.getElem_cons_succ]
            refine wpAnyH_ready (rs := [14]) (by kernel_rfl) (by simp) ?_
            refine AllReadyH.cons rfl (fun K hK => ?_) AllReadyH.nil
            go_simp
            obtain ⟨wc, hwc⟩ : ∃ wc, wc = v4.alloc (.cells (newC (.slice (some ⟨gp, 0, none⟩) p p) (.slice at' Tb.freshL.length ct') R gT gS p T) 84) := ⟨_, rfl⟩
            have hwc2 := hwc
            unfold newC at hwc2
            rw [← hwc2]
            clear hwc2
            have hb5 : Below v4.heap.size v4 wc := by rw [hwc]; exact (Below.refl _ _).alloc (Nat.le_refl _) _
            have HWC := Lib.hid hwc
            clear hwc
            have HB_5 := Lib.hid (HB_4.out.trans (hb5.mono HB_4.out.size))
            clear hb5
            refine hK.out _ _ ?_ (fun hHeld => ?_)
            · ((try dsimp only); exact ⟨((HB_5.out).cell (p := ⟨w.heap.size, 0, none⟩) HLT.out).trans HY.out.1, ((HB_5.out).cell (p := ⟨w.heap.size, 1, none⟩) HLT.out).trans HY.out.2.1, ((HB_5.out).cell (p := ⟨w.heap.size, 2, none⟩) HLT.out).trans HY.out.2.2.1, ((HB_5.out).cell (p := ⟨w.heap.size, 3, none⟩) HLT.out).trans HY.out.2.2.2.1, ((HB_5.out).cell (p := ⟨w.heap.size, 4, none⟩) HLT.out).trans HY.out.2.2.2.2⟩)
            clear hK K
            try simp only [Act.put, List.setIfInBounds_toArray, List.set_cons_zero, List.set_cons_succ, List.getElem_toArray, List.getElem_cons_zero, List.getElem_cons_succ]
            refine wpAnyH_take (i := 15) (v := ?_) rfl (by kernel_rfl) (by kernel_rfl) (by kernel_rfl) (fun _ _ _ h => h) (Or.inl ⟨by rfl, ?_⟩) (by assumption) ?_
            rotate_left 1
            · (intro w hSw; (try dsimp only at hSw); first | (go_simp; done) | (go_simp; with_reducible rfl))
            try simp only [Act.put, List.setIfInBounds_toArray, List.set_cons_zero, List.set_cons_succ, List.getElem_toArray, List.getElem_cons_zero, List.getElem_cons_succ]
            refine wpAnyH_done (by kernel_rfl) ?_ _
            go_wp2_with fail
            go_meet
            refine ⟨_, rfl, Lib.hid ⟨nw_make (HBW.out.trans (HB_4.out.mono HBW.out.size)) HP_4.out HF_4.out HL.out HT_4.out HS_4.out hkT hkS ?_ ?_ ?_ ?_ ?_ ?_ ?_ HWC.out, (HB_5.out.block _ HLT.out).trans HX2.out⟩⟩
            all_goals (have q0 := HBW.out.size; have q1 := HS1.out; have q2 := HS2.out; have q3 := HS3.out; have q4 := HS4.out; have q5 := HET.out; have q6 := HES.out; have q7 := HZT.out; have q8 := HZS.out; have q9 := HLT.out; omega)
      · go_simp
        have hn := heap_alloc_new v1 oT
        have hc : Below v1.heap.size v1 (v1.alloc oT) := (Below.refl _ _).alloc (Nat.le_refl _) _
        have hz : (v1.alloc oT).heap.size = v1.heap.size + 1 := by simp
        obtain ⟨gT, hgT⟩ : ∃ g, g = v1.heap.size := ⟨_, rfl⟩
        have HET := Lib.hid hgT
        rw [← hgT] at hn ⊢
        generalize v1.alloc oT = v2 at *
        have HT_2 := Lib.hid hn
        have HZT := Lib.hid hz
        clear hn hz hgT
        have hs := hc.size
        have HS2 : Hid (v1.heap.size ≤ v2.heap.size) := Lib.hid hs
        have HB_2 := Lib.hid (HB_1.out.trans (hc.mono HB_1.out.size))
        have HS_2 := Lib.hid ((hc.block _ (Array.getElem?_eq_some_iff.1 HS_1.out).1).trans HS_1.out)
        clear hc hs
        refine hK.out _ _ ?_ (fun hHeld => ?_)
        · ((try dsimp only); exact ⟨((HB_2.out).cell (p := ⟨w.heap.size, 0, none⟩) HLT.out).trans HY.out.1, ((HB_2.out).cell (p := ⟨w.heap.size, 1, none⟩) HLT.out).trans HY.out.2.1, ((HB_2.out).cell (p := ⟨w.heap.size, 2, none⟩) HLT.out).trans HY.out.2.2.1, ((HB_2.out).cell (p := ⟨w.heap.size, 3, none⟩) HLT.out).trans HY.out.2.2.2.1, ((HB_2.out).cell (p := ⟨w.heap.size, 4, none⟩) HLT.out).trans HY.out.2.2.2.2⟩)
        clear hK K
        try simp only [Act.put, List.setIfInBounds_toArray, List.set_cons_zero, List.set_cons_succ, List.getElem_toArray, List.getElem_cons_zero, List.getElem_cons_succ]
        refine wpAnyH_ready (rs := [2]) (by kernel_rfl) (by simp) ?_
        refine AllReadyH.cons rfl (fun K hK => ?_) <| AllReadyH.nil
        · go_simp
          go_at_call 28
          refine (paths_any (HV.out.below HB_2.out) (HI.out.below HB_2.out) HG.out).mono ?_
          rintro e v3 ⟨vp, M, rfl, ⟨gp, rp, rfl, hM⟩, hl, hc⟩
          have HP_3 := Lib.hid (Rng.mat ⟨gp, rp, rfl, hM⟩)
          have HL := Lib.hid hl
          clear hl hM
          have hs := hc.size
          have HS3 : Hid (v2.heap.size ≤ v3.heap.size) := Lib.hid hs
          have HB_3 := Lib.hid (HB_2.out.trans (hc.mono HB_2.out.size))
          have HS_3 := Lib.hid ((hc.block _ (Array.getElem?_eq_some_iff.1 HS_2.out).1).trans HS_2.out)
          have HT_3 := Lib.hid ((hc.block _ (Array.getElem?_eq_some_iff.1 HT_2.out).1).trans HT_2.out)
          clear hc hs
          refine hK.out _ _ ?_ (fun hHeld => ?_)
          · ((try dsimp only); exact ⟨((HB_3.out).cell (p := ⟨w.heap.size, 0, none⟩) HLT.out).trans HY.out.1, ((HB_3.out).cell (p := ⟨w.heap.size, 1, none⟩) HLT.out).trans HY.out.2.1, ((HB_3.out).cell (p := ⟨w.heap.size, 2, none⟩) HLT.out).trans HY.out.2.2.1, ((HB_3.out).cell (p := ⟨w.heap.size, 3, none⟩) HLT.out).trans HY.out.2.2.2.1, ((HB_3.out).cell (p := ⟨w.heap.size, 4, none⟩) HLT.out).trans HY.out.2.2.2.2⟩)
          clear hK K
          try simp only [Act.put, List.setIfInBounds_toArray, List.set_cons_zero, List.set_cons_succ, List.getElem_toArray, List.getElem_cons_zero, List.getElem_cons_succ]
          refine wpAnyH_ready (rs := [5]) (by kernel_rfl) (by simp) ?_
          refine AllReadyH.cons rfl (fun K hK => ?_) <| AllReadyH.nil
          · go_simp
            go_at_call 29
            refine (Tb.fresh_any _).mono ?_
            rintro e v4 ⟨vt, rfl, ho, hc⟩
            obtain ⟨at', ct', rfl⟩ := ho.form2
            have HF_4 := Lib.hid (Rng.own ho)
            clear ho
            have hs := hc.size
            have HS4 : Hid (v3.heap.size ≤ v4.heap.size) := Lib.hid hs
            have HB_4 := Lib.hid (HB_3.out.trans (hc.mono HB_3.out.size))
            have HS_4 := Lib.hid ((hc.block _ (Array.getElem?_eq_some_iff.1 HS_3.out).1).trans HS_3.out)
            have HT_4 := Lib.hid ((hc.block _ (Array.getElem?_eq_some_iff.1 HT_3.out).1).trans HT_3.out)
            have HP_4 := Lib.hid (HP_3.out.below hc)
            clear hc hs
            refine hK.out _ _ ?_ (fun hHeld => ?_)
            · ((try dsimp only); exact ⟨((HB_4.out).cell (p := ⟨w.heap.size, 0, none⟩) HLT.out).trans HY.out.1, ((HB_4.out).cell (p := ⟨w.heap.size, 1, none⟩) HLT.out).trans HY.out.2.1, ((HB_4.out).cell (p := ⟨w.heap.size, 2, none⟩) HLT.out).trans HY.out.2.2.1, ((HB_4.out).cell (p := ⟨w.heap.size, 3, none⟩) HLT.out).trans HY.out.2.2.2.1, ((HB_4.out).cell (p := ⟨w.heap.size, 4, none⟩) HLT.out).trans HY.out.2.2.2.2⟩)
            clear hK K
            try simp only [Act.put, List.setIfInBounds_toArray, List.set_cons_zero, List.set_cons_succ, List.getElem_toArray, List.getElem_cons_zero, List.getElem_cons_succ]
            refine wpAnyH_take (i := 13) (v := ?_) rfl (by kernel_rfl) (by kernel_rfl) (by kernel_rfl) (fun _ _ _ h => h) (Or.inl ⟨by rfl, ?_⟩) (by assumption) ?_
            rotate_left 1
            · (intro w hSw; (try dsimp only at hSw); first | (go_simp; done) | (go_simp; with_reducible rfl))
            try simp only [Act.put, List.setIfInBounds_toArray, List.set_cons_zero, List.set_cons_succ, List.getElem_toArray, List.getElem_cons_zero, List.getElem_cons_succ]
            refine wpAnyH_ready (rs := [14]) (by kernel_rfl) (by simp) ?_
            refine AllReadyH.cons rfl (fun K hK => ?_) AllReadyH.nil
            go_simp
            obtain ⟨wc, hwc⟩ : ∃ wc, wc = v4.alloc (.cells (newC (.slice (some ⟨gp, 0, none⟩) p p) (.slice at' Tb.freshL.length ct') R gT gS p T) 84) := ⟨_, rfl⟩
            have hwc2 := hwc
            unfold newC at hwc2
            rw [← hwc2]
            clear hwc2
            have hb5 : Below v4.heap.size v4 wc := by rw [hwc]; exact (Below.refl _ _).alloc (Nat.le_refl _) _
            have HWC := Lib.hid hwc
            clear hwc
            have HB_5 := Lib.hid (HB_4.out.trans (hb5.mono HB_4.out.size))
            clear hb5
            refine hK.out _ _ ?_ (fun hHeld => ?_)
            · ((try dsimp only); exact ⟨((HB_5.out).cell (p := ⟨w.heap.size, 0, none⟩) HLT.out).trans HY.out.1, ((HB_5.out).cell (p := ⟨w.heap.size, 1, none⟩) HLT.out).trans HY.out.2.1, ((HB_5.out).cell (p := ⟨w.heap.size, 2, none⟩) HLT.out).trans HY.out.2.2.1, ((HB_5.out).cell (p := ⟨w.heap.size, 3, none⟩) HLT.out).trans HY.out.2.2.2.1, ((HB_5.out).cell (p := ⟨w.heap.size, 4, none⟩) HLT.out).trans HY.out.2.2.2.2⟩)
            clear hK K
            try simp only [Act.put, List.setIfInBounds_toArray, List.set_cons_zero, List.set_cons_succ, List.getElem_toArray, List.getElem_cons_zero, List.getElem_cons_succ]
            refine wpAnyH_take (i := 15) (v := ?_) rfl (by kernel_rfl) (by kernel_rfl) (by kernel_rfl) (fun _ _ _ h => h) (Or.inl ⟨by rfl, ?_⟩) (by assumption) ?_
            rotate_left 1
            · (intro w hSw; (try dsimp only at hSw); first | (go_simp; done) | (go_simp; with_reducible rfl))
            try simp only [Act.put, List.setIfInBounds_toArray, List.set_cons_zero, List.set_cons_succ, List.getElem_toArray, List.getElem_cons_zero, List.getElem_cons_succ]
            refine wpAnyH_done (by kernel_rfl) ?_ _
            go_wp2_with fail
            go_meet
            refine ⟨_, rfl, Lib.hid ⟨nw_make (HBW.out.trans (HB_4.out.mono HBW.out.size)) HP_4.out HF_4.out HL.out HT_4.out HS_4.out hkT hkS ?_ ?_ ?_ ?_ ?_ ?_ ?_ HWC.out, (HB_5.out.block _ HLT.out).trans HX2.out⟩⟩
            all_goals (have q0 := HBW.out.size; have q1 := HS1.out; have q2 := HS2.out; have q3 := HS3.out; have q4 := HS4.out; have q5 := HET.out; have q6 := HES.out; have q7 := HZT.out; have q8 := HZS.out; have q9 := HLT.out; omega)

  case rest =>
    obtain ⟨b, rfl, hN⟩ := hcut
    obtain ⟨⟨τ, c, M, hnw, ⟨ht0, htn⟩, hk, hl, hbl⟩, hxp⟩ := hN.out
    have HNW := Lib.hid hnw
    have HT0 := Lib.hid ht0
    have HK := Lib.hid hk
    have HL := Lib.hid hl
    have HBL := Lib.hid hbl
    have HPX := Lib.hid (Pers.blk hxp htn)
    obtain ⟨y0, y1, y2, y3, y4, _, _⟩ := cells7 hxp
    clear hN hnw ht0 htn hk hl hbl hxp HB_0 HY HLT HI HV HX2 HBW hmT hmS hkT hkS HG
    refine ‹∀ (a : Act) (w : World), Code.wp _ _ _ a w → _› _ _ ?_
    go_wp2_with fail
    clear y0 y1 y2 y3 y4
    go_loopg [32] I.length (fun k s32 wr => ∃ i : Nat, i + k = I.length ∧ s32 = .int .i64 i ∧ Hid (NwL τ c b I T i wc wr))
    case atStart => exact ⟨0, by omega, rfl, Lib.hid ⟨τ, c.vt, List.replicate T tv0, HNW.out, StepM.refl _ _⟩⟩
    case round =>
      obtain ⟨i, hik, rfl, hst⟩ := hrel
      obtain ⟨τ', vt, tv, hnw, hst⟩ := hst.out
      have HIK := Lib.hid hik
      have HN := Lib.hid hnw
      have HST := Lib.hid hst
      obtain ⟨y0, y1, y2, y3, y4, _, _⟩ := cells7 (HPX.out.size hst).out
      have hbw : Below w.heap.size w wr := HBL.out.trans (hst.low HT0.out HBL.out.size)
      have HBW := Lib.hid hbw
      clear hik hnw hst
      have hi0 : (0 : Int) ≤ (i : Int) := Int.natCast_nonneg _
      by_cases hlt : i < I.length
      · have hi1 : (i : Int) < (I.length : Int) := by omega
        obtain ⟨x, hx⟩ : ∃ x, I[i]? = some x := ⟨_, List.getElem?_eq_getElem hlt⟩
        obtain ⟨b', o', e, hc⟩ := rdi_at (HI0.out.below hbw) hx
        simp only [Option.some.injEq, Addr.mk.injEq] at e
        obtain ⟨rfl, rfl, _⟩ := e
        have hT0 : ¬ (T : Int) = 0 := by have := HT8.out.1.1; omega
        have hmod : (i : Int).tmod (T : Int) = ((i % T : Nat) : Int) := rfl
        have HX := Lib.hid hx
        have HLT := Lib.hid hlt
        clear hbw hx hlt
        have HC := Lib.hid (show Calls Tryz.prog 30 #[.pointer (some ⟨b, 0, none⟩), .int .i64 ((i % T : Nat) : Int), .int .i64 x] wr fun e w' => e = .returned (.tuple #[]) ∧ ∃ τ'' vt'' tv', NwAt τ'' w' b { c with vt := vt'' } tv' I T (i + 1) ∧ StepM τ' τ'' wr w' by
          have h := mdCome_any (j := i % T) HN.out rfl (Nat.mod_lt _ (by have := HT8.out.1.1; omega)) (by have := HT8.out.2.2.2; have := HLT.out; omega)
          rw [show I.getD i 0 = x by rw [List.getD_eq_getElem?_getD, HX.out]; rfl] at h
          exact h)
        go_wp2_with fail
        go_at_call 30
        refine HC.out.mono ?_
        rintro e w3 ⟨rfl, τ3, vt3, tv3, hn3, hs3⟩
        have HF := Lib.hid (show NwL τ c b I T (i + 1) wc w3 from ⟨τ3, vt3, tv3, hn3, HST.out.trans hs3⟩)
        clear hn3 hs3 y0 y1 y2 y3 y4 hc hmod hT0
        go_wp2_with fail
        go_roundg (gk - 1)
        case measure => have := HIK.out; have := HLT.out; omega
        case rel => exact ⟨i + 1, by have := HIK.out; have := HLT.out; omega, by go_num, HF.out⟩
      · have hd1 : decide ((i : Int) < (I.length : Int)) = false := decide_eq_false (by omega)
        have hd2 : decide (i < I.length) = false := decide_eq_false hlt
        obtain rfl : i = I.length := by have := HIK.out; omega
        have hmc := HN.out.mc
        have HA := Lib.hid (mdAll_any (L := newL I T) hmc HN.out.row HN.out.nn (by rw [HN.out.nT]; simp [newL]) (HN.out.sls HI0.out.wf (by have := HT8.out.2.2.2; omega)) (newL_few HI0.out.wf (by have := HT8.out.2.2.2; omega)) (by have := HT8.out.1.1; simp [newL]; omega) (by have := HT8.out.1.2; simp [newL]; omega))
        clear hbw hlt hmc y0 y1 y2 y3 y4
        go_wp2_with fail
        go_at_call 12
        refine HA.out.mono ?_
        rintro e w3 ⟨v, rfl, ho, hb3⟩
        obtain ⟨va, vc, rfl⟩ : ∃ a c, v = .slice a (allM (newL I T)).length c := by
          obtain ⟨a, c, h, _⟩ := ho.sl (allM_good (newL_few (T := T) HI0.out.wf (by have := HT8.out.2.2.2; omega))).2.1
          exact ⟨a, c, h⟩
        have hm3 := HN.out.mc.below hb3 HN.out.mc.lt
        have q6 : w3.cell? ⟨b, 6, none⟩ = some c.folded := by unfold McAt at hm3; simp [World.cell?, hm3]
        have q6f := hm3.free 6
        have HD := Lib.hid (nw_done HN.out (HK.out.step HST.out vt) hb3 ho HI0.out.wf (by have := HT8.out.2.2.2; omega) (Nat.le_trans HBL.out.size HST.out.bel.size) (fun k hk => (HST.out.ext k (Nat.lt_of_lt_of_le hk HBL.out.size)).trans (HT0.out k hk)))
        have HB3 := Lib.hid ((HBW.out.trans (hb3.mono HBW.out.size)).setCell (p := ⟨b, 6, none⟩) (show w.heap.size ≤ b from Nat.le_of_not_lt fun h => by have h1 := HN.out.tb; rw [HST.out.ext b (Nat.lt_of_lt_of_le h HBL.out.size), HT0.out b h] at h1; omega) (.slice va (allM (newL I T)).length vc))
        clear ho hb3 hm3
        go_wp2_with fail
        go_ret2
        obtain ⟨τf, h1, h2⟩ := HD.out
        exact ⟨b, τf, M, rfl, h1, HL.out, h2, HB3.out⟩
end Go.Proofs.YtdllgeanmlmmfaaGreatDoor.Md
