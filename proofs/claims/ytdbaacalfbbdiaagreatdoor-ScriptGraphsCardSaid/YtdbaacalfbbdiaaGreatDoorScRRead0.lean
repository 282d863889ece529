/-
  marchlandref18: Read of no bytes. (gen/scrread0.py)
-/
import Derived.Test.YtdbaacalfbbdiaaGreatDoorScRead0
namespace Go.Proofs.YtdbaacalfbbdiaaGreatDoor.Sc
open Go.RowKit
set_option linter.unusedVariables false
set_option linter.unusedSimpArgs false
theorem rat_nil (i : Nat) (hi : i ≤ 100) (w : World) : Calls Tryz.prog 71 #[.slice none 0 0, .int .i64 (i : Int)] w fun e w' => e = .returned (.int .i64 0) ∧ w' = w := by
  have h0 : (0 : Int) ≤ (i : Int) := Int.natCast_nonneg _
  go_enter Tryz.func71, Tryz.ntmps71
  go_wp2_with fail
  go_ret
  exact ⟨rfl, rfl⟩
set_option maxRecDepth 1000000 in
set_option maxHeartbeats 8000000 in
theorem rplan_nil (w : World) : Calls Tryz.prog 47 #[.slice none 0 0] w fun e w' => ∃ g, e = .returned (.agg #[.int .i64 1, .slice none 0 0, .slice (some ⟨g, 0, none⟩) 1 1, .int .i64 1, .int .i64 1, .int .i64 1, .int .i64 1]) ∧ w.heap.size ≤ g ∧ w'.heap[g]? = some (.cells #[.int .i64 0] 3 (0, 0)) ∧ Below w.heap.size w w' := by
  obtain ⟨w1, hw1⟩ : ∃ w1, w1 = w.alloc (.cells #[.int .i64 0, .slice none 0 0, .slice none 0 0, .int .i64 0, .int .i64 0, .int .i64 0, .int .i64 0] 61) := ⟨_, rfl⟩
  have hz1 : w1.heap[w.heap.size]? = some (.cells #[.int .i64 0, .slice none 0 0, .slice none 0 0, .int .i64 0, .int .i64 0, .int .i64 0, .int .i64 0] 61 (0, 0)) := by rw [hw1]; exact heap_alloc_new w _
  have HB1 := Lib.hid (show Below w.heap.size w w1 by rw [hw1]; exact (Below.refl _ _).alloc (Nat.le_refl _) _)
  obtain ⟨z, hz⟩ : ∃ z, z = w.heap.size := ⟨_, rfl⟩
  rw [← hz] at hz1
  have HZZ := Lib.hid hz
  have HZ1 := Lib.hid hz1
  go_enter Tryz.func47, Tryz.ntmps47
  go_upto_region 1 with fail
  rw [← hw1, ← hz]
  clear hw1 hz hz1
  go_wp2_with fail
  go_at_call 71
  refine (rat_nil 0 (by decide) w1).mono ?_
  rintro e w9 ⟨rfl, hw⟩
  obtain rfl := hw.symm
  clear hw
  go_upto_region 2 with fail
  obtain ⟨w2, hw2⟩ : ∃ w2, w2 = w1.alloc (.cells #[.int .i64 0] 3) := ⟨_, rfl⟩
  have hg2 : w2.heap[w1.heap.size]? = some (.cells #[.int .i64 0] 3 (0, 0)) := by rw [hw2]; exact heap_alloc_new w1 _
  have hb2 : Below w1.heap.size w1 w2 := by rw [hw2]; exact (Below.refl _ _).alloc (Nat.le_refl _) _
  obtain ⟨g, hg⟩ : ∃ g, g = w1.heap.size := ⟨_, rfl⟩
  rw [← hw2, ← hg]
  rw [← hg] at hg2
  obtain ⟨w3, hw3⟩ : ∃ w3, w3 = w2.alloc (.cells #[.int .i64 1, .slice none 0 0, .slice (some ⟨g, 0, none⟩) 1 1] 44) := ⟨_, rfl⟩
  have hs3 : w3.heap[w2.heap.size]? = some (.cells #[.int .i64 1, .slice none 0 0, .slice (some ⟨g, 0, none⟩) 1 1] 44 (0, 0)) := by rw [hw3]; exact heap_alloc_new w2 _
  have hb3 : Below w2.heap.size w2 w3 := by rw [hw3]; exact (Below.refl _ _).alloc (Nat.le_refl _) _
  obtain ⟨s, hs⟩ : ∃ s, s = w2.heap.size := ⟨_, rfl⟩
  have hsg : s = g + 1 := by rw [hs, hw2, hg]; simp
  rw [← hw3, ← hsg]
  rw [← hs] at hs3
  have HB12 := Lib.hid hb2
  have HB13 := Lib.hid (hb2.trans (hb3.mono hb2.size))
  have HG3 := Lib.hid ((hb3.block g (Array.getElem?_eq_some_iff.1 hg2).1).trans hg2)
  have HZ3 := Lib.hid ((HB13.out.block z (Array.getElem?_eq_some_iff.1 HZ1.out).1).trans HZ1.out)
  have HGE := Lib.hid hg
  have HSL := Lib.hid (Array.getElem?_eq_some_iff.1 hs3).1
  have HNZ := Lib.hid (show z ≠ s ∧ g ≠ z by have h1 := (Array.getElem?_eq_some_iff.1 HZ1.out).1; have h2 := hb2.size; omega)
  obtain ⟨a0, a1, a2⟩ := cells3 hs3
  clear hw2 hg2 hb2 hg hw3 hs3 hb3 hs hsg
  go_wp2_with fail
  go_loopg [4] 1 (fun k t wr => k = 1 ∧ t = .int .i64 0 ∧ wr = w3)
  case atStart => exact ⟨rfl, rfl, rfl⟩
  case round =>
    obtain ⟨_, rfl, hwr3⟩ := hrel
    obtain rfl := hwr3.symm
    clear hwr3
    go_wp2_with fail
    go_at_call 71
    refine (rat_nil 1 (by decide) _).mono ?_
    rintro e w9 ⟨rfl, hw⟩
    obtain rfl := hw.symm
    clear hw
    go_wp2_with fail
    go_at_call 71
    refine (rat_nil 0 (by decide) _).mono ?_
    rintro e w9 ⟨rfl, hw⟩
    obtain rfl := hw.symm
    clear hw
    go_upto_region 12 with fail
    refine wp_region_held_drew (S := fun w' => w'.cell? ⟨s, 0, none⟩ = some (.int .i64 1) ∧ w'.cell? ⟨s, 1, none⟩ = some (.slice none 0 0) ∧ w'.cell? ⟨s, 2, none⟩ = some (.slice (some ⟨g, 0, none⟩) 1 1)) (by kernel_rfl) ?_ (fun hHeld => ?_)
    · ((try dsimp only); exact ⟨a0, a1, a2⟩)
    have hwr : IntKind.i64.wrap 1 = 1 := by decide
    refine Qt 0 (fun _ => ?_)
    refine Qt 1 (fun _ => ?_)
    refine Qt 6 (fun _ => ?_)
    refine Qt 11 (fun _ => ?_)
    refine Qt 15 (fun _ => ?_)
    refine wpAnyH_ready (rs := [2, 5]) (by kernel_rfl) (by simp) ?_
    refine AllReadyH.cons rfl (fun K hK => ?_) (AllReadyH.cons rfl (fun K hK => ?_) AllReadyH.nil)
    · go_simp
      go_at_call 71
      refine (rat_nil 2 (by decide) _).mono ?_
      rintro e w9 ⟨rfl, hw⟩
      obtain rfl := hw.symm
      clear hw
      try go_wp2_with fail
      refine hK.out _ _ ?_ (fun hHeld => ?_)
      · ((try dsimp only); exact ⟨a0, a1, a2⟩)
      clear hK K
      try simp only [Act.put, Qa, Qb, Qc, Qd, Qe, Qf]
      refine Qt 3 (fun _ => ?_)
      refine Qt 4 (fun _ => ?_)
      refine wpAnyH_ready (rs := [5, 7]) (by kernel_rfl) (by simp) ?_
      refine AllReadyH.cons rfl (fun K hK => ?_) (AllReadyH.cons rfl (fun K hK => ?_) AllReadyH.nil)
      · go_simp
        obtain ⟨w4, hw4⟩ : ∃ w4, w4 = w3.drew.alloc (.cells #[.int .i64 1, .int .i64 2, .int .i64 4] 3) := ⟨_, rfl⟩
        have HBo := Lib.hid (show Below w3.heap.size w3 w4 by rw [hw4]; exact (below_drewN (Below.refl _ _) 1).alloc (Nat.le_refl _) _)
        have lo : w4.cell? ⟨w3.heap.size, 0, none⟩ = some (.int .i64 1) := by have h := heap_alloc_new w3.drew (.cells #[.int .i64 1, .int .i64 2, .int .i64 4] 3); rw [← hw4] at h; have h2 : w4.heap[w3.heap.size]? = _ := h; rw [World.cell?, h2]; rfl
        first | rw [← hw4] | rw [show (w3.alloc (.cells #[.int .i64 1, .int .i64 2, .int .i64 4] 3)).drew = w4 from hw4.symm]
        clear hw4
        refine hK.out _ _ ?_ (fun hHeld => ?_)
        · ((try dsimp only); exact ⟨Kc HBo.out HSL.out a0, Kc HBo.out HSL.out a1, Kc HBo.out HSL.out a2⟩)
        clear hK K
        try simp only [Act.put, Qa, Qb, Qc, Qd, Qe, Qf]
        refine Qr 7 fun K hK => ?_
        go_simp
        go_at_call 71
        refine (rat_nil 3 (by decide) _).mono ?_
        rintro e w9 ⟨rfl, hw⟩
        obtain rfl := hw.symm
        clear hw
        try go_wp2_with fail
        refine hK.out _ _ ?_ (fun hHeld => ?_)
        · ((try dsimp only); exact ⟨Kc HBo.out HSL.out a0, Kc HBo.out HSL.out a1, Kc HBo.out HSL.out a2⟩)
        clear hK K
        try simp only [Act.put, Qa, Qb, Qc, Qd, Qe, Qf]
        refine Qt 8 (fun _ => ?_)
        refine Qt 9 (fun _ => ?_)
        refine wpAnyH_ready (rs := [10, 12]) (by kernel_rfl) (by simp) ?_
        refine AllReadyH.cons rfl (fun K hK => ?_) (AllReadyH.cons rfl (fun K hK => ?_) AllReadyH.nil)
        · go_simp
          try go_wp2_with fail
          refine hK.out _ _ ?_ (fun hHeld => ?_)
          · ((try dsimp only); exact ⟨Kc HBo.out HSL.out a0, Kc HBo.out HSL.out a1, Kc HBo.out HSL.out a2⟩)
          clear hK K
          try simp only [Act.put, Qa, Qb, Qc, Qd, Qe, Qf]
          refine Qr 12 fun K hK => ?_
          go_simp
          go_at_call 71
          refine (rat_nil 4 (by decide) _).mono ?_
          rintro e w9 ⟨rfl, hw⟩
          obtain rfl := hw.symm
          clear hw
          try go_wp2_with fail
          refine hK.out _ _ ?_ (fun hHeld => ?_)
          · ((try dsimp only); exact ⟨Kc HBo.out HSL.out a0, Kc HBo.out HSL.out a1, Kc HBo.out HSL.out a2⟩)
          clear hK K
          try simp only [Act.put, Qa, Qb, Qc, Qd, Qe, Qf]
          refine Qt 13 (fun _ => ?_)
          refine Qt 14 (fun _ => ?_)
          refine Qr 16 fun K hK => ?_
          go_simp
          go_at_call 71
          refine (rat_nil 5 (by decide) _).mono ?_
          rintro e w9 ⟨rfl, hw⟩
          obtain rfl := hw.symm
          clear hw
          try go_wp2_with fail
          refine hK.out _ _ ?_ (fun hHeld => ?_)
          · ((try dsimp only); exact ⟨Kc HBo.out HSL.out a0, Kc HBo.out HSL.out a1, Kc HBo.out HSL.out a2⟩)
          clear hK K
          try simp only [Act.put, Qa, Qb, Qc, Qd, Qe, Qf]
          refine Qt 17 (fun _ => ?_)
          refine Qt 18 (fun _ => ?_)
          refine Qt 19 (fun _ => ?_)
          have hz3 := (HBo.out.block z (Array.getElem?_eq_some_iff.1 HZ3.out).1).trans HZ3.out
          obtain ⟨z0, z1, z2, z3, z4, z5, z6⟩ := cells7' hz3
          have zf0 := free_of hz3 0
          have zf1 := free_of hz3 1
          have zf2 := free_of hz3 2
          have zf3 := free_of hz3 3
          have zf4 := free_of hz3 4
          have zf5 := free_of hz3 5
          have zf6 := free_of hz3 6
          have HR7 := Lib.hid (cells7' (heap_setCell_same _ z 6 _ _ (.int .i64 1) (heap_setCell_same _ z 5 _ _ (.int .i64 1) (heap_setCell_same _ z 4 _ _ (.int .i64 1) (heap_setCell_same _ z 3 _ _ (.int .i64 1) (heap_setCell_same _ z 2 _ _ (.slice (some ⟨g, 0, none⟩) 1 1) (heap_setCell_same _ z 1 _ _ (.slice none 0 0) (heap_setCell_same _ z 0 _ _ (.int .i64 1) hz3))))))))
          have HGF := Lib.hid ((heap_setCell_other _ ⟨z, 6, none⟩ _ (.int .i64 1) HNZ.out.2).trans ((heap_setCell_other _ ⟨z, 5, none⟩ _ (.int .i64 1) HNZ.out.2).trans ((heap_setCell_other _ ⟨z, 4, none⟩ _ (.int .i64 1) HNZ.out.2).trans ((heap_setCell_other _ ⟨z, 3, none⟩ _ (.int .i64 1) HNZ.out.2).trans ((heap_setCell_other _ ⟨z, 2, none⟩ _ (.slice (some ⟨g, 0, none⟩) 1 1) HNZ.out.2).trans ((heap_setCell_other _ ⟨z, 1, none⟩ _ (.slice none 0 0) HNZ.out.2).trans ((heap_setCell_other _ ⟨z, 0, none⟩ _ (.int .i64 1) HNZ.out.2).trans ((HBo.out.block g (Array.getElem?_eq_some_iff.1 HG3.out).1).trans HG3.out))))))))
          have HBF := Lib.hid ((((((((HB1.out.trans ((HB13.out.trans (HBo.out.mono HB13.out.size)).mono HB1.out.size)).setCell (p := ⟨z, 0, none⟩) (Nat.le_of_eq HZZ.out.symm) (.int .i64 1)).setCell (p := ⟨z, 1, none⟩) (Nat.le_of_eq HZZ.out.symm) (.slice none 0 0)).setCell (p := ⟨z, 2, none⟩) (Nat.le_of_eq HZZ.out.symm) (.slice (some ⟨g, 0, none⟩) 1 1)).setCell (p := ⟨z, 3, none⟩) (Nat.le_of_eq HZZ.out.symm) (.int .i64 1)).setCell (p := ⟨z, 4, none⟩) (Nat.le_of_eq HZZ.out.symm) (.int .i64 1)).setCell (p := ⟨z, 5, none⟩) (Nat.le_of_eq HZZ.out.symm) (.int .i64 1)).setCell (p := ⟨z, 6, none⟩) (Nat.le_of_eq HZZ.out.symm) (.int .i64 1))
          clear hz3
          try simp only [hwr]
          refine Qr 20 fun K hK => ?_
          go_simp
          refine hK.out _ _ ?_ (fun hHeld => ?_)
          · ((try dsimp only); exact ⟨(World.cell?_setCell_far _ _ _ _ HNZ.out.1).trans ((World.cell?_setCell_far _ _ _ _ HNZ.out.1).trans ((World.cell?_setCell_far _ _ _ _ HNZ.out.1).trans ((World.cell?_setCell_far _ _ _ _ HNZ.out.1).trans ((World.cell?_setCell_far _ _ _ _ HNZ.out.1).trans ((World.cell?_setCell_far _ _ _ _ HNZ.out.1).trans ((World.cell?_setCell_far _ _ _ _ HNZ.out.1).trans (Kc HBo.out HSL.out a0))))))), (World.cell?_setCell_far _ _ _ _ HNZ.out.1).trans ((World.cell?_setCell_far _ _ _ _ HNZ.out.1).trans ((World.cell?_setCell_far _ _ _ _ HNZ.out.1).trans ((World.cell?_setCell_far _ _ _ _ HNZ.out.1).trans ((World.cell?_setCell_far _ _ _ _ HNZ.out.1).trans ((World.cell?_setCell_far _ _ _ _ HNZ.out.1).trans ((World.cell?_setCell_far _ _ _ _ HNZ.out.1).trans (Kc HBo.out HSL.out a1))))))), (World.cell?_setCell_far _ _ _ _ HNZ.out.1).trans ((World.cell?_setCell_far _ _ _ _ HNZ.out.1).trans ((World.cell?_setCell_far _ _ _ _ HNZ.out.1).trans ((World.cell?_setCell_far _ _ _ _ HNZ.out.1).trans ((World.cell?_setCell_far _ _ _ _ HNZ.out.1).trans ((World.cell?_setCell_far _ _ _ _ HNZ.out.1).trans ((World.cell?_setCell_far _ _ _ _ HNZ.out.1).trans (Kc HBo.out HSL.out a2)))))))⟩)
          clear hK K
          try simp only [Act.put, Qa, Qb, Qc, Qd, Qe, Qf]
          refine wpAnyH_done (by kernel_rfl) ?_ _
          clear z0 z1 z2 z3 z4 z5 z6 zf0 zf1 zf2 zf3 zf4 zf5 zf6 a0 a1 a2 lo
          go_wp2_with fail
          obtain ⟨r0, r1, r2, r3, r4, r5, r6⟩ := HR7.out
          exact bodyPost_ret (v := .agg #[.int .i64 1, .slice none 0 0, .slice (some ⟨g, 0, none⟩) 1 1, .int .i64 1, .int .i64 1, .int .i64 1, .int .i64 1]) (by simp [results, Tryz.results47, go_sem, r0, r1, r2, r3, r4, r5, r6]) rfl ⟨g, rfl, by rw [HGE.out]; exact HB1.out.size, HGF.out, HBF.out⟩
        · go_simp
          go_at_call 71
          refine (rat_nil 4 (by decide) _).mono ?_
          rintro e w9 ⟨rfl, hw⟩
          obtain rfl := hw.symm
          clear hw
          try go_wp2_with fail
          refine hK.out _ _ ?_ (fun hHeld => ?_)
          · ((try dsimp only); exact ⟨Kc HBo.out HSL.out a0, Kc HBo.out HSL.out a1, Kc HBo.out HSL.out a2⟩)
          clear hK K
          try simp only [Act.put, Qa, Qb, Qc, Qd, Qe, Qf]
          refine Qt 13 (fun _ => ?_)
          refine Qt 14 (fun _ => ?_)
          refine wpAnyH_ready (rs := [10, 16]) (by kernel_rfl) (by simp) ?_
          refine AllReadyH.cons rfl (fun K hK => ?_) (AllReadyH.cons rfl (fun K hK => ?_) AllReadyH.nil)
          · go_simp
            try go_wp2_with fail
            refine hK.out _ _ ?_ (fun hHeld => ?_)
            · ((try dsimp only); exact ⟨Kc HBo.out HSL.out a0, Kc HBo.out HSL.out a1, Kc HBo.out HSL.out a2⟩)
            clear hK K
            try simp only [Act.put, Qa, Qb, Qc, Qd, Qe, Qf]
            refine Qr 16 fun K hK => ?_
            go_simp
            go_at_call 71
            refine (rat_nil 5 (by decide) _).mono ?_
            rintro e w9 ⟨rfl, hw⟩
            obtain rfl := hw.symm
            clear hw
            try go_wp2_with fail
            refine hK.out _ _ ?_ (fun hHeld => ?_)
            · ((try dsimp only); exact ⟨Kc HBo.out HSL.out a0, Kc HBo.out HSL.out a1, Kc HBo.out HSL.out a2⟩)
            clear hK K
            try simp only [Act.put, Qa, Qb, Qc, Qd, Qe, Qf]
            refine Qt 17 (fun _ => ?_)
            refine Qt 18 (fun _ => ?_)
            refine Qt 19 (fun _ => ?_)
            have hz3 := (HBo.out.block z (Array.getElem?_eq_some_iff.1 HZ3.out).1).trans HZ3.out
            obtain ⟨z0, z1, z2, z3, z4, z5, z6⟩ := cells7' hz3
            have zf0 := free_of hz3 0
            have zf1 := free_of hz3 1
            have zf2 := free_of hz3 2
            have zf3 := free_of hz3 3
            have zf4 := free_of hz3 4
            have zf5 := free_of hz3 5
            have zf6 := free_of hz3 6
            have HR7 := Lib.hid (cells7' (heap_setCell_same _ z 6 _ _ (.int .i64 1) (heap_setCell_same _ z 5 _ _ (.int .i64 1) (heap_setCell_same _ z 4 _ _ (.int .i64 1) (heap_setCell_same _ z 3 _ _ (.int .i64 1) (heap_setCell_same _ z 2 _ _ (.slice (some ⟨g, 0, none⟩) 1 1) (heap_setCell_same _ z 1 _ _ (.slice none 0 0) (heap_setCell_same _ z 0 _ _ (.int .i64 1) hz3))))))))
            have HGF := Lib.hid ((heap_setCell_other _ ⟨z, 6, none⟩ _ (.int .i64 1) HNZ.out.2).trans ((heap_setCell_other _ ⟨z, 5, none⟩ _ (.int .i64 1) HNZ.out.2).trans ((heap_setCell_other _ ⟨z, 4, none⟩ _ (.int .i64 1) HNZ.out.2).trans ((heap_setCell_other _ ⟨z, 3, none⟩ _ (.int .i64 1) HNZ.out.2).trans ((heap_setCell_other _ ⟨z, 2, none⟩ _ (.slice (some ⟨g, 0, none⟩) 1 1) HNZ.out.2).trans ((heap_setCell_other _ ⟨z, 1, none⟩ _ (.slice none 0 0) HNZ.out.2).trans ((heap_setCell_other _ ⟨z, 0, none⟩ _ (.int .i64 1) HNZ.out.2).trans ((HBo.out.block g (Array.getElem?_eq_some_iff.1 HG3.out).1).trans HG3.out))))))))
            have HBF := Lib.hid ((((((((HB1.out.trans ((HB13.out.trans (HBo.out.mono HB13.out.size)).mono HB1.out.size)).setCell (p := ⟨z, 0, none⟩) (Nat.le_of_eq HZZ.out.symm) (.int .i64 1)).setCell (p := ⟨z, 1, none⟩) (Nat.le_of_eq HZZ.out.symm) (.slice none 0 0)).setCell (p := ⟨z, 2, none⟩) (Nat.le_of_eq HZZ.out.symm) (.slice (some ⟨g, 0, none⟩) 1 1)).setCell (p := ⟨z, 3, none⟩) (Nat.le_of_eq HZZ.out.symm) (.int .i64 1)).setCell (p := ⟨z, 4, none⟩) (Nat.le_of_eq HZZ.out.symm) (.int .i64 1)).setCell (p := ⟨z, 5, none⟩) (Nat.le_of_eq HZZ.out.symm) (.int .i64 1)).setCell (p := ⟨z, 6, none⟩) (Nat.le_of_eq HZZ.out.symm) (.int .i64 1))
            clear hz3
            try simp only [hwr]
            refine Qr 20 fun K hK => ?_
            go_simp
            refine hK.out _ _ ?_ (fun hHeld => ?_)
            · ((try dsimp only); exact ⟨(World.cell?_setCell_far _ _ _ _ HNZ.out.1).trans ((World.cell?_setCell_far _ _ _ _ HNZ.out.1).trans ((World.cell?_setCell_far _ _ _ _ HNZ.out.1).trans ((World.cell?_setCell_far _ _ _ _ HNZ.out.1).trans ((World.cell?_setCell_far _ _ _ _ HNZ.out.1).trans ((World.cell?_setCell_far _ _ _ _ HNZ.out.1).trans ((World.cell?_setCell_far _ _ _ _ HNZ.out.1).trans (Kc HBo.out HSL.out a0))))))), (World.cell?_setCell_far _ _ _ _ HNZ.out.1).trans ((World.cell?_setCell_far _ _ _ _ HNZ.out.1).trans ((World.cell?_setCell_far _ _ _ _ HNZ.out.1).trans ((World.cell?_setCell_far _ _ _ _ HNZ.out.1).trans ((World.cell?_setCell_far _ _ _ _ HNZ.out.1).trans ((World.cell?_setCell_far _ _ _ _ HNZ.out.1).trans ((World.cell?_setCell_far _ _ _ _ HNZ.out.1).trans (Kc HBo.out HSL.out a1))))))), (World.cell?_setCell_far _ _ _ _ HNZ.out.1).trans ((World.cell?_setCell_far _ _ _ _ HNZ.out.1).trans ((World.cell?_setCell_far _ _ _ _ HNZ.out.1).trans ((World.cell?_setCell_far _ _ _ _ HNZ.out.1).trans ((World.cell?_setCell_far _ _ _ _ HNZ.out.1).trans ((World.cell?_setCell_far _ _ _ _ HNZ.out.1).trans ((World.cell?_setCell_far _ _ _ _ HNZ.out.1).trans (Kc HBo.out HSL.out a2)))))))⟩)
            clear hK K
            try simp only [Act.put, Qa, Qb, Qc, Qd, Qe, Qf]
            refine wpAnyH_done (by kernel_rfl) ?_ _
            clear z0 z1 z2 z3 z4 z5 z6 zf0 zf1 zf2 zf3 zf4 zf5 zf6 a0 a1 a2 lo
            go_wp2_with fail
            obtain ⟨r0, r1, r2, r3, r4, r5, r6⟩ := HR7.out
            exact bodyPost_ret (v := .agg #[.int .i64 1, .slice none 0 0, .slice (some ⟨g, 0, none⟩) 1 1, .int .i64 1, .int .i64 1, .int .i64 1, .int .i64 1]) (by simp [results, Tryz.results47, go_sem, r0, r1, r2, r3, r4, r5, r6]) rfl ⟨g, rfl, by rw [HGE.out]; exact HB1.out.size, HGF.out, HBF.out⟩
          · go_simp
            go_at_call 71
            refine (rat_nil 5 (by decide) _).mono ?_
            rintro e w9 ⟨rfl, hw⟩
            obtain rfl := hw.symm
            clear hw
            try go_wp2_with fail
            refine hK.out _ _ ?_ (fun hHeld => ?_)
            · ((try dsimp only); exact ⟨Kc HBo.out HSL.out a0, Kc HBo.out HSL.out a1, Kc HBo.out HSL.out a2⟩)
            clear hK K
            try simp only [Act.put, Qa, Qb, Qc, Qd, Qe, Qf]
            refine Qt 17 (fun _ => ?_)
            refine Qt 18 (fun _ => ?_)
            refine Qr 10 fun K hK => ?_
            go_simp
            try go_wp2_with fail
            refine hK.out _ _ ?_ (fun hHeld => ?_)
            · ((try dsimp only); exact ⟨Kc HBo.out HSL.out a0, Kc HBo.out HSL.out a1, Kc HBo.out HSL.out a2⟩)
            clear hK K
            try simp only [Act.put, Qa, Qb, Qc, Qd, Qe, Qf]
            refine Qt 19 (fun _ => ?_)
            have hz3 := (HBo.out.block z (Array.getElem?_eq_some_iff.1 HZ3.out).1).trans HZ3.out
            obtain ⟨z0, z1, z2, z3, z4, z5, z6⟩ := cells7' hz3
            have zf0 := free_of hz3 0
            have zf1 := free_of hz3 1
            have zf2 := free_of hz3 2
            have zf3 := free_of hz3 3
            have zf4 := free_of hz3 4
            have zf5 := free_of hz3 5
            have zf6 := free_of hz3 6
            have HR7 := Lib.hid (cells7' (heap_setCell_same _ z 6 _ _ (.int .i64 1) (heap_setCell_same _ z 5 _ _ (.int .i64 1) (heap_setCell_same _ z 4 _ _ (.int .i64 1) (heap_setCell_same _ z 3 _ _ (.int .i64 1) (heap_setCell_same _ z 2 _ _ (.slice (some ⟨g, 0, none⟩) 1 1) (heap_setCell_same _ z 1 _ _ (.slice none 0 0) (heap_setCell_same _ z 0 _ _ (.int .i64 1) hz3))))))))
            have HGF := Lib.hid ((heap_setCell_other _ ⟨z, 6, none⟩ _ (.int .i64 1) HNZ.out.2).trans ((heap_setCell_other _ ⟨z, 5, none⟩ _ (.int .i64 1) HNZ.out.2).trans ((heap_setCell_other _ ⟨z, 4, none⟩ _ (.int .i64 1) HNZ.out.2).trans ((heap_setCell_other _ ⟨z, 3, none⟩ _ (.int .i64 1) HNZ.out.2).trans ((heap_setCell_other _ ⟨z, 2, none⟩ _ (.slice (some ⟨g, 0, none⟩) 1 1) HNZ.out.2).trans ((heap_setCell_other _ ⟨z, 1, none⟩ _ (.slice none 0 0) HNZ.out.2).trans ((heap_setCell_other _ ⟨z, 0, none⟩ _ (.int .i64 1) HNZ.out.2).trans ((HBo.out.block g (Array.getElem?_eq_some_iff.1 HG3.out).1).trans HG3.out))))))))
            have HBF := Lib.hid ((((((((HB1.out.trans ((HB13.out.trans (HBo.out.mono HB13.out.size)).mono HB1.out.size)).setCell (p := ⟨z, 0, none⟩) (Nat.le_of_eq HZZ.out.symm) (.int .i64 1)).setCell (p := ⟨z, 1, none⟩) (Nat.le_of_eq HZZ.out.symm) (.slice none 0 0)).setCell (p := ⟨z, 2, none⟩) (Nat.le_of_eq HZZ.out.symm) (.slice (some ⟨g, 0, none⟩) 1 1)).setCell (p := ⟨z, 3, none⟩) (Nat.le_of_eq HZZ.out.symm) (.int .i64 1)).setCell (p := ⟨z, 4, none⟩) (Nat.le_of_eq HZZ.out.symm) (.int .i64 1)).setCell (p := ⟨z, 5, none⟩) (Nat.le_of_eq HZZ.out.symm) (.int .i64 1)).setCell (p := ⟨z, 6, none⟩) (Nat.le_of_eq HZZ.out.symm) (.int .i64 1))
            clear hz3
            try simp only [hwr]
            refine Qr 20 fun K hK => ?_
            go_simp
            refine hK.out _ _ ?_ (fun hHeld => ?_)
            · ((try dsimp only); exact ⟨(World.cell?_setCell_far _ _ _ _ HNZ.out.1).trans ((World.cell?_setCell_far _ _ _ _ HNZ.out.1).trans ((World.cell?_setCell_far _ _ _ _ HNZ.out.1).trans ((World.cell?_setCell_far _ _ _ _ HNZ.out.1).trans ((World.cell?_setCell_far _ _ _ _ HNZ.out.1).trans ((World.cell?_setCell_far _ _ _ _ HNZ.out.1).trans ((World.cell?_setCell_far _ _ _ _ HNZ.out.1).trans (Kc HBo.out HSL.out a0))))))), (World.cell?_setCell_far _ _ _ _ HNZ.out.1).trans ((World.cell?_setCell_far _ _ _ _ HNZ.out.1).trans ((World.cell?_setCell_far _ _ _ _ HNZ.out.1).trans ((World.cell?_setCell_far _ _ _ _ HNZ.out.1).trans ((World.cell?_setCell_far _ _ _ _ HNZ.out.1).trans ((World.cell?_setCell_far _ _ _ _ HNZ.out.1).trans ((World.cell?_setCell_far _ _ _ _ HNZ.out.1).trans (Kc HBo.out HSL.out a1))))))), (World.cell?_setCell_far _ _ _ _ HNZ.out.1).trans ((World.cell?_setCell_far _ _ _ _ HNZ.out.1).trans ((World.cell?_setCell_far _ _ _ _ HNZ.out.1).trans ((World.cell?_setCell_far _ _ _ _ HNZ.out.1).trans ((World.cell?_setCell_far _ _ _ _ HNZ.out.1).trans ((World.cell?_setCell_far _ _ _ _ HNZ.out.1).trans ((World.cell?_setCell_far _ _ _ _ HNZ.out.1).trans (Kc HBo.out HSL.out a2)))))))⟩)
            clear hK K
            try simp only [Act.put, Qa, Qb, Qc, Qd, Qe, Qf]
            refine wpAnyH_done (by kernel_rfl) ?_ _
            clear z0 z1 z2 z3 z4 z5 z6 zf0 zf1 zf2 zf3 zf4 zf5 zf6 a0 a1 a2 lo
            go_wp2_with fail
            obtain ⟨r0, r1, r2, r3, r4, r5, r6⟩ := HR7.out
            exact bodyPost_ret (v := .agg #[.int .i64 1, .slice none 0 0, .slice (some ⟨g, 0, none⟩) 1 1, .int .i64 1, .int .i64 1, .int .i64 1, .int .i64 1]) (by simp [results, Tryz.results47, go_sem, r0, r1, r2, r3, r4, r5, r6]) rfl ⟨g, rfl, by rw [HGE.out]; exact HB1.out.size, HGF.out, HBF.out⟩
      · go_simp
        go_at_call 71
        refine (rat_nil 3 (by decide) _).mono ?_
        rintro e w9 ⟨rfl, hw⟩
        obtain rfl := hw.symm
        clear hw
        try go_wp2_with fail
        refine hK.out _ _ ?_ (fun hHeld => ?_)
        · ((try dsimp only); exact ⟨a0, a1, a2⟩)
        clear hK K
        try simp only [Act.put, Qa, Qb, Qc, Qd, Qe, Qf]
        refine Qt 8 (fun _ => ?_)
        refine wpAnyH_ready (rs := [5, 12]) (by kernel_rfl) (by simp) ?_
        refine AllReadyH.cons rfl (fun K hK => ?_) (AllReadyH.cons rfl (fun K hK => ?_) AllReadyH.nil)
        · go_simp
          obtain ⟨w4, hw4⟩ : ∃ w4, w4 = w3.drew.alloc (.cells #[.int .i64 1, .int .i64 2, .int .i64 4] 3) := ⟨_, rfl⟩
          have HBo := Lib.hid (show Below w3.heap.size w3 w4 by rw [hw4]; exact (below_drewN (Below.refl _ _) 1).alloc (Nat.le_refl _) _)
          have lo : w4.cell? ⟨w3.heap.size, 0, none⟩ = some (.int .i64 1) := by have h := heap_alloc_new w3.drew (.cells #[.int .i64 1, .int .i64 2, .int .i64 4] 3); rw [← hw4] at h; have h2 : w4.heap[w3.heap.size]? = _ := h; rw [World.cell?, h2]; rfl
          first | rw [← hw4] | rw [show (w3.alloc (.cells #[.int .i64 1, .int .i64 2, .int .i64 4] 3)).drew = w4 from hw4.symm]
          clear hw4
          refine hK.out _ _ ?_ (fun hHeld => ?_)
          · ((try dsimp only); exact ⟨Kc HBo.out HSL.out a0, Kc HBo.out HSL.out a1, Kc HBo.out HSL.out a2⟩)
          clear hK K
          try simp only [Act.put, Qa, Qb, Qc, Qd, Qe, Qf]
          refine Qt 9 (fun _ => ?_)
          refine wpAnyH_ready (rs := [10, 12]) (by kernel_rfl) (by simp) ?_
          refine AllReadyH.cons rfl (fun K hK => ?_) (AllReadyH.cons rfl (fun K hK => ?_) AllReadyH.nil)
          · go_simp
            try go_wp2_with fail
            refine hK.out _ _ ?_ (fun hHeld => ?_)
            · ((try dsimp only); exact ⟨Kc HBo.out HSL.out a0, Kc HBo.out HSL.out a1, Kc HBo.out HSL.out a2⟩)
            clear hK K
            try simp only [Act.put, Qa, Qb, Qc, Qd, Qe, Qf]
            refine Qr 12 fun K hK => ?_
            go_simp
            go_at_call 71
            refine (rat_nil 4 (by decide) _).mono ?_
            rintro e w9 ⟨rfl, hw⟩
            obtain rfl := hw.symm
            clear hw
            try go_wp2_with fail
            refine hK.out _ _ ?_ (fun hHeld => ?_)
            · ((try dsimp only); exact ⟨Kc HBo.out HSL.out a0, Kc HBo.out HSL.out a1, Kc HBo.out HSL.out a2⟩)
            clear hK K
            try simp only [Act.put, Qa, Qb, Qc, Qd, Qe, Qf]
            refine Qt 13 (fun _ => ?_)
            refine Qt 14 (fun _ => ?_)
            refine Qr 16 fun K hK => ?_
            go_simp
            go_at_call 71
            refine (rat_nil 5 (by decide) _).mono ?_
            rintro e w9 ⟨rfl, hw⟩
            obtain rfl := hw.symm
            clear hw
            try go_wp2_with fail
            refine hK.out _ _ ?_ (fun hHeld => ?_)
            · ((try dsimp only); exact ⟨Kc HBo.out HSL.out a0, Kc HBo.out HSL.out a1, Kc HBo.out HSL.out a2⟩)
            clear hK K
            try simp only [Act.put, Qa, Qb, Qc, Qd, Qe, Qf]
            refine Qt 17 (fun _ => ?_)
            refine Qt 18 (fun _ => ?_)
            refine Qt 19 (fun _ => ?_)
            have hz3 := (HBo.out.block z (Array.getElem?_eq_some_iff.1 HZ3.out).1).trans HZ3.out
            obtain ⟨z0, z1, z2, z3, z4, z5, z6⟩ := cells7' hz3
            have zf0 := free_of hz3 0
            have zf1 := free_of hz3 1
            have zf2 := free_of hz3 2
            have zf3 := free_of hz3 3
            have zf4 := free_of hz3 4
            have zf5 := free_of hz3 5
            have zf6 := free_of hz3 6
            have HR7 := Lib.hid (cells7' (heap_setCell_same _ z 6 _ _ (.int .i64 1) (heap_setCell_same _ z 5 _ _ (.int .i64 1) (heap_setCell_same _ z 4 _ _ (.int .i64 1) (heap_setCell_same _ z 3 _ _ (.int .i64 1) (heap_setCell_same _ z 2 _ _ (.slice (some ⟨g, 0, none⟩) 1 1) (heap_setCell_same _ z 1 _ _ (.slice none 0 0) (heap_setCell_same _ z 0 _ _ (.int .i64 1) hz3))))))))
            have HGF := Lib.hid ((heap_setCell_other _ ⟨z, 6, none⟩ _ (.int .i64 1) HNZ.out.2).trans ((heap_setCell_other _ ⟨z, 5, none⟩ _ (.int .i64 1) HNZ.out.2).trans ((heap_setCell_other _ ⟨z, 4, none⟩ _ (.int .i64 1) HNZ.out.2).trans ((heap_setCell_other _ ⟨z, 3, none⟩ _ (.int .i64 1) HNZ.out.2).trans ((heap_setCell_other _ ⟨z, 2, none⟩ _ (.slice (some ⟨g, 0, none⟩) 1 1) HNZ.out.2).trans ((heap_setCell_other _ ⟨z, 1, none⟩ _ (.slice none 0 0) HNZ.out.2).trans ((heap_setCell_other _ ⟨z, 0, none⟩ _ (.int .i64 1) HNZ.out.2).trans ((HBo.out.block g (Array.getElem?_eq_some_iff.1 HG3.out).1).trans HG3.out))))))))
            have HBF := Lib.hid ((((((((HB1.out.trans ((HB13.out.trans (HBo.out.mono HB13.out.size)).mono HB1.out.size)).setCell (p := ⟨z, 0, none⟩) (Nat.le_of_eq HZZ.out.symm) (.int .i64 1)).setCell (p := ⟨z, 1, none⟩) (Nat.le_of_eq HZZ.out.symm) (.slice none 0 0)).setCell (p := ⟨z, 2, none⟩) (Nat.le_of_eq HZZ.out.symm) (.slice (some ⟨g, 0, none⟩) 1 1)).setCell (p := ⟨z, 3, none⟩) (Nat.le_of_eq HZZ.out.symm) (.int .i64 1)).setCell (p := ⟨z, 4, none⟩) (Nat.le_of_eq HZZ.out.symm) (.int .i64 1)).setCell (p := ⟨z, 5, none⟩) (Nat.le_of_eq HZZ.out.symm) (.int .i64 1)).setCell (p := ⟨z, 6, none⟩) (Nat.le_of_eq HZZ.out.symm) (.int .i64 1))
            clear hz3
            try simp only [hwr]
            refine Qr 20 fun K hK => ?_
            go_simp
            refine hK.out _ _ ?_ (fun hHeld => ?_)
            · ((try dsimp only); exact ⟨(World.cell?_setCell_far _ _ _ _ HNZ.out.1).trans ((World.cell?_setCell_far _ _ _ _ HNZ.out.1).trans ((World.cell?_setCell_far _ _ _ _ HNZ.out.1).trans ((World.cell?_setCell_far _ _ _ _ HNZ.out.1).trans ((World.cell?_setCell_far _ _ _ _ HNZ.out.1).trans ((World.cell?_setCell_far _ _ _ _ HNZ.out.1).trans ((World.cell?_setCell_far _ _ _ _ HNZ.out.1).trans (Kc HBo.out HSL.out a0))))))), (World.cell?_setCell_far _ _ _ _ HNZ.out.1).trans ((World.cell?_setCell_far _ _ _ _ HNZ.out.1).trans ((World.cell?_setCell_far _ _ _ _ HNZ.out.1).trans ((World.cell?_setCell_far _ _ _ _ HNZ.out.1).trans ((World.cell?_setCell_far _ _ _ _ HNZ.out.1).trans ((World.cell?_setCell_far _ _ _ _ HNZ.out.1).trans ((World.cell?_setCell_far _ _ _ _ HNZ.out.1).trans (Kc HBo.out HSL.out a1))))))), (World.cell?_setCell_far _ _ _ _ HNZ.out.1).trans ((World.cell?_setCell_far _ _ _ _ HNZ.out.1).trans ((World.cell?_setCell_far _ _ _ _ HNZ.out.1).trans ((World.cell?_setCell_far _ _ _ _ HNZ.out.1).trans ((World.cell?_setCell_far _ _ _ _ HNZ.out.1).trans ((World.cell?_setCell_far _ _ _ _ HNZ.out.1).trans ((World.cell?_setCell_far _ _ _ _ HNZ.out.1).trans (Kc HBo.out HSL.out a2)))))))⟩)
            clear hK K
            try simp only [Act.put, Qa, Qb, Qc, Qd, Qe, Qf]
            refine wpAnyH_done (by kernel_rfl) ?_ _
            clear z0 z1 z2 z3 z4 z5 z6 zf0 zf1 zf2 zf3 zf4 zf5 zf6 a0 a1 a2 lo
            go_wp2_with fail
            obtain ⟨r0, r1, r2, r3, r4, r5, r6⟩ := HR7.out
            exact bodyPost_ret (v := .agg #[.int .i64 1, .slice none 0 0, .slice (some ⟨g, 0, none⟩) 1 1, .int .i64 1, .int .i64 1, .int .i64 1, .int .i64 1]) (by simp [results, Tryz.results47, go_sem, r0, r1, r2, r3, r4, r5, r6]) rfl ⟨g, rfl, by rw [HGE.out]; exact HB1.out.size, HGF.out, HBF.out⟩
          · go_simp
            go_at_call 71
            refine (rat_nil 4 (by decide) _).mono ?_
            rintro e w9 ⟨rfl, hw⟩
            obtain rfl := hw.symm
            clear hw
            try go_wp2_with fail
            refine hK.out _ _ ?_ (fun hHeld => ?_)
            · ((try dsimp only); exact ⟨Kc HBo.out HSL.out a0, Kc HBo.out HSL.out a1, Kc HBo.out HSL.out a2⟩)
            clear hK K
            try simp only [Act.put, Qa, Qb, Qc, Qd, Qe, Qf]
            refine Qt 13 (fun _ => ?_)
            refine Qt 14 (fun _ => ?_)
            refine wpAnyH_ready (rs := [10, 16]) (by kernel_rfl) (by simp) ?_
            refine AllReadyH.cons rfl (fun K hK => ?_) (AllReadyH.cons rfl (fun K hK => ?_) AllReadyH.nil)
            · go_simp
              try go_wp2_with fail
              refine hK.out _ _ ?_ (fun hHeld => ?_)
              · ((try dsimp only); exact ⟨Kc HBo.out HSL.out a0, Kc HBo.out HSL.out a1, Kc HBo.out HSL.out a2⟩)
              clear hK K
              try simp only [Act.put, Qa, Qb, Qc, Qd, Qe, Qf]
              refine Qr 16 fun K hK => ?_
              go_simp
              go_at_call 71
              refine (rat_nil 5 (by decide) _).mono ?_
              rintro e w9 ⟨rfl, hw⟩
              obtain rfl := hw.symm
              clear hw
              try go_wp2_with fail
              refine hK.out _ _ ?_ (fun hHeld => ?_)
              · ((try dsimp only); exact ⟨Kc HBo.out HSL.out a0, Kc HBo.out HSL.out a1, Kc HBo.out HSL.out a2⟩)
              clear hK K
              try simp only [Act.put, Qa, Qb, Qc, Qd, Qe, Qf]
              refine Qt 17 (fun _ => ?_)
              refine Qt 18 (fun _ => ?_)
              refine Qt 19 (fun _ => ?_)
              have hz3 := (HBo.out.block z (Array.getElem?_eq_some_iff.1 HZ3.out).1).trans HZ3.out
              obtain ⟨z0, z1, z2, z3, z4, z5, z6⟩ := cells7' hz3
              have zf0 := free_of hz3 0
              have zf1 := free_of hz3 1
              have zf2 := free_of hz3 2
              have zf3 := free_of hz3 3
              have zf4 := free_of hz3 4
              have zf5 := free_of hz3 5
              have zf6 := free_of hz3 6
              have HR7 := Lib.hid (cells7' (heap_setCell_same _ z 6 _ _ (.int .i64 1) (heap_setCell_same _ z 5 _ _ (.int .i64 1) (heap_setCell_same _ z 4 _ _ (.int .i64 1) (heap_setCell_same _ z 3 _ _ (.int .i64 1) (heap_setCell_same _ z 2 _ _ (.slice (some ⟨g, 0, none⟩) 1 1) (heap_setCell_same _ z 1 _ _ (.slice none 0 0) (heap_setCell_same _ z 0 _ _ (.int .i64 1) hz3))))))))
              have HGF := Lib.hid ((heap_setCell_other _ ⟨z, 6, none⟩ _ (.int .i64 1) HNZ.out.2).trans ((heap_setCell_other _ ⟨z, 5, none⟩ _ (.int .i64 1) HNZ.out.2).trans ((heap_setCell_other _ ⟨z, 4, none⟩ _ (.int .i64 1) HNZ.out.2).trans ((heap_setCell_other _ ⟨z, 3, none⟩ _ (.int .i64 1) HNZ.out.2).trans ((heap_setCell_other _ ⟨z, 2, none⟩ _ (.slice (some ⟨g, 0, none⟩) 1 1) HNZ.out.2).trans ((heap_setCell_other _ ⟨z, 1, none⟩ _ (.slice none 0 0) HNZ.out.2).trans ((heap_setCell_other _ ⟨z, 0, none⟩ _ (.int .i64 1) HNZ.out.2).trans ((HBo.out.block g (Array.getElem?_eq_some_iff.1 HG3.out).1).trans HG3.out))))))))
              have HBF := Lib.hid ((((((((HB1.out.trans ((HB13.out.trans (HBo.out.mono HB13.out.size)).mono HB1.out.size)).setCell (p := ⟨z, 0, none⟩) (Nat.le_of_eq HZZ.out.symm) (.int .i64 1)).setCell (p := ⟨z, 1, none⟩) (Nat.le_of_eq HZZ.out.symm) (.slice none 0 0)).setCell (p := ⟨z, 2, none⟩) (Nat.le_of_eq HZZ.out.symm) (.slice (some ⟨g, 0, none⟩) 1 1)).setCell (p := ⟨z, 3, none⟩) (Nat.le_of_eq HZZ.out.symm) (.int .i64 1)).setCell (p := ⟨z, 4, none⟩) (Nat.le_of_eq HZZ.out.symm) (.int .i64 1)).setCell (p := ⟨z, 5, none⟩) (Nat.le_of_eq HZZ.out.symm) (.int .i64 1)).setCell (p := ⟨z, 6, none⟩) (Nat.le_of_eq HZZ.out.symm) (.int .i64 1))
              clear hz3
              try simp only [hwr]
              refine Qr 20 fun K hK => ?_
              go_simp
              refine hK.out _ _ ?_ (fun hHeld => ?_)
              · ((try dsimp only); exact ⟨(World.cell?_setCell_far _ _ _ _ HNZ.out.1).trans ((World.cell?_setCell_far _ _ _ _ HNZ.out.1).trans ((World.cell?_setCell_far _ _ _ _ HNZ.out.1).trans ((World.cell?_setCell_far _ _ _ _ HNZ.out.1).trans ((World.cell?_setCell_far _ _ _ _ HNZ.out.1).trans ((World.cell?_setCell_far _ _ _ _ HNZ.out.1).trans ((World.cell?_setCell_far _ _ _ _ HNZ.out.1).trans (Kc HBo.out HSL.out a0))))))), (World.cell?_setCell_far _ _ _ _ HNZ.out.1).trans ((World.cell?_setCell_far _ _ _ _ HNZ.out.1).trans ((World.cell?_setCell_far _ _ _ _ HNZ.out.1).trans ((World.cell?_setCell_far _ _ _ _ HNZ.out.1).trans ((World.cell?_setCell_far _ _ _ _ HNZ.out.1).trans ((World.cell?_setCell_far _ _ _ _ HNZ.out.1).trans ((World.cell?_setCell_far _ _ _ _ HNZ.out.1).trans (Kc HBo.out HSL.out a1))))))), (World.cell?_setCell_far _ _ _ _ HNZ.out.1).trans ((World.cell?_setCell_far _ _ _ _ HNZ.out.1).trans ((World.cell?_setCell_far _ _ _ _ HNZ.out.1).trans ((World.cell?_setCell_far _ _ _ _ HNZ.out.1).trans ((World.cell?_setCell_far _ _ _ _ HNZ.out.1).trans ((World.cell?_setCell_far _ _ _ _ HNZ.out.1).trans ((World.cell?_setCell_far _ _ _ _ HNZ.out.1).trans (Kc HBo.out HSL.out a2)))))))⟩)
              clear hK K
              try simp only [Act.put, Qa, Qb, Qc, Qd, Qe, Qf]
              refine wpAnyH_done (by kernel_rfl) ?_ _
              clear z0 z1 z2 z3 z4 z5 z6 zf0 zf1 zf2 zf3 zf4 zf5 zf6 a0 a1 a2 lo
              go_wp2_with fail
              obtain ⟨r0, r1, r2, r3, r4, r5, r6⟩ := HR7.out
              exact bodyPost_ret (v := .agg #[.int .i64 1, .slice none 0 0, .slice (some ⟨g, 0, none⟩) 1 1, .int .i64 1, .int .i64 1, .int .i64 1, .int .i64 1]) (by simp [results, Tryz.results47, go_sem, r0, r1, r2, r3, r4, r5, r6]) rfl ⟨g, rfl, by rw [HGE.out]; exact HB1.out.size, HGF.out, HBF.out⟩
            · go_simp
              go_at_call 71
              refine (rat_nil 5 (by decide) _).mono ?_
              rintro e w9 ⟨rfl, hw⟩
              obtain rfl := hw.symm
              clear hw
              try go_wp2_with fail
              refine hK.out _ _ ?_ (fun hHeld => ?_)
              · ((try dsimp only); exact ⟨Kc HBo.out HSL.out a0, Kc HBo.out HSL.out a1, Kc HBo.out HSL.out a2⟩)
              clear hK K
              try simp only [Act.put, Qa, Qb, Qc, Qd, Qe, Qf]
              refine Qt 17 (fun _ => ?_)
              refine Qt 18 (fun _ => ?_)
              refine Qr 10 fun K hK => ?_
              go_simp
              try go_wp2_with fail
              refine hK.out _ _ ?_ (fun hHeld => ?_)
              · ((try dsimp only); exact ⟨Kc HBo.out HSL.out a0, Kc HBo.out HSL.out a1, Kc HBo.out HSL.out a2⟩)
              clear hK K
              try simp only [Act.put, Qa, Qb, Qc, Qd, Qe, Qf]
              refine Qt 19 (fun _ => ?_)
              have hz3 := (HBo.out.block z (Array.getElem?_eq_some_iff.1 HZ3.out).1).trans HZ3.out
              obtain ⟨z0, z1, z2, z3, z4, z5, z6⟩ := cells7' hz3
              have zf0 := free_of hz3 0
              have zf1 := free_of hz3 1
              have zf2 := free_of hz3 2
              have zf3 := free_of hz3 3
              have zf4 := free_of hz3 4
              have zf5 := free_of hz3 5
              have zf6 := free_of hz3 6
              have HR7 := Lib.hid (cells7' (heap_setCell_same _ z 6 _ _ (.int .i64 1) (heap_setCell_same _ z 5 _ _ (.int .i64 1) (heap_setCell_same _ z 4 _ _ (.int .i64 1) (heap_setCell_same _ z 3 _ _ (.int .i64 1) (heap_setCell_same _ z 2 _ _ (.slice (some ⟨g, 0, none⟩) 1 1) (heap_setCell_same _ z 1 _ _ (.slice none 0 0) (heap_setCell_same _ z 0 _ _ (.int .i64 1) hz3))))))))
              have HGF := Lib.hid ((heap_setCell_other _ ⟨z, 6, none⟩ _ (.int .i64 1) HNZ.out.2).trans ((heap_setCell_other _ ⟨z, 5, none⟩ _ (.int .i64 1) HNZ.out.2).trans ((heap_setCell_other _ ⟨z, 4, none⟩ _ (.int .i64 1) HNZ.out.2).trans ((heap_setCell_other _ ⟨z, 3, none⟩ _ (.int .i64 1) HNZ.out.2).trans ((heap_setCell_other _ ⟨z, 2, none⟩ _ (.slice (some ⟨g, 0, none⟩) 1 1) HNZ.out.2).trans ((heap_setCell_other _ ⟨z, 1, none⟩ _ (.slice none 0 0) HNZ.out.2).trans ((heap_setCell_other _ ⟨z, 0, none⟩ _ (.int .i64 1) HNZ.out.2).trans ((HBo.out.block g (Array.getElem?_eq_some_iff.1 HG3.out).1).trans HG3.out))))))))
              have HBF := Lib.hid ((((((((HB1.out.trans ((HB13.out.trans (HBo.out.mono HB13.out.size)).mono HB1.out.size)).setCell (p := ⟨z, 0, none⟩) (Nat.le_of_eq HZZ.out.symm) (.int .i64 1)).setCell (p := ⟨z, 1, none⟩) (Nat.le_of_eq HZZ.out.symm) (.slice none 0 0)).setCell (p := ⟨z, 2, none⟩) (Nat.le_of_eq HZZ.out.symm) (.slice (some ⟨g, 0, none⟩) 1 1)).setCell (p := ⟨z, 3, none⟩) (Nat.le_of_eq HZZ.out.symm) (.int .i64 1)).setCell (p := ⟨z, 4, none⟩) (Nat.le_of_eq HZZ.out.symm) (.int .i64 1)).setCell (p := ⟨z, 5, none⟩) (Nat.le_of_eq HZZ.out.symm) (.int .i64 1)).setCell (p := ⟨z, 6, none⟩) (Nat.le_of_eq HZZ.out.symm) (.int .i64 1))
              clear hz3
              try simp only [hwr]
              refine Qr 20 fun K hK => ?_
              go_simp
              refine hK.out _ _ ?_ (fun hHeld => ?_)
              · ((try dsimp only); exact ⟨(World.cell?_setCell_far _ _ _ _ HNZ.out.1).trans ((World.cell?_setCell_far _ _ _ _ HNZ.out.1).trans ((World.cell?_setCell_far _ _ _ _ HNZ.out.1).trans ((World.cell?_setCell_far _ _ _ _ HNZ.out.1).trans ((World.cell?_setCell_far _ _ _ _ HNZ.out.1).trans ((World.cell?_setCell_far _ _ _ _ HNZ.out.1).trans ((World.cell?_setCell_far _ _ _ _ HNZ.out.1).trans (Kc HBo.out HSL.out a0))))))), (World.cell?_setCell_far _ _ _ _ HNZ.out.1).trans ((World.cell?_setCell_far _ _ _ _ HNZ.out.1).trans ((World.cell?_setCell_far _ _ _ _ HNZ.out.1).trans ((World.cell?_setCell_far _ _ _ _ HNZ.out.1).trans ((World.cell?_setCell_far _ _ _ _ HNZ.out.1).trans ((World.cell?_setCell_far _ _ _ _ HNZ.out.1).trans ((World.cell?_setCell_far _ _ _ _ HNZ.out.1).trans (Kc HBo.out HSL.out a1))))))), (World.cell?_setCell_far _ _ _ _ HNZ.out.1).trans ((World.cell?_setCell_far _ _ _ _ HNZ.out.1).trans ((World.cell?_setCell_far _ _ _ _ HNZ.out.1).trans ((World.cell?_setCell_far _ _ _ _ HNZ.out.1).trans ((World.cell?_setCell_far _ _ _ _ HNZ.out.1).trans ((World.cell?_setCell_far _ _ _ _ HNZ.out.1).trans ((World.cell?_setCell_far _ _ _ _ HNZ.out.1).trans (Kc HBo.out HSL.out a2)))))))⟩)
              clear hK K
              try simp only [Act.put, Qa, Qb, Qc, Qd, Qe, Qf]
              refine wpAnyH_done (by kernel_rfl) ?_ _
              clear z0 z1 z2 z3 z4 z5 z6 zf0 zf1 zf2 zf3 zf4 zf5 zf6 a0 a1 a2 lo
              go_wp2_with fail
              obtain ⟨r0, r1, r2, r3, r4, r5, r6⟩ := HR7.out
              exact bodyPost_ret (v := .agg #[.int .i64 1, .slice none 0 0, .slice (some ⟨g, 0, none⟩) 1 1, .int .i64 1, .int .i64 1, .int .i64 1, .int .i64 1]) (by simp [results, Tryz.results47, go_sem, r0, r1, r2, r3, r4, r5, r6]) rfl ⟨g, rfl, by rw [HGE.out]; exact HB1.out.size, HGF.out, HBF.out⟩
        · go_simp
          go_at_call 71
          refine (rat_nil 4 (by decide) _).mono ?_
          rintro e w9 ⟨rfl, hw⟩
          obtain rfl := hw.symm
          clear hw
          try go_wp2_with fail
          refine hK.out _ _ ?_ (fun hHeld => ?_)
          · ((try dsimp only); exact ⟨a0, a1, a2⟩)
          clear hK K
          try simp only [Act.put, Qa, Qb, Qc, Qd, Qe, Qf]
          refine Qt 13 (fun _ => ?_)
          refine Qt 14 (fun _ => ?_)
          refine wpAnyH_ready (rs := [5, 16]) (by kernel_rfl) (by simp) ?_
          refine AllReadyH.cons rfl (fun K hK => ?_) (AllReadyH.cons rfl (fun K hK => ?_) AllReadyH.nil)
          · go_simp
            obtain ⟨w4, hw4⟩ : ∃ w4, w4 = w3.drew.alloc (.cells #[.int .i64 1, .int .i64 2, .int .i64 4] 3) := ⟨_, rfl⟩
            have HBo := Lib.hid (show Below w3.heap.size w3 w4 by rw [hw4]; exact (below_drewN (Below.refl _ _) 1).alloc (Nat.le_refl _) _)
            have lo : w4.cell? ⟨w3.heap.size, 0, none⟩ = some (.int .i64 1) := by have h := heap_alloc_new w3.drew (.cells #[.int .i64 1, .int .i64 2, .int .i64 4] 3); rw [← hw4] at h; have h2 : w4.heap[w3.heap.size]? = _ := h; rw [World.cell?, h2]; rfl
            first | rw [← hw4] | rw [show (w3.alloc (.cells #[.int .i64 1, .int .i64 2, .int .i64 4] 3)).drew = w4 from hw4.symm]
            clear hw4
            refine hK.out _ _ ?_ (fun hHeld => ?_)
            · ((try dsimp only); exact ⟨Kc HBo.out HSL.out a0, Kc HBo.out HSL.out a1, Kc HBo.out HSL.out a2⟩)
            clear hK K
            try simp only [Act.put, Qa, Qb, Qc, Qd, Qe, Qf]
            refine Qt 9 (fun _ => ?_)
            refine wpAnyH_ready (rs := [10, 16]) (by kernel_rfl) (by simp) ?_
            refine AllReadyH.cons rfl (fun K hK => ?_) (AllReadyH.cons rfl (fun K hK => ?_) AllReadyH.nil)
            · go_simp
              try go_wp2_with fail
              refine hK.out _ _ ?_ (fun hHeld => ?_)
              · ((try dsimp only); exact ⟨Kc HBo.out HSL.out a0, Kc HBo.out HSL.out a1, Kc HBo.out HSL.out a2⟩)
              clear hK K
              try simp only [Act.put, Qa, Qb, Qc, Qd, Qe, Qf]
              refine Qr 16 fun K hK => ?_
              go_simp
              go_at_call 71
              refine (rat_nil 5 (by decide) _).mono ?_
              rintro e w9 ⟨rfl, hw⟩
              obtain rfl := hw.symm
              clear hw
              try go_wp2_with fail
              refine hK.out _ _ ?_ (fun hHeld => ?_)
              · ((try dsimp only); exact ⟨Kc HBo.out HSL.out a0, Kc HBo.out HSL.out a1, Kc HBo.out HSL.out a2⟩)
              clear hK K
              try simp only [Act.put, Qa, Qb, Qc, Qd, Qe, Qf]
              refine Qt 17 (fun _ => ?_)
              refine Qt 18 (fun _ => ?_)
              refine Qt 19 (fun _ => ?_)
              have hz3 := (HBo.out.block z (Array.getElem?_eq_some_iff.1 HZ3.out).1).trans HZ3.out
              obtain ⟨z0, z1, z2, z3, z4, z5, z6⟩ := cells7' hz3
              have zf0 := free_of hz3 0
              have zf1 := free_of hz3 1
              have zf2 := free_of hz3 2
              have zf3 := free_of hz3 3
              have zf4 := free_of hz3 4
              have zf5 := free_of hz3 5
              have zf6 := free_of hz3 6
              have HR7 := Lib.hid (cells7' (heap_setCell_same _ z 6 _ _ (.int .i64 1) (heap_setCell_same _ z 5 _ _ (.int .i64 1) (heap_setCell_same _ z 4 _ _ (.int .i64 1) (heap_setCell_same _ z 3 _ _ (.int .i64 1) (heap_setCell_same _ z 2 _ _ (.slice (some ⟨g, 0, none⟩) 1 1) (heap_setCell_same _ z 1 _ _ (.slice none 0 0) (heap_setCell_same _ z 0 _ _ (.int .i64 1) hz3))))))))
              have HGF := Lib.hid ((heap_setCell_other _ ⟨z, 6, none⟩ _ (.int .i64 1) HNZ.out.2).trans ((heap_setCell_other _ ⟨z, 5, none⟩ _ (.int .i64 1) HNZ.out.2).trans ((heap_setCell_other _ ⟨z, 4, none⟩ _ (.int .i64 1) HNZ.out.2).trans ((heap_setCell_other _ ⟨z, 3, none⟩ _ (.int .i64 1) HNZ.out.2).trans ((heap_setCell_other _ ⟨z, 2, none⟩ _ (.slice (some ⟨g, 0, none⟩) 1 1) HNZ.out.2).trans ((heap_setCell_other _ ⟨z, 1, none⟩ _ (.slice none 0 0) HNZ.out.2).trans ((heap_setCell_other _ ⟨z, 0, none⟩ _ (.int .i64 1) HNZ.out.2).trans ((HBo.out.block g (Array.getElem?_eq_some_iff.1 HG3.out).1).trans HG3.out))))))))
              have HBF := Lib.hid ((((((((HB1.out.trans ((HB13.out.trans (HBo.out.mono HB13.out.size)).mono HB1.out.size)).setCell (p := ⟨z, 0, none⟩) (Nat.le_of_eq HZZ.out.symm) (.int .i64 1)).setCell (p := ⟨z, 1, none⟩) (Nat.le_of_eq HZZ.out.symm) (.slice none 0 0)).setCell (p := ⟨z, 2, none⟩) (Nat.le_of_eq HZZ.out.symm) (.slice (some ⟨g, 0, none⟩) 1 1)).setCell (p := ⟨z, 3, none⟩) (Nat.le_of_eq HZZ.out.symm) (.int .i64 1)).setCell (p := ⟨z, 4, none⟩) (Nat.le_of_eq HZZ.out.symm) (.int .i64 1)).setCell (p := ⟨z, 5, none⟩) (Nat.le_of_eq HZZ.out.symm) (.int .i64 1)).setCell (p := ⟨z, 6, none⟩) (Nat.le_of_eq HZZ.out.symm) (.int .i64 1))
              clear hz3
              try simp only [hwr]
              refine Qr 20 fun K hK => ?_
              go_simp
              refine hK.out _ _ ?_ (fun hHeld => ?_)
              · ((try dsimp only); exact ⟨(World.cell?_setCell_far _ _ _ _ HNZ.out.1).trans ((World.cell?_setCell_far _ _ _ _ HNZ.out.1).trans ((World.cell?_setCell_far _ _ _ _ HNZ.out.1).trans ((World.cell?_setCell_far _ _ _ _ HNZ.out.1).trans ((World.cell?_setCell_far _ _ _ _ HNZ.out.1).trans ((World.cell?_setCell_far _ _ _ _ HNZ.out.1).trans ((World.cell?_setCell_far _ _ _ _ HNZ.out.1).trans (Kc HBo.out HSL.out a0))))))), (World.cell?_setCell_far _ _ _ _ HNZ.out.1).trans ((World.cell?_setCell_far _ _ _ _ HNZ.out.1).trans ((World.cell?_setCell_far _ _ _ _ HNZ.out.1).trans ((World.cell?_setCell_far _ _ _ _ HNZ.out.1).trans ((World.cell?_setCell_far _ _ _ _ HNZ.out.1).trans ((World.cell?_setCell_far _ _ _ _ HNZ.out.1).trans ((World.cell?_setCell_far _ _ _ _ HNZ.out.1).trans (Kc HBo.out HSL.out a1))))))), (World.cell?_setCell_far _ _ _ _ HNZ.out.1).trans ((World.cell?_setCell_far _ _ _ _ HNZ.out.1).trans ((World.cell?_setCell_far _ _ _ _ HNZ.out.1).trans ((World.cell?_setCell_far _ _ _ _ HNZ.out.1).trans ((World.cell?_setCell_far _ _ _ _ HNZ.out.1).trans ((World.cell?_setCell_far _ _ _ _ HNZ.out.1).trans ((World.cell?_setCell_far _ _ _ _ HNZ.out.1).trans (Kc HBo.out HSL.out a2)))))))⟩)
              clear hK K
              try simp only [Act.put, Qa, Qb, Qc, Qd, Qe, Qf]
              refine wpAnyH_done (by kernel_rfl) ?_ _
              clear z0 z1 z2 z3 z4 z5 z6 zf0 zf1 zf2 zf3 zf4 zf5 zf6 a0 a1 a2 lo
              go_wp2_with fail
              obtain ⟨r0, r1, r2, r3, r4, r5, r6⟩ := HR7.out
              exact bodyPost_ret (v := .agg #[.int .i64 1, .slice none 0 0, .slice (some ⟨g, 0, none⟩) 1 1, .int .i64 1, .int .i64 1, .int .i64 1, .int .i64 1]) (by simp [results, Tryz.results47, go_sem, r0, r1, r2, r3, r4, r5, r6]) rfl ⟨g, rfl, by rw [HGE.out]; exact HB1.out.size, HGF.out, HBF.out⟩
            · go_simp
              go_at_call 71
              refine (rat_nil 5 (by decide) _).mono ?_
              rintro e w9 ⟨rfl, hw⟩
              obtain rfl := hw.symm
              clear hw
              try go_wp2_with fail
              refine hK.out _ _ ?_ (fun hHeld => ?_)
              · ((try dsimp only); exact ⟨Kc HBo.out HSL.out a0, Kc HBo.out HSL.out a1, Kc HBo.out HSL.out a2⟩)
              clear hK K
              try simp only [Act.put, Qa, Qb, Qc, Qd, Qe, Qf]
              refine Qt 17 (fun _ => ?_)
              refine Qt 18 (fun _ => ?_)
              refine Qr 10 fun K hK => ?_
              go_simp
              try go_wp2_with fail
              refine hK.out _ _ ?_ (fun hHeld => ?_)
              · ((try dsimp only); exact ⟨Kc HBo.out HSL.out a0, Kc HBo.out HSL.out a1, Kc HBo.out HSL.out a2⟩)
              clear hK K
              try simp only [Act.put, Qa, Qb, Qc, Qd, Qe, Qf]
              refine Qt 19 (fun _ => ?_)
              have hz3 := (HBo.out.block z (Array.getElem?_eq_some_iff.1 HZ3.out).1).trans HZ3.out
              obtain ⟨z0, z1, z2, z3, z4, z5, z6⟩ := cells7' hz3
              have zf0 := free_of hz3 0
              have zf1 := free_of hz3 1
              have zf2 := free_of hz3 2
              have zf3 := free_of hz3 3
              have zf4 := free_of hz3 4
              have zf5 := free_of hz3 5
              have zf6 := free_of hz3 6
              have HR7 := Lib.hid (cells7' (heap_setCell_same _ z 6 _ _ (.int .i64 1) (heap_setCell_same _ z 5 _ _ (.int .i64 1) (heap_setCell_same _ z 4 _ _ (.int .i64 1) (heap_setCell_same _ z 3 _ _ (.int .i64 1) (heap_setCell_same _ z 2 _ _ (.slice (some ⟨g, 0, none⟩) 1 1) (heap_setCell_same _ z 1 _ _ (.slice none 0 0) (heap_setCell_same _ z 0 _ _ (.int .i64 1) hz3))))))))
              have HGF := Lib.hid ((heap_setCell_other _ ⟨z, 6, none⟩ _ (.int .i64 1) HNZ.out.2).trans ((heap_setCell_other _ ⟨z, 5, none⟩ _ (.int .i64 1) HNZ.out.2).trans ((heap_setCell_other _ ⟨z, 4, none⟩ _ (.int .i64 1) HNZ.out.2).trans ((heap_setCell_other _ ⟨z, 3, none⟩ _ (.int .i64 1) HNZ.out.2).trans ((heap_setCell_other _ ⟨z, 2, none⟩ _ (.slice (some ⟨g, 0, none⟩) 1 1) HNZ.out.2).trans ((heap_setCell_other _ ⟨z, 1, none⟩ _ (.slice none 0 0) HNZ.out.2).trans ((heap_setCell_other _ ⟨z, 0, none⟩ _ (.int .i64 1) HNZ.out.2).trans ((HBo.out.block g (Array.getElem?_eq_some_iff.1 HG3.out).1).trans HG3.out))))))))
              have HBF := Lib.hid ((((((((HB1.out.trans ((HB13.out.trans (HBo.out.mono HB13.out.size)).mono HB1.out.size)).setCell (p := ⟨z, 0, none⟩) (Nat.le_of_eq HZZ.out.symm) (.int .i64 1)).setCell (p := ⟨z, 1, none⟩) (Nat.le_of_eq HZZ.out.symm) (.slice none 0 0)).setCell (p := ⟨z, 2, none⟩) (Nat.le_of_eq HZZ.out.symm) (.slice (some ⟨g, 0, none⟩) 1 1)).setCell (p := ⟨z, 3, none⟩) (Nat.le_of_eq HZZ.out.symm) (.int .i64 1)).setCell (p := ⟨z, 4, none⟩) (Nat.le_of_eq HZZ.out.symm) (.int .i64 1)).setCell (p := ⟨z, 5, none⟩) (Nat.le_of_eq HZZ.out.symm) (.int .i64 1)).setCell (p := ⟨z, 6, none⟩) (Nat.le_of_eq HZZ.out.symm) (.int .i64 1))
              clear hz3
              try simp only [hwr]
              refine Qr 20 fun K hK => ?_
              go_simp
              refine hK.out _ _ ?_ (fun hHeld => ?_)
              · ((try dsimp only); exact ⟨(World.cell?_setCell_far _ _ _ _ HNZ.out.1).trans ((World.cell?_setCell_far _ _ _ _ HNZ.out.1).trans ((World.cell?_setCell_far _ _ _ _ HNZ.out.1).trans ((World.cell?_setCell_far _ _ _ _ HNZ.out.1).trans ((World.cell?_setCell_far _ _ _ _ HNZ.out.1).trans ((World.cell?_setCell_far _ _ _ _ HNZ.out.1).trans ((World.cell?_setCell_far _ _ _ _ HNZ.out.1).trans (Kc HBo.out HSL.out a0))))))), (World.cell?_setCell_far _ _ _ _ HNZ.out.1).trans ((World.cell?_setCell_far _ _ _ _ HNZ.out.1).trans ((World.cell?_setCell_far _ _ _ _ HNZ.out.1).trans ((World.cell?_setCell_far _ _ _ _ HNZ.out.1).trans ((World.cell?_setCell_far _ _ _ _ HNZ.out.1).trans ((World.cell?_setCell_far _ _ _ _ HNZ.out.1).trans ((World.cell?_setCell_far _ _ _ _ HNZ.out.1).trans (Kc HBo.out HSL.out a1))))))), (World.cell?_setCell_far _ _ _ _ HNZ.out.1).trans ((World.cell?_setCell_far _ _ _ _ HNZ.out.1).trans ((World.cell?_setCell_far _ _ _ _ HNZ.out.1).trans ((World.cell?_setCell_far _ _ _ _ HNZ.out.1).trans ((World.cell?_setCell_far _ _ _ _ HNZ.out.1).trans ((World.cell?_setCell_far _ _ _ _ HNZ.out.1).trans ((World.cell?_setCell_far _ _ _ _ HNZ.out.1).trans (Kc HBo.out HSL.out a2)))))))⟩)
              clear hK K
              try simp only [Act.put, Qa, Qb, Qc, Qd, Qe, Qf]
              refine wpAnyH_done (by kernel_rfl) ?_ _
              clear z0 z1 z2 z3 z4 z5 z6 zf0 zf1 zf2 zf3 zf4 zf5 zf6 a0 a1 a2 lo
              go_wp2_with fail
              obtain ⟨r0, r1, r2, r3, r4, r5, r6⟩ := HR7.out
              exact bodyPost_ret (v := .agg #[.int .i64 1, .slice none 0 0, .slice (some ⟨g, 0, none⟩) 1 1, .int .i64 1, .int .i64 1, .int .i64 1, .int .i64 1]) (by simp [results, Tryz.results47, go_sem, r0, r1, r2, r3, r4, r5, r6]) rfl ⟨g, rfl, by rw [HGE.out]; exact HB1.out.size, HGF.out, HBF.out⟩
          · go_simp
            go_at_call 71
            refine (rat_nil 5 (by decide) _).mono ?_
            rintro e w9 ⟨rfl, hw⟩
            obtain rfl := hw.symm
            clear hw
            try go_wp2_with fail
            refine hK.out _ _ ?_ (fun hHeld => ?_)
            · ((try dsimp only); exact ⟨a0, a1, a2⟩)
            clear hK K
            try simp only [Act.put, Qa, Qb, Qc, Qd, Qe, Qf]
            refine Qt 17 (fun _ => ?_)
            refine Qt 18 (fun _ => ?_)
            refine Qr 5 fun K hK => ?_
            go_simp
            obtain ⟨w4, hw4⟩ : ∃ w4, w4 = w3.drew.alloc (.cells #[.int .i64 1, .int .i64 2, .int .i64 4] 3) := ⟨_, rfl⟩
            have HBo := Lib.hid (show Below w3.heap.size w3 w4 by rw [hw4]; exact (below_drewN (Below.refl _ _) 1).alloc (Nat.le_refl _) _)
            have lo : w4.cell? ⟨w3.heap.size, 0, none⟩ = some (.int .i64 1) := by have h := heap_alloc_new w3.drew (.cells #[.int .i64 1, .int .i64 2, .int .i64 4] 3); rw [← hw4] at h; have h2 : w4.heap[w3.heap.size]? = _ := h; rw [World.cell?, h2]; rfl
            first | rw [← hw4] | rw [show (w3.alloc (.cells #[.int .i64 1, .int .i64 2, .int .i64 4] 3)).drew = w4 from hw4.symm]
            clear hw4
            refine hK.out _ _ ?_ (fun hHeld => ?_)
            · ((try dsimp only); exact ⟨Kc HBo.out HSL.out a0, Kc HBo.out HSL.out a1, Kc HBo.out HSL.out a2⟩)
            clear hK K
            try simp only [Act.put, Qa, Qb, Qc, Qd, Qe, Qf]
            refine Qt 9 (fun _ => ?_)
            refine Qr 10 fun K hK => ?_
            go_simp
            try go_wp2_with fail
            refine hK.out _ _ ?_ (fun hHeld => ?_)
            · ((try dsimp only); exact ⟨Kc HBo.out HSL.out a0, Kc HBo.out HSL.out a1, Kc HBo.out HSL.out a2⟩)
            clear hK K
            try simp only [Act.put, Qa, Qb, Qc, Qd, Qe, Qf]
            refine Qt 19 (fun _ => ?_)
            have hz3 := (HBo.out.block z (Array.getElem?_eq_some_iff.1 HZ3.out).1).trans HZ3.out
            obtain ⟨z0, z1, z2, z3, z4, z5, z6⟩ := cells7' hz3
            have zf0 := free_of hz3 0
            have zf1 := free_of hz3 1
            have zf2 := free_of hz3 2
            have zf3 := free_of hz3 3
            have zf4 := free_of hz3 4
            have zf5 := free_of hz3 5
            have zf6 := free_of hz3 6
            have HR7 := Lib.hid (cells7' (heap_setCell_same _ z 6 _ _ (.int .i64 1) (heap_setCell_same _ z 5 _ _ (.int .i64 1) (heap_setCell_same _ z 4 _ _ (.int .i64 1) (heap_setCell_same _ z 3 _ _ (.int .i64 1) (heap_setCell_same _ z 2 _ _ (.slice (some ⟨g, 0, none⟩) 1 1) (heap_setCell_same _ z 1 _ _ (.slice none 0 0) (heap_setCell_same _ z 0 _ _ (.int .i64 1) hz3))))))))
            have HGF := Lib.hid ((heap_setCell_other _ ⟨z, 6, none⟩ _ (.int .i64 1) HNZ.out.2).trans ((heap_setCell_other _ ⟨z, 5, none⟩ _ (.int .i64 1) HNZ.out.2).trans ((heap_setCell_other _ ⟨z, 4, none⟩ _ (.int .i64 1) HNZ.out.2).trans ((heap_setCell_other _ ⟨z, 3, none⟩ _ (.int .i64 1) HNZ.out.2).trans ((heap_setCell_other _ ⟨z, 2, none⟩ _ (.slice (some ⟨g, 0, none⟩) 1 1) HNZ.out.2).trans ((heap_setCell_other _ ⟨z, 1, none⟩ _ (.slice none 0 0) HNZ.out.2).trans ((heap_setCell_other _ ⟨z, 0, none⟩ _ (.int .i64 1) HNZ.out.2).trans ((HBo.out.block g (Array.getElem?_eq_some_iff.1 HG3.out).1).trans HG3.out))))))))
            have HBF := Lib.hid ((((((((HB1.out.trans ((HB13.out.trans (HBo.out.mono HB13.out.size)).mono HB1.out.size)).setCell (p := ⟨z, 0, none⟩) (Nat.le_of_eq HZZ.out.symm) (.int .i64 1)).setCell (p := ⟨z, 1, none⟩) (Nat.le_of_eq HZZ.out.symm) (.slice none 0 0)).setCell (p := ⟨z, 2, none⟩) (Nat.le_of_eq HZZ.out.symm) (.slice (some ⟨g, 0, none⟩) 1 1)).setCell (p := ⟨z, 3, none⟩) (Nat.le_of_eq HZZ.out.symm) (.int .i64 1)).setCell (p := ⟨z, 4, none⟩) (Nat.le_of_eq HZZ.out.symm) (.int .i64 1)).setCell (p := ⟨z, 5, none⟩) (Nat.le_of_eq HZZ.out.symm) (.int .i64 1)).setCell (p := ⟨z, 6, none⟩) (Nat.le_of_eq HZZ.out.symm) (.int .i64 1))
            clear hz3
            try simp only [hwr]
            refine Qr 20 fun K hK => ?_
            go_simp
            refine hK.out _ _ ?_ (fun hHeld => ?_)
            · ((try dsimp only); exact ⟨(World.cell?_setCell_far _ _ _ _ HNZ.out.1).trans ((World.cell?_setCell_far _ _ _ _ HNZ.out.1).trans ((World.cell?_setCell_far _ _ _ _ HNZ.out.1).trans ((World.cell?_setCell_far _ _ _ _ HNZ.out.1).trans ((World.cell?_setCell_far _ _ _ _ HNZ.out.1).trans ((World.cell?_setCell_far _ _ _ _ HNZ.out.1).trans ((World.cell?_setCell_far _ _ _ _ HNZ.out.1).trans (Kc HBo.out HSL.out a0))))))), (World.cell?_setCell_far _ _ _ _ HNZ.out.1).trans ((World.cell?_setCell_far _ _ _ _ HNZ.out.1).trans ((World.cell?_setCell_far _ _ _ _ HNZ.out.1).trans ((World.cell?_setCell_far _ _ _ _ HNZ.out.1).trans ((World.cell?_setCell_far _ _ _ _ HNZ.out.1).trans ((World.cell?_setCell_far _ _ _ _ HNZ.out.1).trans ((World.cell?_setCell_far _ _ _ _ HNZ.out.1).trans (Kc HBo.out HSL.out a1))))))), (World.cell?_setCell_far _ _ _ _ HNZ.out.1).trans ((World.cell?_setCell_far _ _ _ _ HNZ.out.1).trans ((World.cell?_setCell_far _ _ _ _ HNZ.out.1).trans ((World.cell?_setCell_far _ _ _ _ HNZ.out.1).trans ((World.cell?_setCell_far _ _ _ _ HNZ.out.1).trans ((World.cell?_setCell_far _ _ _ _ HNZ.out.1).trans ((World.cell?_setCell_far _ _ _ _ HNZ.out.1).trans (Kc HBo.out HSL.out a2)))))))⟩)
            clear hK K
            try simp only [Act.put, Qa, Qb, Qc, Qd, Qe, Qf]
            refine wpAnyH_done (by kernel_rfl) ?_ _
            clear z0 z1 z2 z3 z4 z5 z6 zf0 zf1 zf2 zf3 zf4 zf5 zf6 a0 a1 a2 lo
            go_wp2_with fail
            obtain ⟨r0, r1, r2, r3, r4, r5, r6⟩ := HR7.out
            exact bodyPost_ret (v := .agg #[.int .i64 1, .slice none 0 0, .slice (some ⟨g, 0, none⟩) 1 1, .int .i64 1, .int .i64 1, .int .i64 1, .int .i64 1]) (by simp [results, Tryz.results47, go_sem, r0, r1, r2, r3, r4, r5, r6]) rfl ⟨g, rfl, by rw [HGE.out]; exact HB1.out.size, HGF.out, HBF.out⟩
    · go_simp
      obtain ⟨w4, hw4⟩ : ∃ w4, w4 = w3.drew.alloc (.cells #[.int .i64 1, .int .i64 2, .int .i64 4] 3) := ⟨_, rfl⟩
      have HBo := Lib.hid (show Below w3.heap.size w3 w4 by rw [hw4]; exact (below_drewN (Below.refl _ _) 1).alloc (Nat.le_refl _) _)
      have lo : w4.cell? ⟨w3.heap.size, 0, none⟩ = some (.int .i64 1) := by have h := heap_alloc_new w3.drew (.cells #[.int .i64 1, .int .i64 2, .int .i64 4] 3); rw [← hw4] at h; have h2 : w4.heap[w3.heap.size]? = _ := h; rw [World.cell?, h2]; rfl
      first | rw [← hw4] | rw [show (w3.alloc (.cells #[.int .i64 1, .int .i64 2, .int .i64 4] 3)).drew = w4 from hw4.symm]
      clear hw4
      refine hK.out _ _ ?_ (fun hHeld => ?_)
      · ((try dsimp only); exact ⟨Kc HBo.out HSL.out a0, Kc HBo.out HSL.out a1, Kc HBo.out HSL.out a2⟩)
      clear hK K
      try simp only [Act.put, Qa, Qb, Qc, Qd, Qe, Qf]
      refine Qr 2 fun K hK => ?_
      go_simp
      go_at_call 71
      refine (rat_nil 2 (by decide) _).mono ?_
      rintro e w9 ⟨rfl, hw⟩
      obtain rfl := hw.symm
      clear hw
      try go_wp2_with fail
      refine hK.out _ _ ?_ (fun hHeld => ?_)
      · ((try dsimp only); exact ⟨Kc HBo.out HSL.out a0, Kc HBo.out HSL.out a1, Kc HBo.out HSL.out a2⟩)
      clear hK K
      try simp only [Act.put, Qa, Qb, Qc, Qd, Qe, Qf]
      refine Qt 3 (fun _ => ?_)
      refine Qt 4 (fun _ => ?_)
      refine Qr 7 fun K hK => ?_
      go_simp
      go_at_call 71
      refine (rat_nil 3 (by decide) _).mono ?_
      rintro e w9 ⟨rfl, hw⟩
      obtain rfl := hw.symm
      clear hw
      try go_wp2_with fail
      refine hK.out _ _ ?_ (fun hHeld => ?_)
      · ((try dsimp only); exact ⟨Kc HBo.out HSL.out a0, Kc HBo.out HSL.out a1, Kc HBo.out HSL.out a2⟩)
      clear hK K
      try simp only [Act.put, Qa, Qb, Qc, Qd, Qe, Qf]
      refine Qt 8 (fun _ => ?_)
      refine Qt 9 (fun _ => ?_)
      refine wpAnyH_ready (rs := [10, 12]) (by kernel_rfl) (by simp) ?_
      refine AllReadyH.cons rfl (fun K hK => ?_) (AllReadyH.cons rfl (fun K hK => ?_) AllReadyH.nil)
      · go_simp
        try go_wp2_with fail
        refine hK.out _ _ ?_ (fun hHeld => ?_)
        · ((try dsimp only); exact ⟨Kc HBo.out HSL.out a0, Kc HBo.out HSL.out a1, Kc HBo.out HSL.out a2⟩)
        clear hK K
        try simp only [Act.put, Qa, Qb, Qc, Qd, Qe, Qf]
        refine Qr 12 fun K hK => ?_
        go_simp
        go_at_call 71
        refine (rat_nil 4 (by decide) _).mono ?_
        rintro e w9 ⟨rfl, hw⟩
        obtain rfl := hw.symm
        clear hw
        try go_wp2_with fail
        refine hK.out _ _ ?_ (fun hHeld => ?_)
        · ((try dsimp only); exact ⟨Kc HBo.out HSL.out a0, Kc HBo.out HSL.out a1, Kc HBo.out HSL.out a2⟩)
        clear hK K
        try simp only [Act.put, Qa, Qb, Qc, Qd, Qe, Qf]
        refine Qt 13 (fun _ => ?_)
        refine Qt 14 (fun _ => ?_)
        refine Qr 16 fun K hK => ?_
        go_simp
        go_at_call 71
        refine (rat_nil 5 (by decide) _).mono ?_
        rintro e w9 ⟨rfl, hw⟩
        obtain rfl := hw.symm
        clear hw
        try go_wp2_with fail
        refine hK.out _ _ ?_ (fun hHeld => ?_)
        · ((try dsimp only); exact ⟨Kc HBo.out HSL.out a0, Kc HBo.out HSL.out a1, Kc HBo.out HSL.out a2⟩)
        clear hK K
        try simp only [Act.put, Qa, Qb, Qc, Qd, Qe, Qf]
        refine Qt 17 (fun _ => ?_)
        refine Qt 18 (fun _ => ?_)
        refine Qt 19 (fun _ => ?_)
        have hz3 := (HBo.out.block z (Array.getElem?_eq_some_iff.1 HZ3.out).1).trans HZ3.out
        obtain ⟨z0, z1, z2, z3, z4, z5, z6⟩ := cells7' hz3
        have zf0 := free_of hz3 0
        have zf1 := free_of hz3 1
        have zf2 := free_of hz3 2
        have zf3 := free_of hz3 3
        have zf4 := free_of hz3 4
        have zf5 := free_of hz3 5
        have zf6 := free_of hz3 6
        have HR7 := Lib.hid (cells7' (heap_setCell_same _ z 6 _ _ (.int .i64 1) (heap_setCell_same _ z 5 _ _ (.int .i64 1) (heap_setCell_same _ z 4 _ _ (.int .i64 1) (heap_setCell_same _ z 3 _ _ (.int .i64 1) (heap_setCell_same _ z 2 _ _ (.slice (some ⟨g, 0, none⟩) 1 1) (heap_setCell_same _ z 1 _ _ (.slice none 0 0) (heap_setCell_same _ z 0 _ _ (.int .i64 1) hz3))))))))
        have HGF := Lib.hid ((heap_setCell_other _ ⟨z, 6, none⟩ _ (.int .i64 1) HNZ.out.2).trans ((heap_setCell_other _ ⟨z, 5, none⟩ _ (.int .i64 1) HNZ.out.2).trans ((heap_setCell_other _ ⟨z, 4, none⟩ _ (.int .i64 1) HNZ.out.2).trans ((heap_setCell_other _ ⟨z, 3, none⟩ _ (.int .i64 1) HNZ.out.2).trans ((heap_setCell_other _ ⟨z, 2, none⟩ _ (.slice (some ⟨g, 0, none⟩) 1 1) HNZ.out.2).trans ((heap_setCell_other _ ⟨z, 1, none⟩ _ (.slice none 0 0) HNZ.out.2).trans ((heap_setCell_other _ ⟨z, 0, none⟩ _ (.int .i64 1) HNZ.out.2).trans ((HBo.out.block g (Array.getElem?_eq_some_iff.1 HG3.out).1).trans HG3.out))))))))
        have HBF := Lib.hid ((((((((HB1.out.trans ((HB13.out.trans (HBo.out.mono HB13.out.size)).mono HB1.out.size)).setCell (p := ⟨z, 0, none⟩) (Nat.le_of_eq HZZ.out.symm) (.int .i64 1)).setCell (p := ⟨z, 1, none⟩) (Nat.le_of_eq HZZ.out.symm) (.slice none 0 0)).setCell (p := ⟨z, 2, none⟩) (Nat.le_of_eq HZZ.out.symm) (.slice (some ⟨g, 0, none⟩) 1 1)).setCell (p := ⟨z, 3, none⟩) (Nat.le_of_eq HZZ.out.symm) (.int .i64 1)).setCell (p := ⟨z, 4, none⟩) (Nat.le_of_eq HZZ.out.symm) (.int .i64 1)).setCell (p := ⟨z, 5, none⟩) (Nat.le_of_eq HZZ.out.symm) (.int .i64 1)).setCell (p := ⟨z, 6, none⟩) (Nat.le_of_eq HZZ.out.symm) (.int .i64 1))
        clear hz3
        try simp only [hwr]
        refine Qr 20 fun K hK => ?_
        go_simp
        refine hK.out _ _ ?_ (fun hHeld => ?_)
        · ((try dsimp only); exact ⟨(World.cell?_setCell_far _ _ _ _ HNZ.out.1).trans ((World.cell?_setCell_far _ _ _ _ HNZ.out.1).trans ((World.cell?_setCell_far _ _ _ _ HNZ.out.1).trans ((World.cell?_setCell_far _ _ _ _ HNZ.out.1).trans ((World.cell?_setCell_far _ _ _ _ HNZ.out.1).trans ((World.cell?_setCell_far _ _ _ _ HNZ.out.1).trans ((World.cell?_setCell_far _ _ _ _ HNZ.out.1).trans (Kc HBo.out HSL.out a0))))))), (World.cell?_setCell_far _ _ _ _ HNZ.out.1).trans ((World.cell?_setCell_far _ _ _ _ HNZ.out.1).trans ((World.cell?_setCell_far _ _ _ _ HNZ.out.1).trans ((World.cell?_setCell_far _ _ _ _ HNZ.out.1).trans ((World.cell?_setCell_far _ _ _ _ HNZ.out.1).trans ((World.cell?_setCell_far _ _ _ _ HNZ.out.1).trans ((World.cell?_setCell_far _ _ _ _ HNZ.out.1).trans (Kc HBo.out HSL.out a1))))))), (World.cell?_setCell_far _ _ _ _ HNZ.out.1).trans ((World.cell?_setCell_far _ _ _ _ HNZ.out.1).trans ((World.cell?_setCell_far _ _ _ _ HNZ.out.1).trans ((World.cell?_setCell_far _ _ _ _ HNZ.out.1).trans ((World.cell?_setCell_far _ _ _ _ HNZ.out.1).trans ((World.cell?_setCell_far _ _ _ _ HNZ.out.1).trans ((World.cell?_setCell_far _ _ _ _ HNZ.out.1).trans (Kc HBo.out HSL.out a2)))))))⟩)
        clear hK K
        try simp only [Act.put, Qa, Qb, Qc, Qd, Qe, Qf]
        refine wpAnyH_done (by kernel_rfl) ?_ _
        clear z0 z1 z2 z3 z4 z5 z6 zf0 zf1 zf2 zf3 zf4 zf5 zf6 a0 a1 a2 lo
        go_wp2_with fail
        obtain ⟨r0, r1, r2, r3, r4, r5, r6⟩ := HR7.out
        exact bodyPost_ret (v := .agg #[.int .i64 1, .slice none 0 0, .slice (some ⟨g, 0, none⟩) 1 1, .int .i64 1, .int .i64 1, .int .i64 1, .int .i64 1]) (by simp [results, Tryz.results47, go_sem, r0, r1, r2, r3, r4, r5, r6]) rfl ⟨g, rfl, by rw [HGE.out]; exact HB1.out.size, HGF.out, HBF.out⟩
      · go_simp
        go_at_call 71
        refine (rat_nil 4 (by decide) _).mono ?_
        rintro e w9 ⟨rfl, hw⟩
        obtain rfl := hw.symm
        clear hw
        try go_wp2_with fail
        refine hK.out _ _ ?_ (fun hHeld => ?_)
        · ((try dsimp only); exact ⟨Kc HBo.out HSL.out a0, Kc HBo.out HSL.out a1, Kc HBo.out HSL.out a2⟩)
        clear hK K
        try simp only [Act.put, Qa, Qb, Qc, Qd, Qe, Qf]
        refine Qt 13 (fun _ => ?_)
        refine Qt 14 (fun _ => ?_)
        refine wpAnyH_ready (rs := [10, 16]) (by kernel_rfl) (by simp) ?_
        refine AllReadyH.cons rfl (fun K hK => ?_) (AllReadyH.cons rfl (fun K hK => ?_) AllReadyH.nil)
        · go_simp
          try go_wp2_with fail
          refine hK.out _ _ ?_ (fun hHeld => ?_)
          · ((try dsimp only); exact ⟨Kc HBo.out HSL.out a0, Kc HBo.out HSL.out a1, Kc HBo.out HSL.out a2⟩)
          clear hK K
          try simp only [Act.put, Qa, Qb, Qc, Qd, Qe, Qf]
          refine Qr 16 fun K hK => ?_
          go_simp
          go_at_call 71
          refine (rat_nil 5 (by decide) _).mono ?_
          rintro e w9 ⟨rfl, hw⟩
          obtain rfl := hw.symm
          clear hw
          try go_wp2_with fail
          refine hK.out _ _ ?_ (fun hHeld => ?_)
          · ((try dsimp only); exact ⟨Kc HBo.out HSL.out a0, Kc HBo.out HSL.out a1, Kc HBo.out HSL.out a2⟩)
          clear hK K
          try simp only [Act.put, Qa, Qb, Qc, Qd, Qe, Qf]
          refine Qt 17 (fun _ => ?_)
          refine Qt 18 (fun _ => ?_)
          refine Qt 19 (fun _ => ?_)
          have hz3 := (HBo.out.block z (Array.getElem?_eq_some_iff.1 HZ3.out).1).trans HZ3.out
          obtain ⟨z0, z1, z2, z3, z4, z5, z6⟩ := cells7' hz3
          have zf0 := free_of hz3 0
          have zf1 := free_of hz3 1
          have zf2 := free_of hz3 2
          have zf3 := free_of hz3 3
          have zf4 := free_of hz3 4
          have zf5 := free_of hz3 5
          have zf6 := free_of hz3 6
          have HR7 := Lib.hid (cells7' (heap_setCell_same _ z 6 _ _ (.int .i64 1) (heap_setCell_same _ z 5 _ _ (.int .i64 1) (heap_setCell_same _ z 4 _ _ (.int .i64 1) (heap_setCell_same _ z 3 _ _ (.int .i64 1) (heap_setCell_same _ z 2 _ _ (.slice (some ⟨g, 0, none⟩) 1 1) (heap_setCell_same _ z 1 _ _ (.slice none 0 0) (heap_setCell_same _ z 0 _ _ (.int .i64 1) hz3))))))))
          have HGF := Lib.hid ((heap_setCell_other _ ⟨z, 6, none⟩ _ (.int .i64 1) HNZ.out.2).trans ((heap_setCell_other _ ⟨z, 5, none⟩ _ (.int .i64 1) HNZ.out.2).trans ((heap_setCell_other _ ⟨z, 4, none⟩ _ (.int .i64 1) HNZ.out.2).trans ((heap_setCell_other _ ⟨z, 3, none⟩ _ (.int .i64 1) HNZ.out.2).trans ((heap_setCell_other _ ⟨z, 2, none⟩ _ (.slice (some ⟨g, 0, none⟩) 1 1) HNZ.out.2).trans ((heap_setCell_other _ ⟨z, 1, none⟩ _ (.slice none 0 0) HNZ.out.2).trans ((heap_setCell_other _ ⟨z, 0, none⟩ _ (.int .i64 1) HNZ.out.2).trans ((HBo.out.block g (Array.getElem?_eq_some_iff.1 HG3.out).1).trans HG3.out))))))))
          have HBF := Lib.hid ((((((((HB1.out.trans ((HB13.out.trans (HBo.out.mono HB13.out.size)).mono HB1.out.size)).setCell (p := ⟨z, 0, none⟩) (Nat.le_of_eq HZZ.out.symm) (.int .i64 1)).setCell (p := ⟨z, 1, none⟩) (Nat.le_of_eq HZZ.out.symm) (.slice none 0 0)).setCell (p := ⟨z, 2, none⟩) (Nat.le_of_eq HZZ.out.symm) (.slice (some ⟨g, 0, none⟩) 1 1)).setCell (p := ⟨z, 3, none⟩) (Nat.le_of_eq HZZ.out.symm) (.int .i64 1)).setCell (p := ⟨z, 4, none⟩) (Nat.le_of_eq HZZ.out.symm) (.int .i64 1)).setCell (p := ⟨z, 5, none⟩) (Nat.le_of_eq HZZ.out.symm) (.int .i64 1)).setCell (p := ⟨z, 6, none⟩) (Nat.le_of_eq HZZ.out.symm) (.int .i64 1))
          clear hz3
          try simp only [hwr]
          refine Qr 20 fun K hK => ?_
          go_simp
          refine hK.out _ _ ?_ (fun hHeld => ?_)
          · ((try dsimp only); exact ⟨(World.cell?_setCell_far _ _ _ _ HNZ.out.1).trans ((World.cell?_setCell_far _ _ _ _ HNZ.out.1).trans ((World.cell?_setCell_far _ _ _ _ HNZ.out.1).trans ((World.cell?_setCell_far _ _ _ _ HNZ.out.1).trans ((World.cell?_setCell_far _ _ _ _ HNZ.out.1).trans ((World.cell?_setCell_far _ _ _ _ HNZ.out.1).trans ((World.cell?_setCell_far _ _ _ _ HNZ.out.1).trans (Kc HBo.out HSL.out a0))))))), (World.cell?_setCell_far _ _ _ _ HNZ.out.1).trans ((World.cell?_setCell_far _ _ _ _ HNZ.out.1).trans ((World.cell?_setCell_far _ _ _ _ HNZ.out.1).trans ((World.cell?_setCell_far _ _ _ _ HNZ.out.1).trans ((World.cell?_setCell_far _ _ _ _ HNZ.out.1).trans ((World.cell?_setCell_far _ _ _ _ HNZ.out.1).trans ((World.cell?_setCell_far _ _ _ _ HNZ.out.1).trans (Kc HBo.out HSL.out a1))))))), (World.cell?_setCell_far _ _ _ _ HNZ.out.1).trans ((World.cell?_setCell_far _ _ _ _ HNZ.out.1).trans ((World.cell?_setCell_far _ _ _ _ HNZ.out.1).trans ((World.cell?_setCell_far _ _ _ _ HNZ.out.1).trans ((World.cell?_setCell_far _ _ _ _ HNZ.out.1).trans ((World.cell?_setCell_far _ _ _ _ HNZ.out.1).trans ((World.cell?_setCell_far _ _ _ _ HNZ.out.1).trans (Kc HBo.out HSL.out a2)))))))⟩)
          clear hK K
          try simp only [Act.put, Qa, Qb, Qc, Qd, Qe, Qf]
          refine wpAnyH_done (by kernel_rfl) ?_ _
          clear z0 z1 z2 z3 z4 z5 z6 zf0 zf1 zf2 zf3 zf4 zf5 zf6 a0 a1 a2 lo
          go_wp2_with fail
          obtain ⟨r0, r1, r2, r3, r4, r5, r6⟩ := HR7.out
          exact bodyPost_ret (v := .agg #[.int .i64 1, .slice none 0 0, .slice (some ⟨g, 0, none⟩) 1 1, .int .i64 1, .int .i64 1, .int .i64 1, .int .i64 1]) (by simp [results, Tryz.results47, go_sem, r0, r1, r2, r3, r4, r5, r6]) rfl ⟨g, rfl, by rw [HGE.out]; exact HB1.out.size, HGF.out, HBF.out⟩
        · go_simp
          go_at_call 71
          refine (rat_nil 5 (by decide) _).mono ?_
          rintro e w9 ⟨rfl, hw⟩
          obtain rfl := hw.symm
          clear hw
          try go_wp2_with fail
          refine hK.out _ _ ?_ (fun hHeld => ?_)
          · ((try dsimp only); exact ⟨Kc HBo.out HSL.out a0, Kc HBo.out HSL.out a1, Kc HBo.out HSL.out a2⟩)
          clear hK K
          try simp only [Act.put, Qa, Qb, Qc, Qd, Qe, Qf]
          refine Qt 17 (fun _ => ?_)
          refine Qt 18 (fun _ => ?_)
          refine Qr 10 fun K hK => ?_
          go_simp
          try go_wp2_with fail
          refine hK.out _ _ ?_ (fun hHeld => ?_)
          · ((try dsimp only); exact ⟨Kc HBo.out HSL.out a0, Kc HBo.out HSL.out a1, Kc HBo.out HSL.out a2⟩)
          clear hK K
          try simp only [Act.put, Qa, Qb, Qc, Qd, Qe, Qf]
          refine Qt 19 (fun _ => ?_)
          have hz3 := (HBo.out.block z (Array.getElem?_eq_some_iff.1 HZ3.out).1).trans HZ3.out
          obtain ⟨z0, z1, z2, z3, z4, z5, z6⟩ := cells7' hz3
          have zf0 := free_of hz3 0
          have zf1 := free_of hz3 1
          have zf2 := free_of hz3 2
          have zf3 := free_of hz3 3
          have zf4 := free_of hz3 4
          have zf5 := free_of hz3 5
          have zf6 := free_of hz3 6
          have HR7 := Lib.hid (cells7' (heap_setCell_same _ z 6 _ _ (.int .i64 1) (heap_setCell_same _ z 5 _ _ (.int .i64 1) (heap_setCell_same _ z 4 _ _ (.int .i64 1) (heap_setCell_same _ z 3 _ _ (.int .i64 1) (heap_setCell_same _ z 2 _ _ (.slice (some ⟨g, 0, none⟩) 1 1) (heap_setCell_same _ z 1 _ _ (.slice none 0 0) (heap_setCell_same _ z 0 _ _ (.int .i64 1) hz3))))))))
          have HGF := Lib.hid ((heap_setCell_other _ ⟨z, 6, none⟩ _ (.int .i64 1) HNZ.out.2).trans ((heap_setCell_other _ ⟨z, 5, none⟩ _ (.int .i64 1) HNZ.out.2).trans ((heap_setCell_other _ ⟨z, 4, none⟩ _ (.int .i64 1) HNZ.out.2).trans ((heap_setCell_other _ ⟨z, 3, none⟩ _ (.int .i64 1) HNZ.out.2).trans ((heap_setCell_other _ ⟨z, 2, none⟩ _ (.slice (some ⟨g, 0, none⟩) 1 1) HNZ.out.2).trans ((heap_setCell_other _ ⟨z, 1, none⟩ _ (.slice none 0 0) HNZ.out.2).trans ((heap_setCell_other _ ⟨z, 0, none⟩ _ (.int .i64 1) HNZ.out.2).trans ((HBo.out.block g (Array.getElem?_eq_some_iff.1 HG3.out).1).trans HG3.out))))))))
          have HBF := Lib.hid ((((((((HB1.out.trans ((HB13.out.trans (HBo.out.mono HB13.out.size)).mono HB1.out.size)).setCell (p := ⟨z, 0, none⟩) (Nat.le_of_eq HZZ.out.symm) (.int .i64 1)).setCell (p := ⟨z, 1, none⟩) (Nat.le_of_eq HZZ.out.symm) (.slice none 0 0)).setCell (p := ⟨z, 2, none⟩) (Nat.le_of_eq HZZ.out.symm) (.slice (some ⟨g, 0, none⟩) 1 1)).setCell (p := ⟨z, 3, none⟩) (Nat.le_of_eq HZZ.out.symm) (.int .i64 1)).setCell (p := ⟨z, 4, none⟩) (Nat.le_of_eq HZZ.out.symm) (.int .i64 1)).setCell (p := ⟨z, 5, none⟩) (Nat.le_of_eq HZZ.out.symm) (.int .i64 1)).setCell (p := ⟨z, 6, none⟩) (Nat.le_of_eq HZZ.out.symm) (.int .i64 1))
          clear hz3
          try simp only [hwr]
          refine Qr 20 fun K hK => ?_
          go_simp
          refine hK.out _ _ ?_ (fun hHeld => ?_)
          · ((try dsimp only); exact ⟨(World.cell?_setCell_far _ _ _ _ HNZ.out.1).trans ((World.cell?_setCell_far _ _ _ _ HNZ.out.1).trans ((World.cell?_setCell_far _ _ _ _ HNZ.out.1).trans ((World.cell?_setCell_far _ _ _ _ HNZ.out.1).trans ((World.cell?_setCell_far _ _ _ _ HNZ.out.1).trans ((World.cell?_setCell_far _ _ _ _ HNZ.out.1).trans ((World.cell?_setCell_far _ _ _ _ HNZ.out.1).trans (Kc HBo.out HSL.out a0))))))), (World.cell?_setCell_far _ _ _ _ HNZ.out.1).trans ((World.cell?_setCell_far _ _ _ _ HNZ.out.1).trans ((World.cell?_setCell_far _ _ _ _ HNZ.out.1).trans ((World.cell?_setCell_far _ _ _ _ HNZ.out.1).trans ((World.cell?_setCell_far _ _ _ _ HNZ.out.1).trans ((World.cell?_setCell_far _ _ _ _ HNZ.out.1).trans ((World.cell?_setCell_far _ _ _ _ HNZ.out.1).trans (Kc HBo.out HSL.out a1))))))), (World.cell?_setCell_far _ _ _ _ HNZ.out.1).trans ((World.cell?_setCell_far _ _ _ _ HNZ.out.1).trans ((World.cell?_setCell_far _ _ _ _ HNZ.out.1).trans ((World.cell?_setCell_far _ _ _ _ HNZ.out.1).trans ((World.cell?_setCell_far _ _ _ _ HNZ.out.1).trans ((World.cell?_setCell_far _ _ _ _ HNZ.out.1).trans ((World.cell?_setCell_far _ _ _ _ HNZ.out.1).trans (Kc HBo.out HSL.out a2)))))))⟩)
          clear hK K
          try simp only [Act.put, Qa, Qb, Qc, Qd, Qe, Qf]
          refine wpAnyH_done (by kernel_rfl) ?_ _
          clear z0 z1 z2 z3 z4 z5 z6 zf0 zf1 zf2 zf3 zf4 zf5 zf6 a0 a1 a2 lo
          go_wp2_with fail
          obtain ⟨r0, r1, r2, r3, r4, r5, r6⟩ := HR7.out
          exact bodyPost_ret (v := .agg #[.int .i64 1, .slice none 0 0, .slice (some ⟨g, 0, none⟩) 1 1, .int .i64 1, .int .i64 1, .int .i64 1, .int .i64 1]) (by simp [results, Tryz.results47, go_sem, r0, r1, r2, r3, r4, r5, r6]) rfl ⟨g, rfl, by rw [HGE.out]; exact HB1.out.size, HGF.out, HBF.out⟩
theorem infoRCs : (Tryz.prog.info? 105).map (fun i => (i.zero, i.size, i.bytes)) = some (some (.slice none 0 0), 1, 24) := by kernel_rfl
theorem mk_rprogs : ∃ o : Obj, ∀ w : World, (Instr.makeSlice 62 (.int .i64 1) (.int .i64 1)).run Tryz.prog w = .ok (.slice (some ⟨w.heap.size, 0, none⟩) 1 1) (w.alloc o) := by
  obtain ⟨i, hi, hz0, hz1, hz2⟩ := Gr.info_parts infoRCs
  exact ⟨_, fun w => by
    have := run_make (P := Tryz.prog) w 62 105 i (.slice none 0 0) Tryz.underlying62 hi hz0 .i64 .i64 1 1 (by omega) (Int.le_refl _) (by rw [hz2]; decide) (by omega)
    exact this⟩
set_option maxRecDepth 1000000 in
set_option maxHeartbeats 8000000 in
theorem rread_nil (w : World) : Calls Tryz.prog 21 #[.slice none 0 0] w fun e w' => ∃ g h, e = .returned (.agg #[.int .i64 1, .slice none 0 0, .slice (some ⟨g, 0, none⟩) 1 1, .int .i64 1, .int .i64 1, .int .i64 1, .int .i64 1, .slice (some ⟨h, 0, none⟩) 1 1, .slice none 0 0]) ∧ w'.heap[g]? = some (.cells #[.int .i64 0] 3 (0, 0)) ∧ Below w.heap.size w w' := by
  obtain ⟨o, hmk⟩ := mk_rprogs
  obtain ⟨w1, hw1⟩ : ∃ w1, w1 = w.alloc (.cells #[.int .i64 0, .slice none 0 0, .slice none 0 0, .int .i64 0, .int .i64 0, .int .i64 0, .int .i64 0, .slice none 0 0, .slice none 0 0] 64) := ⟨_, rfl⟩
  have hz1 : w1.heap[w.heap.size]? = some (.cells #[.int .i64 0, .slice none 0 0, .slice none 0 0, .int .i64 0, .int .i64 0, .int .i64 0, .int .i64 0, .slice none 0 0, .slice none 0 0] 64 (0, 0)) := by rw [hw1]; exact heap_alloc_new w _
  have HB1 := Lib.hid (show Below w.heap.size w w1 by rw [hw1]; exact (Below.refl _ _).alloc (Nat.le_refl _) _)
  obtain ⟨z, hz⟩ : ∃ z, z = w.heap.size := ⟨_, rfl⟩
  rw [← hz] at hz1
  have HZZ := Lib.hid hz
  have HZ1 := Lib.hid hz1
  go_enter Tryz.func21, Tryz.ntmps21
  go_upto_region 1 with fail
  rw [← hw1, ← hz]
  clear hw1 hz hz1
  go_wp2_with fail
  go_at_call 47
  refine (rplan_nil w1).mono ?_
  rintro e w2 ⟨g, rfl, hg, hcg, hb⟩
  have HB2 := Lib.hid (HB1.out.trans (hb.mono HB1.out.size))
  have HZ2 := Lib.hid ((hb.block z (Array.getElem?_eq_some_iff.1 HZ1.out).1).trans HZ1.out)
  have HG2 := Lib.hid hcg
  have HGZ := Lib.hid (show g ≠ z by have h1 := (Array.getElem?_eq_some_iff.1 HZ1.out).1; omega)
  clear hb hg hcg
  go_upto_region 2 with fail
  obtain ⟨w3, hw3⟩ : ∃ w3, w3 = w2.alloc (.cells #[.int .i64 1, .slice none 0 0, .slice (some ⟨g, 0, none⟩) 1 1, .int .i64 1, .int .i64 1, .int .i64 1, .int .i64 1, .slice none 0 0, .slice none 0 0] 64) := ⟨_, rfl⟩
  have hc3 : w3.heap[w2.heap.size]? = some (.cells #[.int .i64 1, .slice none 0 0, .slice (some ⟨g, 0, none⟩) 1 1, .int .i64 1, .int .i64 1, .int .i64 1, .int .i64 1, .slice none 0 0, .slice none 0 0] 64 (0, 0)) := by rw [hw3]; exact heap_alloc_new w2 _
  have hb3 : Below w2.heap.size w2 w3 := by rw [hw3]; exact (Below.refl _ _).alloc (Nat.le_refl _) _
  rw [← hw3]
  obtain ⟨s, hs⟩ : ∃ s, s = w2.heap.size := ⟨_, rfl⟩
  rw [← hs] at hc3 ⊢
  have HB3 := Lib.hid (HB2.out.trans (hb3.mono HB2.out.size))
  have HZ3 := Lib.hid ((hb3.block z (Array.getElem?_eq_some_iff.1 HZ2.out).1).trans HZ2.out)
  have HG3 := Lib.hid ((hb3.block g (Array.getElem?_eq_some_iff.1 HG2.out).1).trans HG2.out)
  have HSZ := Lib.hid (show z ≠ s ∧ g ≠ s ∧ w.heap.size ≤ s by have h1 := (Array.getElem?_eq_some_iff.1 HZ2.out).1; have h2 := (Array.getElem?_eq_some_iff.1 HG2.out).1; have h3 := HB2.out.size; omega)
  have HS3 := Lib.hid hc3
  obtain ⟨a0, a1, a2, a3, a4, a5, a6, a7, a8⟩ := cells9 hc3
  clear hw3 hb3 hs
  obtain ⟨h, hh⟩ : ∃ h, h = w3.heap.size := ⟨_, rfl⟩
  obtain ⟨w4, hw4⟩ : ∃ w4, w4 = w3.alloc o := ⟨_, rfl⟩
  have hb4 : Below w3.heap.size w3 w4 := by rw [hw4]; exact (Below.refl _ _).alloc (Nat.le_refl _) _
  have hs4 := (hb4.block s (Array.getElem?_eq_some_iff.1 HS3.out).1).trans HS3.out
  have sf := free_of hs4 7
  have s7 := (cells9 hs4).2.2.2.2.2.2.2.1
  have HS5 := Lib.hid (heap_setCell_same _ s 7 _ _ (.slice (some ⟨h, 0, none⟩) 1 1) hs4)
  have HB5 := Lib.hid ((HB3.out.trans (hb4.mono HB3.out.size)).setCell (p := ⟨s, 7, none⟩) HSZ.out.2.2 (.slice (some ⟨h, 0, none⟩) 1 1))
  have HZ5 := Lib.hid ((heap_setCell_other w4 ⟨s, 7, none⟩ _ (.slice (some ⟨h, 0, none⟩) 1 1) HSZ.out.1).trans ((hb4.block z (Array.getElem?_eq_some_iff.1 HZ3.out).1).trans HZ3.out))
  have HG5 := Lib.hid ((heap_setCell_other w4 ⟨s, 7, none⟩ _ (.slice (some ⟨h, 0, none⟩) 1 1) HSZ.out.2.1).trans ((hb4.block g (Array.getElem?_eq_some_iff.1 HG3.out).1).trans HG3.out))
  rw [hw4] at s7 sf
  go_upto_region 3 with fail
  rw [← hh, ← hw4]
  obtain ⟨w5, hw5⟩ : ∃ w5, w5 = w4.setCell ⟨s, 7, none⟩ (.slice (some ⟨h, 0, none⟩) 1 1) := ⟨_, rfl⟩
  rw [← hw5]
  rw [← hw5] at HS5 HB5 HZ5 HG5
  clear hs4 sf s7 hb4 hw4 hw5 hh hc3 a0 a1 a2 a3 a4 a5 a6 a7 a8 hmk
  go_wp2_with fail
  go_loopg [4, 5] 1 (fun k a b wr => k = 1 ∧ a = .int .i64 0 ∧ b = .int .i64 20 ∧ wr = w5)
  case atStart => exact ⟨rfl, rfl, rfl, rfl⟩
  case round =>
    obtain ⟨_, rfl, rfl, hwr3⟩ := hrel
    obtain rfl := hwr3.symm
    clear hwr3
    go_wp2_with fail
    go_loopg [7] 1 (fun k b wr => k = 1 ∧ b = .int .i64 20 ∧ wr = w5)
    case atStart => exact ⟨rfl, rfl, rfl⟩
    case round =>
      obtain ⟨_, rfl, hwr3⟩ := hrel
      obtain rfl := hwr3.symm
      clear hwr3
      obtain ⟨z0, z1, z2, z3, z4, z5, z6, z7, z8⟩ := cells9 HZ5.out
      obtain ⟨b0, b1, b2, b3, b4, b5, b6, b7, b8⟩ := cells9 HS5.out
      have zf0 := free_of HZ5.out 0
      have zf1 := free_of HZ5.out 1
      have zf2 := free_of HZ5.out 2
      have zf3 := free_of HZ5.out 3
      have zf4 := free_of HZ5.out 4
      have zf5 := free_of HZ5.out 5
      have zf6 := free_of HZ5.out 6
      have zf7 := free_of HZ5.out 7
      have zf8 := free_of HZ5.out 8
      have HR9 := Lib.hid (cells9 (heap_setCell_same _ z 8 _ _ (.slice none 0 0) (heap_setCell_same _ z 7 _ _ (.slice (some ⟨h, 0, none⟩) 1 1) (heap_setCell_same _ z 6 _ _ (.int .i64 1) (heap_setCell_same _ z 5 _ _ (.int .i64 1) (heap_setCell_same _ z 4 _ _ (.int .i64 1) (heap_setCell_same _ z 3 _ _ (.int .i64 1) (heap_setCell_same _ z 2 _ _ (.slice (some ⟨g, 0, none⟩) 1 1) (heap_setCell_same _ z 1 _ _ (.slice none 0 0) (heap_setCell_same _ z 0 _ _ (.int .i64 1) HZ5.out))))))))))
      have HGF := Lib.hid ((heap_setCell_other _ ⟨z, 8, none⟩ _ (.slice none 0 0) HGZ.out).trans ((heap_setCell_other _ ⟨z, 7, none⟩ _ (.slice (some ⟨h, 0, none⟩) 1 1) HGZ.out).trans ((heap_setCell_other _ ⟨z, 6, none⟩ _ (.int .i64 1) HGZ.out).trans ((heap_setCell_other _ ⟨z, 5, none⟩ _ (.int .i64 1) HGZ.out).trans ((heap_setCell_other _ ⟨z, 4, none⟩ _ (.int .i64 1) HGZ.out).trans ((heap_setCell_other _ ⟨z, 3, none⟩ _ (.int .i64 1) HGZ.out).trans ((heap_setCell_other _ ⟨z, 2, none⟩ _ (.slice (some ⟨g, 0, none⟩) 1 1) HGZ.out).trans ((heap_setCell_other _ ⟨z, 1, none⟩ _ (.slice none 0 0) HGZ.out).trans ((heap_setCell_other _ ⟨z, 0, none⟩ _ (.int .i64 1) HGZ.out).trans HG5.out)))))))))
      have HBF := Lib.hid (((((((((HB5.out.setCell (p := ⟨z, 0, none⟩) (Nat.le_of_eq HZZ.out.symm) (.int .i64 1)).setCell (p := ⟨z, 1, none⟩) (Nat.le_of_eq HZZ.out.symm) (.slice none 0 0)).setCell (p := ⟨z, 2, none⟩) (Nat.le_of_eq HZZ.out.symm) (.slice (some ⟨g, 0, none⟩) 1 1)).setCell (p := ⟨z, 3, none⟩) (Nat.le_of_eq HZZ.out.symm) (.int .i64 1)).setCell (p := ⟨z, 4, none⟩) (Nat.le_of_eq HZZ.out.symm) (.int .i64 1)).setCell (p := ⟨z, 5, none⟩) (Nat.le_of_eq HZZ.out.symm) (.int .i64 1)).setCell (p := ⟨z, 6, none⟩) (Nat.le_of_eq HZZ.out.symm) (.int .i64 1)).setCell (p := ⟨z, 7, none⟩) (Nat.le_of_eq HZZ.out.symm) (.slice (some ⟨h, 0, none⟩) 1 1)).setCell (p := ⟨z, 8, none⟩) (Nat.le_of_eq HZZ.out.symm) (.slice none 0 0))
      go_wp2_with fail
      obtain ⟨r0, r1, r2, r3, r4, r5, r6, r7, r8⟩ := HR9.out
      exact bodyPost_ret (v := .agg #[.int .i64 1, .slice none 0 0, .slice (some ⟨g, 0, none⟩) 1 1, .int .i64 1, .int .i64 1, .int .i64 1, .int .i64 1, .slice (some ⟨h, 0, none⟩) 1 1, .slice none 0 0]) (by simp [results, Tryz.results21, go_sem, r0, r1, r2, r3, r4, r5, r6, r7, r8]) rfl ⟨g, h, rfl, HGF.out, HBF.out⟩
end Go.Proofs.YtdbaacalfbbdiaaGreatDoor.Sc
