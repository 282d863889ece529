/-
  PACKAGE script: Read of no bytes. (gen/scread0.py)
-/
import Derived.Test.YtdbaacalfbbdiaaGreatDoorScGText
import Derived.Test.YtdbaacalfbbdiaaGreatDoorScApp
import Derived.Test.YtdbaacalfbbdiaaGreatDoorJoined7
import Derived.BigQuiet
namespace Go.Proofs.YtdbaacalfbbdiaaGreatDoor.Sc
open Go.RowKit
set_option linter.unusedVariables false
set_option linter.unusedSimpArgs false
theorem at_nil (i : Nat) (hi : i ≤ 100) (w : World) : Calls Tryz.prog 72 #[.slice none 0 0, .int .i64 (i : Int)] w fun e w' => e = .returned (.int .i64 0) ∧ w' = w := by
  have h0 : (0 : Int) ≤ (i : Int) := Int.natCast_nonneg _
  go_enter Tryz.func72, Tryz.ntmps72
  go_wp2_with fail
  go_ret
  exact ⟨rfl, rfl⟩
theorem edges_nil (w : World) : Calls Tryz.prog 73 #[.slice none 0 0, .int .i64 1] w fun e w' => e = .returned (.slice none 0 0) ∧ w' = w := by
  go_enter Tryz.func73, Tryz.ntmps73
  go_wp2_with (go_at_call 72; refine (at_nil 1 (by decide) w).mono ?_; rintro e w' ⟨rfl, hw⟩; obtain rfl := hw.symm)
  go_loopg [5, 13] 1 (fun k o t wr => k = 1 ∧ o = .slice none 0 0 ∧ t = .int .i64 0 ∧ wr = w)
  case atStart => exact ⟨rfl, rfl, rfl, rfl⟩
  case round =>
    obtain ⟨_, rfl, rfl, rfl⟩ := hrel
    go_wp2_with fail
    go_ret
    exact ⟨rfl, rfl⟩
theorem inputs_nil (w : World) : Calls Tryz.prog 74 #[.slice none 0 0, .int .i64 1] w fun e w' => e = .returned (.slice (some ⟨w.heap.size, 0, none⟩) 1 1) ∧ w' = w.alloc (.cells #[.int .i64 0] 3) := by
  go_enter Tryz.func74, Tryz.ntmps74
  go_wp2_with (go_at_call 72; refine (at_nil 0 (by decide) w).mono ?_; rintro e w' ⟨rfl, hw⟩; obtain rfl := hw.symm)
  go_ret
  exact ⟨rfl, rfl⟩
theorem cells7' {w : World} {b : Nat} {T : TypeId} {v0 v1 v2 v3 v4 v5 v6 : Value} (h : w.heap[b]? = some (.cells #[v0, v1, v2, v3, v4, v5, v6] T (0, 0))) : w.cell? ⟨b, 0, none⟩ = some v0 ∧ w.cell? ⟨b, 1, none⟩ = some v1 ∧ w.cell? ⟨b, 2, none⟩ = some v2 ∧ w.cell? ⟨b, 3, none⟩ = some v3 ∧ w.cell? ⟨b, 4, none⟩ = some v4 ∧ w.cell? ⟨b, 5, none⟩ = some v5 ∧ w.cell? ⟨b, 6, none⟩ = some v6 := by
  simp [World.cell?, h]
theorem cells9 {w : World} {b : Nat} {T : TypeId} {v0 v1 v2 v3 v4 v5 v6 v7 v8 : Value} (h : w.heap[b]? = some (.cells #[v0, v1, v2, v3, v4, v5, v6, v7, v8] T (0, 0))) : w.cell? ⟨b, 0, none⟩ = some v0 ∧ w.cell? ⟨b, 1, none⟩ = some v1 ∧ w.cell? ⟨b, 2, none⟩ = some v2 ∧ w.cell? ⟨b, 3, none⟩ = some v3 ∧ w.cell? ⟨b, 4, none⟩ = some v4 ∧ w.cell? ⟨b, 5, none⟩ = some v5 ∧ w.cell? ⟨b, 6, none⟩ = some v6 ∧ w.cell? ⟨b, 7, none⟩ = some v7 ∧ w.cell? ⟨b, 8, none⟩ = some v8 := by
  simp [World.cell?, h]
set_option maxRecDepth 1000000 in
set_option maxHeartbeats 8000000 in
theorem plan_nil (w : World) : Calls Tryz.prog 51 #[.slice none 0 0] w fun e w' => ∃ g, e = .returned (.agg #[.int .i64 1, .slice none 0 0, .slice (some ⟨g, 0, none⟩) 1 1, .int .i64 1, .int .i64 1, .int .i64 1, .int .i64 1]) ∧ w.heap.size ≤ g ∧ w'.heap[g]? = some (.cells #[.int .i64 0] 3 (0, 0)) ∧ Below w.heap.size w w' := by
  obtain ⟨w1, hw1⟩ : ∃ w1, w1 = w.alloc (.cells #[.int .i64 0, .slice none 0 0, .slice none 0 0, .int .i64 0, .int .i64 0, .int .i64 0, .int .i64 0] 58) := ⟨_, rfl⟩
  have hz1 : w1.heap[w.heap.size]? = some (.cells #[.int .i64 0, .slice none 0 0, .slice none 0 0, .int .i64 0, .int .i64 0, .int .i64 0, .int .i64 0] 58 (0, 0)) := by rw [hw1]; exact heap_alloc_new w _
  have HB1 := Lib.hid (show Below w.heap.size w w1 by rw [hw1]; exact (Below.refl _ _).alloc (Nat.le_refl _) _)
  obtain ⟨z, hz⟩ : ∃ z, z = w.heap.size := ⟨_, rfl⟩
  rw [← hz] at hz1
  have HZZ := Lib.hid hz
  have HZ1 := Lib.hid hz1
  go_enter Tryz.func51, Tryz.ntmps51
  go_upto_region 1 with fail
  rw [← hw1, ← hz]
  clear hw1 hz hz1
  go_wp2_with fail
  go_at_call 72
  refine (at_nil 0 (by decide) w1).mono ?_
  rintro e w2 ⟨rfl, hw⟩
  obtain rfl := hw.symm
  go_upto_region 2 with fail
  refine wp_region_held_drew (S := fun w' => True) (by kernel_rfl) ?_ (fun hHeld => ?_)
  · trivial
  refine Qt 0 (fun _ => ?_)
  refine Qt 1 (fun _ => ?_)
  refine Qt 2 (fun _ => ?_)
  refine Qt 4 (fun _ => ?_)
  refine Qt 5 (fun _ => ?_)
  refine Qt 8 (fun _ => ?_)
  refine Qt 12 (fun _ => ?_)
  refine Qt 16 (fun _ => ?_)
  refine Qt 20 (fun _ => ?_)
  refine Qr 3 fun K hK => ?_
  go_simp
  go_at_call 73
  refine (edges_nil _).mono ?_
  rintro e w9 ⟨rfl, hw⟩
  obtain rfl := hw.symm
  clear hw
  try go_wp2_with fail
  refine hK.out _ _ ?_ (fun hHeld => ?_)
  · trivial
  clear hK K
  try simp only [Act.put, Qa, Qb, Qc, Qd, Qe, Qf]
  refine Qr 6 fun K hK => ?_
  go_simp
  go_at_call 74
  refine (inputs_nil _).mono ?_
  rintro e w3 ⟨rfl, hw3⟩
  have hg3 : w3.heap[w1.heap.size]? = some (.cells #[.int .i64 0] 3 (0, 0)) := by rw [hw3]; exact heap_alloc_new w1.drew _
  have hb3 : Below w1.heap.size w1 w3 := by rw [hw3]; exact (below_drewN (Below.refl _ _) 1).alloc (Nat.le_refl _) _
  obtain ⟨g, hg⟩ : ∃ g, g = w1.heap.size := ⟨_, rfl⟩
  have hgd : g = w1.drew.heap.size := hg
  rw [← hgd]
  rw [← hg] at hg3
  have HG3 := Lib.hid hg3
  have HGE := Lib.hid hg
  have HB3 := Lib.hid hb3
  clear hw3 hg3 hb3 hgd hg
  try go_wp2_with fail
  refine hK.out _ _ ?_ (fun hHeld => ?_)
  · trivial
  clear hK K
  try simp only [Act.put, Qa, Qb, Qc, Qd, Qe, Qf]
  refine Qt 7 (fun _ => ?_)
  refine Qr 9 fun K hK => ?_
  go_simp
  go_at_call 72
  refine (at_nil 2 (by decide) _).mono ?_
  rintro e w9 ⟨rfl, hw⟩
  obtain rfl := hw.symm
  clear hw
  try go_wp2_with fail
  refine hK.out _ _ ?_ (fun hHeld => ?_)
  · trivial
  clear hK K
  try simp only [Act.put, Qa, Qb, Qc, Qd, Qe, Qf]
  refine Qt 10 (fun _ => ?_)
  refine Qt 11 (fun _ => ?_)
  refine Qr 13 fun K hK => ?_
  go_simp
  go_at_call 72
  refine (at_nil 3 (by decide) _).mono ?_
  rintro e w9 ⟨rfl, hw⟩
  obtain rfl := hw.symm
  clear hw
  try go_wp2_with fail
  refine hK.out _ _ ?_ (fun hHeld => ?_)
  · trivial
  clear hK K
  try simp only [Act.put, Qa, Qb, Qc, Qd, Qe, Qf]
  refine Qt 14 (fun _ => ?_)
  refine Qt 15 (fun _ => ?_)
  refine Qr 17 fun K hK => ?_
  go_simp
  go_at_call 72
  refine (at_nil 4 (by decide) _).mono ?_
  rintro e w9 ⟨rfl, hw⟩
  obtain rfl := hw.symm
  clear hw
  try go_wp2_with fail
  refine hK.out _ _ ?_ (fun hHeld => ?_)
  · trivial
  clear hK K
  try simp only [Act.put, Qa, Qb, Qc, Qd, Qe, Qf]
  refine Qt 18 (fun _ => ?_)
  refine Qt 19 (fun _ => ?_)
  refine Qr 21 fun K hK => ?_
  go_simp
  go_at_call 72
  refine (at_nil 5 (by decide) _).mono ?_
  rintro e w9 ⟨rfl, hw⟩
  obtain rfl := hw.symm
  clear hw
  try go_wp2_with fail
  refine hK.out _ _ ?_ (fun hHeld => ?_)
  · trivial
  clear hK K
  try simp only [Act.put, Qa, Qb, Qc, Qd, Qe, Qf]
  refine Qt 22 (fun _ => ?_)
  refine Qt 23 (fun _ => ?_)
  refine Qt 24 (fun _ => ?_)
  have hz3 := (HB3.out.block z (Array.getElem?_eq_some_iff.1 HZ1.out).1).trans HZ1.out
  obtain ⟨z0, z1, z2, z3, z4, z5, z6⟩ := cells7' hz3
  have zf0 := free_of hz3 0
  have zf1 := free_of hz3 1
  have zf2 := free_of hz3 2
  have zf3 := free_of hz3 3
  have zf4 := free_of hz3 4
  have zf5 := free_of hz3 5
  have zf6 := free_of hz3 6
  have HR7 := Lib.hid (cells7' (heap_setCell_same _ z 6 _ _ (.int .i64 1) (heap_setCell_same _ z 5 _ _ (.int .i64 1) (heap_setCell_same _ z 4 _ _ (.int .i64 1) (heap_setCell_same _ z 3 _ _ (.int .i64 1) (heap_setCell_same _ z 2 _ _ (.slice (some ⟨g, 0, none⟩) 1 1) (heap_setCell_same _ z 1 _ _ (.slice none 0 0) (heap_setCell_same _ z 0 _ _ (.int .i64 1) hz3))))))))
  have hne : g ≠ z := by have h1 := (Array.getElem?_eq_some_iff.1 HZ1.out).1; have h2 := HGE.out; omega
  have HGF := Lib.hid ((heap_setCell_other _ ⟨z, 6, none⟩ _ (.int .i64 1) hne).trans ((heap_setCell_other _ ⟨z, 5, none⟩ _ (.int .i64 1) hne).trans ((heap_setCell_other _ ⟨z, 4, none⟩ _ (.int .i64 1) hne).trans ((heap_setCell_other _ ⟨z, 3, none⟩ _ (.int .i64 1) hne).trans ((heap_setCell_other _ ⟨z, 2, none⟩ _ (.slice (some ⟨g, 0, none⟩) 1 1) hne).trans ((heap_setCell_other _ ⟨z, 1, none⟩ _ (.slice none 0 0) hne).trans ((heap_setCell_other _ ⟨z, 0, none⟩ _ (.int .i64 1) hne).trans HG3.out)))))))
  have HBF := Lib.hid ((((((((HB1.out.trans (HB3.out.mono HB1.out.size)).setCell (p := ⟨z, 0, none⟩) (Nat.le_of_eq HZZ.out.symm) (.int .i64 1)).setCell (p := ⟨z, 1, none⟩) (Nat.le_of_eq HZZ.out.symm) (.slice none 0 0)).setCell (p := ⟨z, 2, none⟩) (Nat.le_of_eq HZZ.out.symm) (.slice (some ⟨g, 0, none⟩) 1 1)).setCell (p := ⟨z, 3, none⟩) (Nat.le_of_eq HZZ.out.symm) (.int .i64 1)).setCell (p := ⟨z, 4, none⟩) (Nat.le_of_eq HZZ.out.symm) (.int .i64 1)).setCell (p := ⟨z, 5, none⟩) (Nat.le_of_eq HZZ.out.symm) (.int .i64 1)).setCell (p := ⟨z, 6, none⟩) (Nat.le_of_eq HZZ.out.symm) (.int .i64 1))
  clear hz3 hne
  have hwr : IntKind.i64.wrap 1 = 1 := by decide
  simp only [hwr]
  refine Qr 25 fun K hK => ?_
  go_simp
  refine hK.out _ _ ?_ (fun hHeld => ?_)
  · trivial
  clear hK K
  try simp only [Act.put, Qa, Qb, Qc, Qd, Qe, Qf]
  refine wpAnyH_done (by kernel_rfl) ?_ _
  clear z0 z1 z2 z3 z4 z5 z6 zf0 zf1 zf2 zf3 zf4 zf5 zf6
  go_wp2_with fail
  obtain ⟨r0, r1, r2, r3, r4, r5, r6⟩ := HR7.out
  exact bodyPost_ret (v := .agg #[.int .i64 1, .slice none 0 0, .slice (some ⟨g, 0, none⟩) 1 1, .int .i64 1, .int .i64 1, .int .i64 1, .int .i64 1]) (by simp [results, Tryz.results51, go_sem, r0, r1, r2, r3, r4, r5, r6]) rfl ⟨g, rfl, by rw [HGE.out]; exact HB1.out.size, HGF.out, HBF.out⟩
theorem infoCs : (Tryz.prog.info? 135).map (fun i => (i.zero, i.size, i.bytes)) = some (some (.slice none 0 0), 1, 24) := by kernel_rfl
theorem infoIn : (Tryz.prog.info? 3).map (fun i => (i.zero, i.size, i.bytes)) = some (some (.int .i64 0), 1, 8) := by kernel_rfl
theorem mk_progs : ∃ o : Obj, ∀ w : World, (Instr.makeSlice 74 (.int .i64 1) (.int .i64 1)).run Tryz.prog w = .ok (.slice (some ⟨w.heap.size, 0, none⟩) 1 1) (w.alloc o) := by
  obtain ⟨i, hi, hz0, hz1, hz2⟩ := Gr.info_parts infoCs
  exact ⟨_, fun w => by
    have := run_make (P := Tryz.prog) w 74 135 i (.slice none 0 0) Tryz.underlying74 hi hz0 .i64 .i64 1 1 (by omega) (Int.le_refl _) (by rw [hz2]; decide) (by omega)
    exact this⟩
theorem mk_picks : ∃ o : Obj, ∀ w : World, (Instr.makeSlice 42 (.int .i64 0) (.int .i64 0)).run Tryz.prog w = .ok (.slice (some ⟨w.heap.size, 0, none⟩) 0 0) (w.alloc o) := by
  obtain ⟨i, hi, hz0, hz1, hz2⟩ := Gr.info_parts infoIn
  exact ⟨_, fun w => by
    have := run_make (P := Tryz.prog) w 42 3 i (.int .i64 0) Tryz.underlying42 hi hz0 .i64 .i64 0 0 (by omega) (Int.le_refl _) (by rw [hz2]; decide) (by omega)
    exact this⟩
set_option maxRecDepth 1000000 in
set_option maxHeartbeats 8000000 in
theorem picks_nil (w : World) : Calls Tryz.prog 53 #[.slice none 0 0] w fun e w' => ∃ g, e = .returned (.slice (some g) 0 0) ∧ Below w.heap.size w w' := by
  obtain ⟨o, hmk⟩ := mk_picks
  go_enter Tryz.func53, Tryz.ntmps53
  go_wp2_with fail
  obtain ⟨w1, hw1⟩ : ∃ w1, w1 = w.alloc o := ⟨_, rfl⟩
  rw [← hw1]
  have HB1 := Lib.hid (show Below w.heap.size w w1 by rw [hw1]; exact (Below.refl _ _).alloc (Nat.le_refl _) _)
  clear hw1 hmk
  go_loopg [11] 1 (fun k t wr => k = 1 ∧ t = .int .i64 0 ∧ wr = w1)
  case atStart => exact ⟨rfl, rfl, rfl⟩
  case round =>
    obtain ⟨_, rfl, rfl⟩ := hrel
    go_wp2_with fail
    go_ret
    exact ⟨_, rfl, HB1.out⟩
set_option maxRecDepth 1000000 in
set_option maxHeartbeats 8000000 in
theorem progs_nil (w : World) (g : Nat) : Calls Tryz.prog 52 #[.slice none 0 0, .agg #[.int .i64 1, .slice none 0 0, .slice (some ⟨g, 0, none⟩) 1 1, .int .i64 1, .int .i64 1, .int .i64 1, .int .i64 1]] w fun e w' => ∃ h, e = .returned (.slice (some h) 1 1) ∧ Below w.heap.size w w' := by
  obtain ⟨o, hmk⟩ := mk_progs
  go_enter Tryz.func52, Tryz.ntmps52
  go_wp2_with fail
  obtain ⟨w1, hw1⟩ : ∃ w1, w1 = (w.alloc (.cells #[.int .i64 1, .slice none 0 0, .slice (some ⟨g, 0, none⟩) 1 1, .int .i64 1, .int .i64 1, .int .i64 1, .int .i64 1] 58)).alloc o := ⟨_, rfl⟩
  rw [← hw1]
  have HB1 := Lib.hid (show Below w.heap.size w w1 by rw [hw1]; exact ((Below.refl _ _).alloc (Nat.le_refl _) _).alloc (by simp) _)
  clear hw1 hmk
  go_loopg [0] 1 (fun k o wr => k = 1 ∧ o = .slice none 0 0 ∧ wr = w1)
  case atStart => exact ⟨rfl, rfl, rfl⟩
  case round =>
    obtain ⟨_, rfl, rfl⟩ := hrel
    go_wp2_with fail
    go_ret
    exact ⟨_, rfl, HB1.out⟩
set_option maxRecDepth 1000000 in
set_option maxHeartbeats 8000000 in
theorem read_nil (w : World) : Calls Tryz.prog 23 #[.slice none 0 0] w fun e w' => ∃ g h p, e = .returned (.agg #[.int .i64 1, .slice none 0 0, .slice (some ⟨g, 0, none⟩) 1 1, .int .i64 1, .int .i64 1, .int .i64 1, .int .i64 1, .slice (some h) 1 1, .slice (some p) 0 0]) ∧ w'.heap[g]? = some (.cells #[.int .i64 0] 3 (0, 0)) ∧ Below w.heap.size w w' := by
  obtain ⟨w1, hw1⟩ : ∃ w1, w1 = w.alloc (.cells #[.int .i64 0, .slice none 0 0, .slice none 0 0, .int .i64 0, .int .i64 0, .int .i64 0, .int .i64 0, .slice none 0 0, .slice none 0 0] 76) := ⟨_, rfl⟩
  have hz1 : w1.heap[w.heap.size]? = some (.cells #[.int .i64 0, .slice none 0 0, .slice none 0 0, .int .i64 0, .int .i64 0, .int .i64 0, .int .i64 0, .slice none 0 0, .slice none 0 0] 76 (0, 0)) := by rw [hw1]; exact heap_alloc_new w _
  have HB1 := Lib.hid (show Below w.heap.size w w1 by rw [hw1]; exact (Below.refl _ _).alloc (Nat.le_refl _) _)
  obtain ⟨z, hz⟩ : ∃ z, z = w.heap.size := ⟨_, rfl⟩
  rw [← hz] at hz1
  have HZZ := Lib.hid hz
  have HZ1 := Lib.hid hz1
  go_enter Tryz.func23, Tryz.ntmps23
  go_upto_region 1 with fail
  rw [← hw1, ← hz]
  clear hw1 hz hz1
  go_wp2_with fail
  go_at_call 51
  refine (plan_nil w1).mono ?_
  rintro e w2 ⟨g, rfl, hg, hcg, hb⟩
  have HB2 := Lib.hid (HB1.out.trans (hb.mono HB1.out.size))
  have HZ2 := Lib.hid ((hb.block z (Array.getElem?_eq_some_iff.1 HZ1.out).1).trans HZ1.out)
  have HG2 := Lib.hid hcg
  have HGZ := Lib.hid (show g ≠ z by have h1 := (Array.getElem?_eq_some_iff.1 HZ1.out).1; omega)
  clear hb hg hcg
  go_upto_region 3 with fail
  obtain ⟨w3, hw3⟩ : ∃ w3, w3 = w2.alloc (.cells #[.int .i64 1, .slice none 0 0, .slice (some ⟨g, 0, none⟩) 1 1, .int .i64 1, .int .i64 1, .int .i64 1, .int .i64 1] 58) := ⟨_, rfl⟩
  have hc3 : w3.heap[w2.heap.size]? = some (.cells #[.int .i64 1, .slice none 0 0, .slice (some ⟨g, 0, none⟩) 1 1, .int .i64 1, .int .i64 1, .int .i64 1, .int .i64 1] 58 (0, 0)) := by rw [hw3]; exact heap_alloc_new w2 _
  have hb3 : Below w2.heap.size w2 w3 := by rw [hw3]; exact (Below.refl _ _).alloc (Nat.le_refl _) _
  rw [← hw3]
  obtain ⟨s, hs⟩ : ∃ s, s = w2.heap.size := ⟨_, rfl⟩
  rw [← hs] at hc3 ⊢
  have HB3 := Lib.hid (HB2.out.trans (hb3.mono HB2.out.size))
  have HZ3 := Lib.hid ((hb3.block z (Array.getElem?_eq_some_iff.1 HZ2.out).1).trans HZ2.out)
  have HG3 := Lib.hid ((hb3.block g (Array.getElem?_eq_some_iff.1 HG2.out).1).trans HG2.out)
  have HSZ := Lib.hid (show z ≠ s by have h1 := (Array.getElem?_eq_some_iff.1 HZ2.out).1; omega)
  have HS := Lib.hid (Array.getElem?_eq_some_iff.1 hc3).1
  obtain ⟨a0, a1, a2, a3, a4, a5, a6⟩ := cells7' hc3
  clear hw3 hb3 hs hc3
  refine wp_region_held_drew (S := fun w' => w'.cell? ⟨s, 0, none⟩ = some (.int .i64 1) ∧ w'.cell? ⟨s, 1, none⟩ = some (.slice none 0 0) ∧ w'.cell? ⟨s, 2, none⟩ = some (.slice (some ⟨g, 0, none⟩) 1 1) ∧ w'.cell? ⟨s, 3, none⟩ = some (.int .i64 1) ∧ w'.cell? ⟨s, 4, none⟩ = some (.int .i64 1) ∧ w'.cell? ⟨s, 5, none⟩ = some (.int .i64 1) ∧ w'.cell? ⟨s, 6, none⟩ = some (.int .i64 1)) (by kernel_rfl) ?_ (fun hHeld => ?_)
  · ((try dsimp only); exact ⟨a0, a1, a2, a3, a4, a5, a6⟩)
  have HB0 := Lib.hid (show Below w3.heap.size w3 w3.drew from below_drewN (Below.refl _ _) 1)
  refine Qt 0 (fun _ => ?_)
  refine Qt 1 (fun _ => ?_)
  refine Qt 2 (fun _ => ?_)
  refine Qt 4 (fun _ => ?_)
  refine Qr 3 fun K hK => ?_
  go_simp
  go_at_call 52
  refine (progs_nil _ g).mono ?_
  rintro e w4 ⟨h, rfl, hb⟩
  have HBw4 := Lib.hid (HB0.out.trans (hb.mono HB0.out.size))
  try go_wp2_with fail
  refine hK.out _ _ ?_ (fun hHeld => ?_)
  · ((try dsimp only); exact ⟨Kc HBw4.out HS.out a0, Kc HBw4.out HS.out a1, Kc HBw4.out HS.out a2, Kc HBw4.out HS.out a3, Kc HBw4.out HS.out a4, Kc HBw4.out HS.out a5, Kc HBw4.out HS.out a6⟩)
  clear hK K
  try simp only [Act.put, Qa, Qb, Qc, Qd, Qe, Qf]
  refine Qr 5 fun K hK => ?_
  go_simp
  go_at_call 53
  refine (picks_nil _).mono ?_
  rintro e w5 ⟨p, rfl, hb⟩
  have HBw5 := Lib.hid (HBw4.out.trans (hb.mono HBw4.out.size))
  try go_wp2_with fail
  refine hK.out _ _ ?_ (fun hHeld => ?_)
  · ((try dsimp only); exact ⟨Kc HBw5.out HS.out a0, Kc HBw5.out HS.out a1, Kc HBw5.out HS.out a2, Kc HBw5.out HS.out a3, Kc HBw5.out HS.out a4, Kc HBw5.out HS.out a5, Kc HBw5.out HS.out a6⟩)
  clear hK K
  try simp only [Act.put, Qa, Qb, Qc, Qd, Qe, Qf]
  refine Qt 6 (fun _ => ?_)
  have hz5 := (HBw5.out.block z (Array.getElem?_eq_some_iff.1 HZ3.out).1).trans HZ3.out
  have hg5 := (HBw5.out.block g (Array.getElem?_eq_some_iff.1 HG3.out).1).trans HG3.out
  obtain ⟨z0, z1, z2, z3, z4, z5, z6, z7, z8⟩ := cells9 hz5
  have zf0 := free_of hz5 0
  have zf1 := free_of hz5 1
  have zf2 := free_of hz5 2
  have zf3 := free_of hz5 3
  have zf4 := free_of hz5 4
  have zf5 := free_of hz5 5
  have zf6 := free_of hz5 6
  have zf7 := free_of hz5 7
  have zf8 := free_of hz5 8
  have HR9 := Lib.hid (cells9 (heap_setCell_same _ z 8 _ _ (.slice (some p) 0 0) (heap_setCell_same _ z 7 _ _ (.slice (some h) 1 1) (heap_setCell_same _ z 6 _ _ (.int .i64 1) (heap_setCell_same _ z 5 _ _ (.int .i64 1) (heap_setCell_same _ z 4 _ _ (.int .i64 1) (heap_setCell_same _ z 3 _ _ (.int .i64 1) (heap_setCell_same _ z 2 _ _ (.slice (some ⟨g, 0, none⟩) 1 1) (heap_setCell_same _ z 1 _ _ (.slice none 0 0) (heap_setCell_same _ z 0 _ _ (.int .i64 1) hz5))))))))))
  have HGF := Lib.hid ((heap_setCell_other _ ⟨z, 8, none⟩ _ (.slice (some p) 0 0) HGZ.out).trans ((heap_setCell_other _ ⟨z, 7, none⟩ _ (.slice (some h) 1 1) HGZ.out).trans ((heap_setCell_other _ ⟨z, 6, none⟩ _ (.int .i64 1) HGZ.out).trans ((heap_setCell_other _ ⟨z, 5, none⟩ _ (.int .i64 1) HGZ.out).trans ((heap_setCell_other _ ⟨z, 4, none⟩ _ (.int .i64 1) HGZ.out).trans ((heap_setCell_other _ ⟨z, 3, none⟩ _ (.int .i64 1) HGZ.out).trans ((heap_setCell_other _ ⟨z, 2, none⟩ _ (.slice (some ⟨g, 0, none⟩) 1 1) HGZ.out).trans ((heap_setCell_other _ ⟨z, 1, none⟩ _ (.slice none 0 0) HGZ.out).trans ((heap_setCell_other _ ⟨z, 0, none⟩ _ (.int .i64 1) HGZ.out).trans hg5)))))))))
  have HBF := Lib.hid ((((((((((HB3.out.trans (HBw5.out.mono HB3.out.size)).setCell (p := ⟨z, 0, none⟩) (Nat.le_of_eq HZZ.out.symm) (.int .i64 1)).setCell (p := ⟨z, 1, none⟩) (Nat.le_of_eq HZZ.out.symm) (.slice none 0 0)).setCell (p := ⟨z, 2, none⟩) (Nat.le_of_eq HZZ.out.symm) (.slice (some ⟨g, 0, none⟩) 1 1)).setCell (p := ⟨z, 3, none⟩) (Nat.le_of_eq HZZ.out.symm) (.int .i64 1)).setCell (p := ⟨z, 4, none⟩) (Nat.le_of_eq HZZ.out.symm) (.int .i64 1)).setCell (p := ⟨z, 5, none⟩) (Nat.le_of_eq HZZ.out.symm) (.int .i64 1)).setCell (p := ⟨z, 6, none⟩) (Nat.le_of_eq HZZ.out.symm) (.int .i64 1)).setCell (p := ⟨z, 7, none⟩) (Nat.le_of_eq HZZ.out.symm) (.slice (some h) 1 1)).setCell (p := ⟨z, 8, none⟩) (Nat.le_of_eq HZZ.out.symm) (.slice (some p) 0 0))
  clear hz5 hg5
  refine Qr 7 fun K hK => ?_
  go_simp
  refine hK.out _ _ ?_ (fun hHeld => ?_)
  · ((try dsimp only); exact ⟨(World.cell?_setCell_far _ _ _ _ HSZ.out).trans ((World.cell?_setCell_far _ _ _ _ HSZ.out).trans ((World.cell?_setCell_far _ _ _ _ HSZ.out).trans ((World.cell?_setCell_far _ _ _ _ HSZ.out).trans ((World.cell?_setCell_far _ _ _ _ HSZ.out).trans ((World.cell?_setCell_far _ _ _ _ HSZ.out).trans ((World.cell?_setCell_far _ _ _ _ HSZ.out).trans ((World.cell?_setCell_far _ _ _ _ HSZ.out).trans ((World.cell?_setCell_far _ _ _ _ HSZ.out).trans (Kc HBw5.out HS.out a0))))))))), (World.cell?_setCell_far _ _ _ _ HSZ.out).trans ((World.cell?_setCell_far _ _ _ _ HSZ.out).trans ((World.cell?_setCell_far _ _ _ _ HSZ.out).trans ((World.cell?_setCell_far _ _ _ _ HSZ.out).trans ((World.cell?_setCell_far _ _ _ _ HSZ.out).trans ((World.cell?_setCell_far _ _ _ _ HSZ.out).trans ((World.cell?_setCell_far _ _ _ _ HSZ.out).trans ((World.cell?_setCell_far _ _ _ _ HSZ.out).trans ((World.cell?_setCell_far _ _ _ _ HSZ.out).trans (Kc HBw5.out HS.out a1))))))))), (World.cell?_setCell_far _ _ _ _ HSZ.out).trans ((World.cell?_setCell_far _ _ _ _ HSZ.out).trans ((World.cell?_setCell_far _ _ _ _ HSZ.out).trans ((World.cell?_setCell_far _ _ _ _ HSZ.out).trans ((World.cell?_setCell_far _ _ _ _ HSZ.out).trans ((World.cell?_setCell_far _ _ _ _ HSZ.out).trans ((World.cell?_setCell_far _ _ _ _ HSZ.out).trans ((World.cell?_setCell_far _ _ _ _ HSZ.out).trans ((World.cell?_setCell_far _ _ _ _ HSZ.out).trans (Kc HBw5.out HS.out a2))))))))), (World.cell?_setCell_far _ _ _ _ HSZ.out).trans ((World.cell?_setCell_far _ _ _ _ HSZ.out).trans ((World.cell?_setCell_far _ _ _ _ HSZ.out).trans ((World.cell?_setCell_far _ _ _ _ HSZ.out).trans ((World.cell?_setCell_far _ _ _ _ HSZ.out).trans ((World.cell?_setCell_far _ _ _ _ HSZ.out).trans ((World.cell?_setCell_far _ _ _ _ HSZ.out).trans ((World.cell?_setCell_far _ _ _ _ HSZ.out).trans ((World.cell?_setCell_far _ _ _ _ HSZ.out).trans (Kc HBw5.out HS.out a3))))))))), (World.cell?_setCell_far _ _ _ _ HSZ.out).trans ((World.cell?_setCell_far _ _ _ _ HSZ.out).trans ((World.cell?_setCell_far _ _ _ _ HSZ.out).trans ((World.cell?_setCell_far _ _ _ _ HSZ.out).trans ((World.cell?_setCell_far _ _ _ _ HSZ.out).trans ((World.cell?_setCell_far _ _ _ _ HSZ.out).trans ((World.cell?_setCell_far _ _ _ _ HSZ.out).trans ((World.cell?_setCell_far _ _ _ _ HSZ.out).trans ((World.cell?_setCell_far _ _ _ _ HSZ.out).trans (Kc HBw5.out HS.out a4))))))))), (World.cell?_setCell_far _ _ _ _ HSZ.out).trans ((World.cell?_setCell_far _ _ _ _ HSZ.out).trans ((World.cell?_setCell_far _ _ _ _ HSZ.out).trans ((World.cell?_setCell_far _ _ _ _ HSZ.out).trans ((World.cell?_setCell_far _ _ _ _ HSZ.out).trans ((World.cell?_setCell_far _ _ _ _ HSZ.out).trans ((World.cell?_setCell_far _ _ _ _ HSZ.out).trans ((World.cell?_setCell_far _ _ _ _ HSZ.out).trans ((World.cell?_setCell_far _ _ _ _ HSZ.out).trans (Kc HBw5.out HS.out a5))))))))), (World.cell?_setCell_far _ _ _ _ HSZ.out).trans ((World.cell?_setCell_far _ _ _ _ HSZ.out).trans ((World.cell?_setCell_far _ _ _ _ HSZ.out).trans ((World.cell?_setCell_far _ _ _ _ HSZ.out).trans ((World.cell?_setCell_far _ _ _ _ HSZ.out).trans ((World.cell?_setCell_far _ _ _ _ HSZ.out).trans ((World.cell?_setCell_far _ _ _ _ HSZ.out).trans ((World.cell?_setCell_far _ _ _ _ HSZ.out).trans ((World.cell?_setCell_far _ _ _ _ HSZ.out).trans (Kc HBw5.out HS.out a6)))))))))⟩)
  clear hK K
  try simp only [Act.put, Qa, Qb, Qc, Qd, Qe, Qf]
  refine wpAnyH_done (by kernel_rfl) ?_ _
  clear z0 z1 z2 z3 z4 z5 z6 z7 z8 zf0 zf1 zf2 zf3 zf4 zf5 zf6 zf7 zf8 a0 a1 a2 a3 a4 a5 a6
  go_wp2_with fail
  obtain ⟨r0, r1, r2, r3, r4, r5, r6, r7, r8⟩ := HR9.out
  exact bodyPost_ret (v := .agg #[.int .i64 1, .slice none 0 0, .slice (some ⟨g, 0, none⟩) 1 1, .int .i64 1, .int .i64 1, .int .i64 1, .int .i64 1, .slice (some h) 1 1, .slice (some p) 0 0]) (by simp [results, Tryz.results23, go_sem, r0, r1, r2, r3, r4, r5, r6, r7, r8]) rfl ⟨g, h, p, rfl, HGF.out, HBF.out⟩
end Go.Proofs.YtdbaacalfbbdiaaGreatDoor.Sc
