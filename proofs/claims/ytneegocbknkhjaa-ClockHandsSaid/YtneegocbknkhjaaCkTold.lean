/-
  PACKAGE marchlandlaw09: told.
-/
import Derived.Test.YtneegocbknkhjaaCkBefore
namespace Go.Proofs.Ytneegocbknkhjaa.Ck
open Go.RowKit Rw Mm Go.Maps Pk
set_option linter.unusedVariables false

def tl0 : List Ev := [⟨0, 3, 0, true⟩, ⟨0, 1, 0, true⟩, ⟨1, 0, 0, true⟩, ⟨1, 2, 0, true⟩]
def tl1 : List Ev := [⟨0, 3, 0, true⟩, ⟨0, 1, 0, true⟩, ⟨1, 2, 0, true⟩]
theorem tl0_hb : HB tl0 0 3 := by
  refine .more (m := 2) (.more (m := 1) (.one ?_) ?_) ?_
  · exact step_who (by decide) (a := ⟨0, 3, 0, true⟩) (b := ⟨0, 1, 0, true⟩) rfl rfl (by decide) (by decide) rfl
  · exact ⟨by decide, ⟨0, 1, 0, true⟩, ⟨1, 0, 0, true⟩, rfl, rfl, by decide, by decide, .inr ⟨rfl, .inl ⟨rfl, rfl, fun m c h1 h2 => by omega⟩⟩⟩
  · exact step_who (by decide) (a := ⟨1, 0, 0, true⟩) (b := ⟨1, 2, 0, true⟩) rfl rfl (by decide) (by decide) rfl
theorem tl0_lt {i : Nat} {a : Ev} (h : tl0[i]? = some a) : i < 4 := (List.getElem?_eq_some_iff.1 h).1
theorem tl1_lt {i : Nat} {a : Ev} (h : tl1[i]? = some a) : i < 3 := (List.getElem?_eq_some_iff.1 h).1
theorem tl0_first : IsFirst tl0 (-1) (-1) := by
  refine .inl ⟨rfl, rfl, fun i k hm => ?_⟩
  obtain ⟨hik, a, e, ha, he, p1, p2, p3, p4, p5, p6⟩ := hm
  have hk := tl0_lt he
  have : (i = 0 ∧ k = 1) ∨ (i = 0 ∧ k = 2) ∨ (i = 0 ∧ k = 3) ∨ (i = 1 ∧ k = 2) ∨ (i = 1 ∧ k = 3) ∨ (i = 2 ∧ k = 3) := by omega
  rcases this with ⟨rfl, rfl⟩ | ⟨rfl, rfl⟩ | ⟨rfl, rfl⟩ | ⟨rfl, rfl⟩ | ⟨rfl, rfl⟩ | ⟨rfl, rfl⟩
  · cases ha; cases he; simp at p2
  · cases ha; cases he; simp at p2
  · exact p6 tl0_hb
  · cases ha; cases he; simp at p1
  · cases ha; cases he; simp at p1
  · cases ha; cases he; simp at p1
theorem tl1_first : IsFirst tl1 0 2 := by
  refine .inr ⟨0, 2, rfl, rfl, ?_, fun k' hk i' hm => ?_, fun i' hi => by omega⟩
  · refine ⟨by decide, ⟨0, 3, 0, true⟩, ⟨1, 2, 0, true⟩, rfl, rfl, by decide, by decide, rfl, by decide, by decide, fun hb => ?_⟩
    obtain ⟨m, ⟨h1, a, b, ha, hb, _, _, h2⟩, _⟩ := HB.last.1 hb
    cases hb
    have : m = 0 ∨ m = 1 := by omega
    rcases this with rfl | rfl <;> cases ha <;> simp at h2
  · obtain ⟨hik, a, e, ha, he, p1, p2, p3, p4, p5, p6⟩ := hm
    have : k' = 1 ∧ i' = 0 := by omega
    obtain ⟨rfl, rfl⟩ := this
    cases ha; cases he; simp at p2
theorem rr_lit {w : World} {g n : Nat} {cs : Array Value} {T : TypeId} {l : List Ev} (hb : w.heap[g]? = some (.cells cs T (0, 0))) (hc : cs.toList = evK.flat l) (hn : n = l.length) (hn2 : n ≤ 1000) (hw : ∀ x ∈ l, evK.wf x) : Rr evK w (.slice (some ⟨g, 0, none⟩) n n) l := by
  subst hn
  refine ⟨_, _, rfl, .inr ⟨g, 0, (Array.getElem?_eq_some_iff.1 hb).1, rfl, fun i x hx c u hcu hu => ?_⟩, Nat.le_refl _, by omega, hw⟩
  have h1 := flat_at (S := evK) hx c hcu
  rw [hu, ← hc] at h1
  simp only [World.cell?, hb, Nat.zero_add]
  simpa using h1
theorem tl0_wf : ∀ x ∈ tl0, evK.wf x := by
  intro x hx
  simp [tl0] at hx
  rcases hx with rfl | rfl | rfl | rfl <;> exact ⟨⟨by decide, by decide⟩, ⟨by decide, by decide⟩, ⟨by decide, by decide⟩⟩
theorem tl1_wf : ∀ x ∈ tl1, evK.wf x := by
  intro x hx
  simp [tl1] at hx
  rcases hx with rfl | rfl | rfl <;> exact ⟨⟨by decide, by decide⟩, ⟨by decide, by decide⟩, ⟨by decide, by decide⟩⟩
set_option maxRecDepth 1000000 in
set_option maxHeartbeats 8000000 in
theorem cktold_any (w : World) : Calls Try.prog 30 #[] w fun e w' => e = .returned (.bool true) ∧ Below w.heap.size w w' := by
  obtain ⟨W0, hW0⟩ : ∃ W0, W0 = w.alloc (.cells #[.int .i64 0, .int .i64 3, .int .i64 0, .bool true, .int .i64 0, .int .i64 1, .int .i64 0, .bool true, .int .i64 1, .int .i64 0, .int .i64 0, .bool true, .int .i64 1, .int .i64 2, .int .i64 0, .bool true] 134) := ⟨_, rfl⟩
  have hb0 : Below w.heap.size w W0 := by rw [hW0]; exact (Below.refl _ _).alloc (Nat.le_refl _) _
  have h0 : W0.heap[w.heap.size]? = some (.cells #[.int .i64 0, .int .i64 3, .int .i64 0, .bool true, .int .i64 0, .int .i64 1, .int .i64 0, .bool true, .int .i64 1, .int .i64 0, .int .i64 0, .bool true, .int .i64 1, .int .i64 2, .int .i64 0, .bool true] 134 (0, 0)) := by rw [hW0]; exact heap_alloc_new w _
  have hglt := (Array.getElem?_eq_some_iff.1 h0).1
  have HR0 : Hid (∀ wx, Below W0.heap.size W0 wx → Rr evK wx (.slice (some ⟨w.heap.size, 0, none⟩) 4 4) tl0) := Lib.hid (fun wx hb => (rr_lit h0 rfl rfl (by decide) tl0_wf).below hb)
  have HS : Hid (∀ w', Below W0.heap.size W0 w' → w'.cell? ⟨w.heap.size, 0, none⟩ = some (.int .i64 0) ∧ w'.cell? ⟨w.heap.size, 1, none⟩ = some (.int .i64 3) ∧ w'.cell? ⟨w.heap.size, 2, none⟩ = some (.int .i64 0) ∧ w'.cell? ⟨w.heap.size, 3, none⟩ = some (.bool true) ∧ w'.cell? ⟨w.heap.size, 4, none⟩ = some (.int .i64 0) ∧ w'.cell? ⟨w.heap.size, 5, none⟩ = some (.int .i64 1) ∧ w'.cell? ⟨w.heap.size, 6, none⟩ = some (.int .i64 0) ∧ w'.cell? ⟨w.heap.size, 7, none⟩ = some (.bool true) ∧ w'.cell? ⟨w.heap.size, 12, none⟩ = some (.int .i64 1) ∧ w'.cell? ⟨w.heap.size, 13, none⟩ = some (.int .i64 2) ∧ w'.cell? ⟨w.heap.size, 14, none⟩ = some (.int .i64 0) ∧ w'.cell? ⟨w.heap.size, 15, none⟩ = some (.bool true)) := Lib.hid (fun w' hb => by
    have h1 := (hb.block _ hglt).trans h0
    refine ⟨?_, ?_, ?_, ?_, ?_, ?_, ?_, ?_, ?_, ?_, ?_, ?_⟩ <;> simp [World.cell?, h1])
  have HB0 := Lib.hid hb0
  have HW0 := Lib.hid hW0
  clear hb0 h0 hW0 hglt
  go_enter Try.func30, Try.ntmps30
  go_wp2_with fail
  go_at_call 32
  rw [← HW0.out]
  refine (race_any (HR0.out _ (Below.refl _ _)) (by decide)).mono ?_
  rintro r w1 ⟨x, y, rfl, hf, hb1⟩
  obtain ⟨rfl, rfl⟩ := isFirst_one hf tl0_first
  have HB1 := Lib.hid hb1
  have HBX : Hid (Below W0.heap.size W0 w1.drew) := Lib.hid (hb1.trans (Below.refl _ _).drew)
  clear hf hb1
  go_upto_region 3 with fail
  have hs := HS.out _ HBX.out
  refine wp_region_held_drew (S := (fun w' => w'.cell? ⟨w.heap.size, 0, none⟩ = some (.int .i64 0) ∧ w'.cell? ⟨w.heap.size, 1, none⟩ = some (.int .i64 3) ∧ w'.cell? ⟨w.heap.size, 2, none⟩ = some (.int .i64 0) ∧ w'.cell? ⟨w.heap.size, 3, none⟩ = some (.bool true) ∧ w'.cell? ⟨w.heap.size, 4, none⟩ = some (.int .i64 0) ∧ w'.cell? ⟨w.heap.size, 5, none⟩ = some (.int .i64 1) ∧ w'.cell? ⟨w.heap.size, 6, none⟩ = some (.int .i64 0) ∧ w'.cell? ⟨w.heap.size, 7, none⟩ = some (.bool true) ∧ w'.cell? ⟨w.heap.size, 12, none⟩ = some (.int .i64 1) ∧ w'.cell? ⟨w.heap.size, 13, none⟩ = some (.int .i64 2) ∧ w'.cell? ⟨w.heap.size, 14, none⟩ = some (.int .i64 0) ∧ w'.cell? ⟨w.heap.size, 15, none⟩ = some (.bool true))) (by kernel_rfl) ?_ (fun hHeld => ?_)
  · ((try dsimp only); exact hs)
  refine wpAnyH_take (i := 0) (v := ?_) rfl (by kernel_rfl) (by kernel_rfl) (by kernel_rfl) (fun _ _ _ h => h) (Or.inl ⟨by rfl, ?_⟩) (by assumption) ?_
  rotate_left 1
  · (intro w hSw; (try dsimp only at hSw); first | (go_simp; done) | (go_simp; with_reducible rfl))
  try simp only [Act.put, List.setIfInBounds_toArray, List.set_cons_zero, List.set_cons_succ, List.getElem_toArray, List.getElem_cons_zero]
  refine wpAnyH_take (i := 1) (v := ?_) rfl (by kernel_rfl) (by kernel_rfl) (by kernel_rfl) (fun _ _ _ h => h) (Or.inl ⟨by rfl, ?_⟩) (by assumption) ?_
  rotate_left 1
  · (intro w hSw; (try dsimp only at hSw); first | (go_simp; done) | (go_simp; with_reducible rfl))
  try simp only [Act.put, List.setIfInBounds_toArray, List.set_cons_zero, List.set_cons_succ, List.getElem_toArray, List.getElem_cons_zero, List.getElem_cons_succ]
  refine wpAnyH_take (i := 2) (v := ?_) rfl (by kernel_rfl) (by kernel_rfl) (by kernel_rfl) (fun _ _ _ h => h) (Or.inl ⟨by rfl, ?_⟩) (by assumption) ?_
  rotate_left 1
  · (intro w hSw; (try dsimp only at hSw); first | (go_simp; done) | (go_simp; with_reducible rfl))
  try simp only [Act.put, List.setIfInBounds_toArray, List.set_cons_zero, List.set_cons_succ, List.getElem_toArray, List.getElem_cons_zero, List.getElem_cons_succ]
  refine wpAnyH_take (i := 3) (v := ?_) rfl (by kernel_rfl) (by kernel_rfl) (by kernel_rfl) (fun _ _ _ h => h) (Or.inl ⟨by rfl, ?_⟩) (by assumption) ?_
  rotate_left 1
  · (intro w hSw; (try dsimp only at hSw); first | (go_simp; done) | (go_simp; with_reducible rfl))
  try simp only [Act.put, List.setIfInBounds_toArray, List.set_cons_zero, List.set_cons_succ, List.getElem_toArray, List.getElem_cons_zero, List.getElem_cons_succ]
  refine wpAnyH_take (i := 4) (v := ?_) rfl (by kernel_rfl) (by kernel_rfl) (by kernel_rfl) (fun _ _ _ h => h) (Or.inl ⟨by rfl, ?_⟩) (by assumption) ?_
  rotate_left 1
  · (intro w hSw; (try dsimp only at hSw); first | (go_simp; done) | (go_simp; with_reducible rfl))
  try simp only [Act.put, List.setIfInBounds_toArray, List.set_cons_zero, List.set_cons_succ, List.getElem_toArray, List.getElem_cons_zero, List.getElem_cons_succ]
  refine wpAnyH_take (i := 5) (v := ?_) rfl (by kernel_rfl) (by kernel_rfl) (by kernel_rfl) (fun _ _ _ h => h) (Or.inl ⟨by rfl, ?_⟩) (by assumption) ?_
  rotate_left 1
  · (intro w hSw; (try dsimp only at hSw); first | (go_simp; done) | (go_simp; with_reducible rfl))
  try simp only [Act.put, List.setIfInBounds_toArray, List.set_cons_zero, List.set_cons_succ, List.getElem_toArray, List.getElem_cons_zero, List.getElem_cons_succ]
  refine wpAnyH_take (i := 6) (v := ?_) rfl (by kernel_rfl) (by kernel_rfl) (by kernel_rfl) (fun _ _ _ h => h) (Or.inl ⟨by rfl, ?_⟩) (by assumption) ?_
  rotate_left 1
  · (intro w hSw; (try dsimp only at hSw); first | (go_simp; done) | (go_simp; with_reducible rfl))
  try simp only [Act.put, List.setIfInBounds_toArray, List.set_cons_zero, List.set_cons_succ, List.getElem_toArray, List.getElem_cons_zero, List.getElem_cons_succ]
  refine wpAnyH_take (i := 7) (v := ?_) rfl (by kernel_rfl) (by kernel_rfl) (by kernel_rfl) (fun _ _ _ h => h) (Or.inl ⟨by rfl, ?_⟩) (by assumption) ?_
  rotate_left 1
  · (intro w hSw; (try dsimp only at hSw); first | (go_simp; done) | (go_simp; with_reducible rfl))
  try simp only [Act.put, List.setIfInBounds_toArray, List.set_cons_zero, List.set_cons_succ, List.getElem_toArray, List.getElem_cons_zero, List.getElem_cons_succ]
  refine wpAnyH_take (i := 8) (v := ?_) rfl (by kernel_rfl) (by kernel_rfl) (by kernel_rfl) (fun _ _ _ h => h) (Or.inl ⟨by rfl, ?_⟩) (by assumption) ?_
  rotate_left 1
  · (intro w hSw; (try dsimp only at hSw); first | (go_simp; done) | (go_simp; with_reducible rfl))
  try simp only [Act.put, List.setIfInBounds_toArray, List.set_cons_zero, List.set_cons_succ, List.getElem_toArray, List.getElem_cons_zero, List.getElem_cons_succ]
  refine wpAnyH_ready (rs := [9]) (by kernel_rfl) (by simp) ?_
  refine AllReadyH.cons rfl (fun K hK => ?_) AllReadyH.nil
  go_simp
  skip
  try go_wp2_with fail
  refine hK.out _ _ ?_ (fun hHeld => ?_)
  · ((try dsimp only); exact HS.out _ (HBX.out.alloc HBX.out.size _))
  clear hK K
  try simp only [Act.put, List.setIfInBounds_toArray, List.set_cons_zero, List.set_cons_succ, List.getElem_toArray, List.getElem_cons_zero, List.getElem_cons_succ]
  refine wpAnyH_ready (rs := [10]) (by kernel_rfl) (by simp) ?_
  refine AllReadyH.cons rfl (fun K hK => ?_) AllReadyH.nil
  go_simp
  go_at_call 32
  have hn1 : (w1.drew.alloc (.cells #[.int .i64 0, .int .i64 3, .int .i64 0, .bool true, .int .i64 0, .int .i64 1, .int .i64 0, .bool true, .int .i64 1, .int .i64 2, .int .i64 0, .bool true] 134)).heap[w1.drew.heap.size]? = some (.cells #[.int .i64 0, .int .i64 3, .int .i64 0, .bool true, .int .i64 0, .int .i64 1, .int .i64 0, .bool true, .int .i64 1, .int .i64 2, .int .i64 0, .bool true] 134 (0, 0)) := heap_alloc_new _ _
  refine (race_any (l := tl1) (rr_lit hn1 rfl rfl (by decide) tl1_wf) (by decide)).mono ?_
  rintro r w4 ⟨x, y, rfl, hf, hb4⟩
  obtain ⟨rfl, rfl⟩ := isFirst_one hf tl1_first
  replace HBX := Lib.hid ((HBX.out.alloc HBX.out.size _).trans (hb4.mono (by simp; exact Nat.le_succ_of_le HBX.out.size)))
  replace hs := HS.out _ HBX.out
  clear hf hb4 hn1
  try go_wp2_with fail
  refine hK.out _ _ ?_ (fun hHeld => ?_)
  · ((try dsimp only); exact hs)
  clear hK K
  try simp only [Act.put, List.setIfInBounds_toArray, List.set_cons_zero, List.set_cons_succ, List.getElem_toArray, List.getElem_cons_zero, List.getElem_cons_succ]
  refine wpAnyH_take (i := 11) (v := ?_) rfl (by kernel_rfl) (by kernel_rfl) (by kernel_rfl) (fun _ _ _ h => h) (Or.inl ⟨by rfl, ?_⟩) (by assumption) ?_
  rotate_left 1
  · (intro w hSw; (try dsimp only at hSw); first | (go_simp; done) | (go_simp; with_reducible rfl))
  try simp only [Act.put, List.setIfInBounds_toArray, List.set_cons_zero, List.set_cons_succ, List.getElem_toArray, List.getElem_cons_zero, List.getElem_cons_succ]
  refine wpAnyH_take (i := 12) (v := ?_) rfl (by kernel_rfl) (by kernel_rfl) (by kernel_rfl) (fun _ _ _ h => h) (Or.inl ⟨by rfl, ?_⟩) (by assumption) ?_
  rotate_left 1
  · (intro w hSw; (try dsimp only at hSw); first | (go_simp; done) | (go_simp; with_reducible rfl))
  try simp only [Act.put, List.setIfInBounds_toArray, List.set_cons_zero, List.set_cons_succ, List.getElem_toArray, List.getElem_cons_zero, List.getElem_cons_succ]
  refine wpAnyH_take (i := 13) (v := ?_) rfl (by kernel_rfl) (by kernel_rfl) (by kernel_rfl) (fun _ _ _ h => h) (Or.inl ⟨by rfl, ?_⟩) (by assumption) ?_
  rotate_left 1
  · (intro w hSw; (try dsimp only at hSw); first | (go_simp; done) | (go_simp; with_reducible rfl))
  try simp only [Act.put, List.setIfInBounds_toArray, List.set_cons_zero, List.set_cons_succ, List.getElem_toArray, List.getElem_cons_zero, List.getElem_cons_succ]
  refine wpAnyH_take (i := 14) (v := ?_) rfl (by kernel_rfl) (by kernel_rfl) (by kernel_rfl) (fun _ _ _ h => h) (Or.inl ⟨by rfl, ?_⟩) (by assumption) ?_
  rotate_left 1
  · (intro w hSw; (try dsimp only at hSw); first | (go_simp; done) | (go_simp; with_reducible rfl))
  try simp only [Act.put, List.setIfInBounds_toArray, List.set_cons_zero, List.set_cons_succ, List.getElem_toArray, List.getElem_cons_zero, List.getElem_cons_succ]
  refine wpAnyH_take (i := 15) (v := ?_) rfl (by kernel_rfl) (by kernel_rfl) (by kernel_rfl) (fun _ _ _ h => h) (Or.inl ⟨by rfl, ?_⟩) (by assumption) ?_
  rotate_left 1
  · (intro w hSw; (try dsimp only at hSw); first | (go_simp; done) | (go_simp; with_reducible rfl))
  try simp only [Act.put, List.setIfInBounds_toArray, List.set_cons_zero, List.set_cons_succ, List.getElem_toArray, List.getElem_cons_zero, List.getElem_cons_succ]
  refine wpAnyH_done (by kernel_rfl) ?_ _
  go_wp2_with fail
  go_at_call 31
  refine (before_any (HR0.out _ HBX.out) (by decide) 0 3).mono ?_
  rintro r w5 ⟨b1, rfl, hbi, hb5⟩
  obtain rfl : b1 = true := hbi.2 ⟨0, 3, rfl, rfl, tl0_hb⟩
  replace HBX := Lib.hid (HBX.out.trans (hb5.mono HBX.out.size))
  clear hbi hb5
  go_wp2_with fail
  go_at_call 31
  refine (before_any (HR0.out _ HBX.out) (by decide) 3 0).mono ?_
  rintro r w6 ⟨b2, rfl, hbi, hb6⟩
  obtain rfl : b2 = false := by
    cases b2
    · rfl
    · obtain ⟨a, b, h1, h2, h3⟩ := hbi.1 rfl
      have := h3.lt
      omega
  replace HBX := Lib.hid (HBX.out.trans (hb6.mono HBX.out.size))
  clear hbi hb6
  go_wp2_with fail
  go_ret
  exact ⟨rfl, HB0.out.trans (HBX.out.mono HB0.out.size)⟩
end Go.Proofs.Ytneegocbknkhjaa.Ck
