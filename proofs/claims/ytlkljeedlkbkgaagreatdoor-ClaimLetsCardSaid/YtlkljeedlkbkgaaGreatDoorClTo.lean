/-
  PACKAGE marchlandlaw07: To: an Own as the program has it.
-/
import Derived.Test.YtlkljeedlkbkgaaGreatDoorClFix
import Derived.Test.YtlkljeedlkbkgaaGreatDoorGTo
import Derived.Test.YtlkljeedlkbkgaaGreatDoorJoined4
import Derived.Test.YtlkljeedlkbkgaaGreatDoorJoined10
import Derived.Deep.RegionHeldLaw
import Derived.BigQuiet
namespace Go.Proofs.YtlkljeedlkbkgaaGreatDoor.Cl
open Go.RowKit Gr
set_option linter.unusedVariables false
theorem infoPH : (Tryz.prog.info? 40).map (fun i => (i.zero, i.size, i.bytes)) = some (some (.agg #[.int .i64 0, .int .i64 0, .int .u64 0]), 3, 24) := by kernel_rfl
set_option maxRecDepth 1000000 in
set_option maxHeartbeats 16000000 in
theorem ownto_any {w : World} {vh vb : Value} {H : List Ed} {B : List Batch.Ch} (hH : Rd w vh H) (hB : Batch.Rd w vb B) (hl : H.length ≤ 10000) (hlb : B.length ≤ 10000) :
    Calls Tryz.prog 11 #[.agg #[vh, vb]] w fun e w' => ∃ vh' vb', e = .returned (.agg #[vh', vb']) ∧ Own w' w.heap.size 40 vh' H ∧ Batch.Own w' w.heap.size 72 vb' B ∧ Below w.heap.size w w' := by
  obtain ⟨i0, hi, hz0, hz1, hz2⟩ := info_parts infoPH
  have HHR := Lib.hid hH
  have HBR := Lib.hid hB
  have HL := Lib.hid (And.intro hl hlb)
  obtain ⟨ao, cap, rfl, hal, hac, _, hcell⟩ := hH
  obtain ⟨bo, bc, rfl, hbl, hbc, _, hcellb⟩ := hB
  have hlm : H.length ≤ 9223372036854775807 := by omega
  obtain ⟨W1, hW1⟩ : ∃ W1, W1 = (w.alloc (.cells #[.slice ao H.length cap, .slice bo B.length bc] 29)).alloc (.cells #[.slice none 0 0, .slice none 0 0] 47) := ⟨_, rfl⟩
  have hb1 : Below w.heap.size w W1 := by rw [hW1]; exact ((Below.refl _ _).alloc (Nat.le_refl _) _).alloc (by simp) _
  have hs1 : W1.heap.size = w.heap.size + 2 := by rw [hW1]; simp
  have hn0 : W1.heap[w.heap.size]? = some (.cells #[.slice ao H.length cap, .slice bo B.length bc] 29 (0, 0)) := by
    rw [hW1, heap_alloc_old _ _ (by simp)]; exact heap_alloc_new w _
  have hn1 : W1.heap[w.heap.size + 1]? = some (.cells #[.slice none 0 0, .slice none 0 0] 47 (0, 0)) := by
    rw [hW1]
    have := heap_alloc_new (w.alloc (.cells #[.slice ao H.length cap, .slice bo B.length bc] 29)) (.cells #[.slice none 0 0, .slice none 0 0] 47)
    rw [World.size_alloc] at this; exact this
  have HB1 := Lib.hid hb1
  have HS1 := Lib.hid hs1
  have HW1 := Lib.hid hW1
  have HAX : Hid (∀ W, Below (w.heap.size + 2) W1 W → W.cell? ⟨w.heap.size, 0, none⟩ = some (.slice ao H.length cap) ∧ W.cell? ⟨w.heap.size, 1, none⟩ = some (.slice bo B.length bc) ∧ W.heap[w.heap.size + 1]? = some (.cells #[.slice none 0 0, .slice none 0 0] 47 (0, 0))) := Lib.hid (fun W hW => ⟨(hW.cell (p := ⟨w.heap.size, 0, none⟩) (show w.heap.size < w.heap.size + 2 by omega)).trans (own_two hn0).1, (hW.cell (p := ⟨w.heap.size, 1, none⟩) (show w.heap.size < w.heap.size + 2 by omega)).trans (own_two hn0).2.1, (hW.block _ (by omega)).trans hn1⟩)
  have HHC : Hid (∀ W, Below (w.heap.size + 2) W1 W → ∀ (i : Nat) x, H[i]? = some x → ∃ b off, ao = some ⟨b, off, none⟩ ∧ At3 W b (off + i * 3) x) := Lib.hid (fun W hW i x hx => by
    obtain ⟨b, off, e, hcc⟩ := hcell.resolve_left (fun e => by rw [e] at hx; simp at hx)
    exact ⟨b, off, e, (hcc i x hx).below (hb1.trans (hW.mono (by omega))) (hcc i x hx).lt⟩)
  have HRB := Lib.hid (HBR.out.below hb1)
  clear hn0 hn1 hb1 hs1 hal hac hbl hbc hcell hcellb hl hlb
  have hbb : Below (w.heap.size + 2) W1 W1 := Below.refl _ _
  obtain ⟨a0, a1, a2⟩ := HAX.out _ hbb
  clear hbb a2
  go_enter Tryz.func11, Tryz.ntmps11
  go_upto_region 1 with fail
  rw [← HW1.out]
  clear hW1
  go_wp2_with fail
  go_at_call 18
  refine (Batch.to_any HRB.out (by have := HL.out; omega)).mono ?_
  rintro e w4 ⟨v7, rfl, ho, hb⟩
  obtain ⟨q0, q1, q2, rfl⟩ : ∃ ao n c, v7 = .slice ao n c := by
    rcases ho.form with ⟨_, h⟩ | ⟨g, cap, h, _⟩
    · exact ⟨_, _, _, h⟩
    · exact ⟨_, _, _, h⟩
  have HB4 := Lib.hid (show Below (w.heap.size + 2) W1 w4 by rw [← HS1.out]; exact hb)
  have HG4 := Lib.hid (ho.mono (show w.heap.size + 2 ≤ W1.heap.size by rw [HS1.out]; exact Nat.le_refl _))
  clear ho hb a0 a1
  go_upto_region 3 with fail
  have hwb : Below w4.heap.size w4 (w4.alloc (.cells #[.slice none 0 0, .slice q0 q1 q2] 47)) := (Below.refl _ _).alloc (Nat.le_refl _) _
  have HG5 := Lib.hid (HG4.out.below hwb)
  have HO5 := Lib.hid (heap_alloc_new w4 (.cells #[.slice none 0 0, .slice q0 q1 q2] 47))
  have HZ4 : Hid (w.heap.size + 2 ≤ w4.heap.size) := Lib.hid (by have := HB4.out.size; have := HS1.out; omega)
  have HB5 := Lib.hid (HB4.out.trans (hwb.mono HZ4.out))
  have HQL : Hid (∀ g, (Value.slice q0 q1 q2).ownBlock = some g → g < w4.heap.size) := Lib.hid (fun g hg => (World.ownsRow.lt HG4.out g hg).2)
  clear hwb HG4
  have hsz5 : (w4.alloc (.cells #[.slice none 0 0, .slice q0 q1 q2] 47)).heap.size = w4.heap.size + 1 := by simp
  have HS5 := Lib.hid hsz5
  clear hsz5
  generalize w4.alloc (.cells #[.slice none 0 0, .slice q0 q1 q2] 47) = w5 at *
  generalize w4.heap.size = G at *
  go_loopg [4] (H.length + 1) (fun m t wr => ∃ (k : Nat) (vE : Value), k + m = H.length + 1 ∧ k ≤ H.length ∧ t = .int .i64 (k : Int) ∧ Hid (wr.heap[G]? = some (.cells #[vE, .slice q0 q1 q2] 47 (0, 0))) ∧ Hid (Own wr (G + 1) 40 vE (H.take k)) ∧ Hid (Below G w5 wr))
  case atStart => exact ⟨0, .slice none 0 0, by omega, by omega, rfl, HO5, Lib.hid (Own.nil _ _ _), Lib.hid (Below.refl _ _)⟩
  case round =>
    obtain ⟨k, vE, hkm, hkl, rfl, HO, HV, HB⟩ := hrel
    have HKM := Lib.hid (And.intro hkm hkl)
    have hk0 : (0 : Int) ≤ (k : Int) := Int.natCast_nonneg _
    have hwk : IntKind.i64.wrap ((k : Int) + 1) = (k : Int) + 1 := by rw [IntKind.wrap_i64]; have := HL.out; omega
    have HBW := Lib.hid (HB5.out.trans (HB.out.mono HZ4.out))
    obtain ⟨a0, a1, a2⟩ := HAX.out _ HBW.out
    clear hkm HO5
    by_cases hlt : k < H.length
    · have hlt' : (k : Int) < (H.length : Int) := by omega
      obtain ⟨⟨xf, xt, xa⟩, hx⟩ : ∃ x, H[k]? = some x := ⟨_, List.getElem?_eq_getElem hlt⟩
      obtain ⟨b, off, rfl, c0, c1, c2⟩ := HHC.out _ HBW.out k _ hx
      simp only at c0 c1 c2
      have HX := Lib.hid hx
      have HLT := Lib.hid hlt
      obtain ⟨vo, vc, rfl⟩ : ∃ ao c, vE = .slice ao k c := by
        have hk : (H.take k).length = k := by rw [List.length_take]; omega
        rcases HV.out.form with ⟨e1, e2⟩ | ⟨g, c, e2, _⟩
        · rw [e1] at hk; simp at hk; subst hk; exact ⟨none, 0, e2⟩
        · rw [hk] at e2; exact ⟨_, _, e2⟩
      have HVL : Hid (wr.ownsRow (G + 1) 40 3 (.slice vo k vc) k (cellsL (H.take k))) := Lib.hid (by
        have h := HV.out
        unfold Own at h
        rwa [List.length_take, Nat.min_eq_left (by omega)] at h)
      have HCX : Hid (∀ W, Below G wr W → W.cell? ⟨w.heap.size, 0, none⟩ = some (.slice (some ⟨b, off, none⟩) H.length cap) ∧ W.cell? ⟨b, off + k * 3, none⟩ = some (.int .i64 xf) ∧ W.cell? ⟨b, off + k * 3 + 1, none⟩ = some (.int .i64 xt) ∧ W.cell? ⟨b, off + k * 3 + 2, none⟩ = some (.int .u64 xa)) := Lib.hid (fun W hW => by
        have hBW2 := HB5.out.trans ((HB.out.trans hW).mono HZ4.out)
        obtain ⟨e0, _, _⟩ := HAX.out _ hBW2
        obtain ⟨b2, off2, eq, e1, e2, e3⟩ := HHC.out _ hBW2 k _ HX.out
        simp only [Option.some.injEq, Addr.mk.injEq, and_true] at eq
        obtain ⟨rfl, rfl⟩ := eq
        exact ⟨e0, e1, e2, e3⟩)
      clear hx hlt hkl
      go_upto_region 5 with fail
      refine wp_region_held_drew (S := (fun w' => w'.cell? ⟨w.heap.size, 0, none⟩ = some (.slice (some ⟨b, off, none⟩) H.length cap) ∧ w'.cell? ⟨b, off + k * 3, none⟩ = some (.int .i64 xf) ∧ w'.cell? ⟨b, off + k * 3 + 1, none⟩ = some (.int .i64 xt) ∧ w'.cell? ⟨b, off + k * 3 + 2, none⟩ = some (.int .u64 xa))) (by kernel_rfl) ?_ (fun hHeld => ?_)
      · ((try dsimp only); exact ⟨a0, c0, c1, c2⟩)
      refine wpAnyH_take (i := 0) (v := ?_) rfl (by kernel_rfl) (by kernel_rfl) (by kernel_rfl) (fun _ _ _ h => h) (Or.inl ⟨by rfl, ?_⟩) (by assumption) ?_
      rotate_left 1
      · (intro w hSw; (try dsimp only at hSw); first | (go_simp; done) | (go_simp; with_reducible rfl))
      try simp only [Act.put, List.setIfInBounds_toArray, List.set_cons_zero, List.set_cons_succ, List.getElem_toArray, List.getElem_cons_zero]
      refine wpAnyH_take (i := 2) (v := ?_) rfl (by kernel_rfl) (by kernel_rfl) (by kernel_rfl) (fun _ _ _ h => h) (Or.inl ⟨by rfl, ?_⟩) (by assumption) ?_
      rotate_left 1
      · (intro w hSw; (try dsimp only at hSw); first | (go_simp; done) | (go_simp; with_reducible rfl))
      try simp only [Act.put, List.setIfInBounds_toArray, List.set_cons_zero, List.set_cons_succ, List.getElem_toArray, List.getElem_cons_zero, List.getElem_cons_succ]
      refine wpAnyH_take (i := 3) (v := ?_) rfl (by kernel_rfl) (by kernel_rfl) (by kernel_rfl) (fun _ _ _ h => h) (Or.inl ⟨by rfl, ?_⟩) (by assumption) ?_
      rotate_left 1
      · (intro w hSw; (try dsimp only at hSw); first | (go_simp; done) | (go_simp; with_reducible rfl))
      try simp only [Act.put, List.setIfInBounds_toArray, List.set_cons_zero, List.set_cons_succ, List.getElem_toArray, List.getElem_cons_zero, List.getElem_cons_succ]
      refine wpAnyH_take (i := 4) (v := ?_) rfl (by kernel_rfl) (by kernel_rfl) (by kernel_rfl) (fun _ _ _ h => h) (Or.inl ⟨by rfl, ?_⟩) (by assumption) ?_
      rotate_left 1
      · (intro w hSw; (try dsimp only at hSw); first | (go_simp; done) | (go_simp; with_reducible rfl))
      try simp only [Act.put, List.setIfInBounds_toArray, List.set_cons_zero, List.set_cons_succ, List.getElem_toArray, List.getElem_cons_zero, List.getElem_cons_succ]
      refine wpAnyH_take (i := 5) (v := ?_) rfl (by kernel_rfl) (by kernel_rfl) (by kernel_rfl) (fun _ _ _ h => h) (Or.inl ⟨by rfl, ?_⟩) (by assumption) ?_
      rotate_left 1
      · (intro w hSw; (try dsimp only at hSw); first | (go_simp; done) | (go_simp; with_reducible rfl))
      try simp only [Act.put, List.setIfInBounds_toArray, List.set_cons_zero, List.set_cons_succ, List.getElem_toArray, List.getElem_cons_zero, List.getElem_cons_succ]
      refine wpAnyH_take (i := 6) (v := ?_) rfl (by kernel_rfl) (by kernel_rfl) (by kernel_rfl) (fun _ _ _ h => h) (Or.inl ⟨by rfl, ?_⟩) (by assumption) ?_
      rotate_left 1
      · (intro w hSw; (try dsimp only at hSw); first | (go_simp; done) | (go_simp; with_reducible rfl))
      try simp only [Act.put, List.setIfInBounds_toArray, List.set_cons_zero, List.set_cons_succ, List.getElem_toArray, List.getElem_cons_zero, List.getElem_cons_succ]
      refine wpAnyH_take (i := 7) (v := ?_) rfl (by kernel_rfl) (by kernel_rfl) (by kernel_rfl) (fun _ _ _ h => h) (Or.inl ⟨by rfl, ?_⟩) (by assumption) ?_
      rotate_left 1
      · (intro w hSw; (try dsimp only at hSw); first | (go_simp; done) | (go_simp; with_reducible rfl))
      try simp only [Act.put, List.setIfInBounds_toArray, List.set_cons_zero, List.set_cons_succ, List.getElem_toArray, List.getElem_cons_zero, List.getElem_cons_succ]
      refine wpAnyH_take (i := 8) (v := ?_) rfl (by kernel_rfl) (by kernel_rfl) (by kernel_rfl) (fun _ _ _ h => h) (Or.inl ⟨by rfl, ?_⟩) (by assumption) ?_
      rotate_left 1
      · (intro w hSw; (try dsimp only at hSw); first | (go_simp; done) | (go_simp; with_reducible rfl))
      try simp only [Act.put, List.setIfInBounds_toArray, List.set_cons_zero, List.set_cons_succ, List.getElem_toArray, List.getElem_cons_zero, List.getElem_cons_succ]
      refine wpAnyH_take (i := 9) (v := ?_) rfl (by kernel_rfl) (by kernel_rfl) (by kernel_rfl) (fun _ _ _ h => h) (Or.inl ⟨by rfl, ?_⟩) (by assumption) ?_
      rotate_left 1
      · (intro w hSw; (try dsimp only at hSw); first | (go_simp; done) | (go_simp; with_reducible rfl))
      try simp only [Act.put, List.setIfInBounds_toArray, List.set_cons_zero, List.set_cons_succ, List.getElem_toArray, List.getElem_cons_zero, List.getElem_cons_succ]
      refine wpAnyH_take (i := 10) (v := ?_) rfl (by kernel_rfl) (by kernel_rfl) (by kernel_rfl) (fun _ _ _ h => h) (Or.inl ⟨by rfl, ?_⟩) (by assumption) ?_
      rotate_left 1
      · (intro w hSw; (try dsimp only at hSw); first | (go_simp; done) | (go_simp; with_reducible rfl))
      try simp only [Act.put, List.setIfInBounds_toArray, List.set_cons_zero, List.set_cons_succ, List.getElem_toArray, List.getElem_cons_zero, List.getElem_cons_succ]
      refine wpAnyH_take (i := 11) (v := ?_) rfl (by kernel_rfl) (by kernel_rfl) (by kernel_rfl) (fun _ _ _ h => h) (Or.inl ⟨by rfl, ?_⟩) (by assumption) ?_
      rotate_left 1
      · (intro w hSw; (try dsimp only at hSw); first | (go_simp; done) | (go_simp; with_reducible rfl))
      try simp only [Act.put, List.setIfInBounds_toArray, List.set_cons_zero, List.set_cons_succ, List.getElem_toArray, List.getElem_cons_zero, List.getElem_cons_succ]
      refine wpAnyH_take (i := 12) (v := ?_) rfl (by kernel_rfl) (by kernel_rfl) (by kernel_rfl) (fun _ _ _ h => h) (Or.inl ⟨by rfl, ?_⟩) (by assumption) ?_
      rotate_left 1
      · (intro w hSw; (try dsimp only at hSw); first | (go_simp; done) | (go_simp; with_reducible rfl))
      try simp only [Act.put, List.setIfInBounds_toArray, List.set_cons_zero, List.set_cons_succ, List.getElem_toArray, List.getElem_cons_zero, List.getElem_cons_succ]
      refine wpAnyH_take (i := 13) (v := ?_) rfl (by kernel_rfl) (by kernel_rfl) (by kernel_rfl) (fun _ _ _ h => h) (Or.inl ⟨by rfl, ?_⟩) (by assumption) ?_
      rotate_left 1
      · (intro w hSw; (try dsimp only at hSw); first | (go_simp; done) | (go_simp; with_reducible rfl))
      try simp only [Act.put, List.setIfInBounds_toArray, List.set_cons_zero, List.set_cons_succ, List.getElem_toArray, List.getElem_cons_zero, List.getElem_cons_succ]
      refine wpAnyH_take (i := 14) (v := ?_) rfl (by kernel_rfl) (by kernel_rfl) (by kernel_rfl) (fun _ _ _ h => h) (Or.inl ⟨by rfl, ?_⟩) (by assumption) ?_
      rotate_left 1
      · (intro w hSw; (try dsimp only at hSw); first | (go_simp; done) | (go_simp; with_reducible rfl))
      try simp only [Act.put, List.setIfInBounds_toArray, List.set_cons_zero, List.set_cons_succ, List.getElem_toArray, List.getElem_cons_zero, List.getElem_cons_succ]
      refine wpAnyH_take (i := 15) (v := ?_) rfl (by kernel_rfl) (by kernel_rfl) (by kernel_rfl) (fun _ _ _ h => h) (Or.inl ⟨by rfl, ?_⟩) (by assumption) ?_
      rotate_left 1
      · (intro w hSw; (try dsimp only at hSw); first | (go_simp; done) | (go_simp; with_reducible rfl))
      try simp only [Act.put, List.setIfInBounds_toArray, List.set_cons_zero, List.set_cons_succ, List.getElem_toArray, List.getElem_cons_zero, List.getElem_cons_succ]
      refine wpAnyH_take (i := 16) (v := ?_) rfl (by kernel_rfl) (by kernel_rfl) (by kernel_rfl) (fun _ _ _ h => h) (Or.inl ⟨by rfl, ?_⟩) (by assumption) ?_
      rotate_left 1
      · (intro w hSw; (try dsimp only at hSw); first | (go_simp; done) | (go_simp; with_reducible rfl))
      try simp only [Act.put, List.setIfInBounds_toArray, List.set_cons_zero, List.set_cons_succ, List.getElem_toArray, List.getElem_cons_zero, List.getElem_cons_succ]
      refine wpAnyH_take (i := 17) (v := ?_) rfl (by kernel_rfl) (by kernel_rfl) (by kernel_rfl) (fun _ _ _ h => h) (Or.inl ⟨by rfl, ?_⟩) (by assumption) ?_
      rotate_left 1
      · (intro w hSw; (try dsimp only at hSw); first | (go_simp; done) | (go_simp; with_reducible rfl))
      try simp only [Act.put, List.setIfInBounds_toArray, List.set_cons_zero, List.set_cons_succ, List.getElem_toArray, List.getElem_cons_zero, List.getElem_cons_succ]
      refine wpAnyH_take (i := 18) (v := ?_) rfl (by kernel_rfl) (by kernel_rfl) (by kernel_rfl) (fun _ _ _ h => h) (Or.inl ⟨by rfl, ?_⟩) (by assumption) ?_
      rotate_left 1
      · (intro w hSw; (try dsimp only at hSw); first | (go_simp; done) | (go_simp; with_reducible rfl))
      try simp only [Act.put, List.setIfInBounds_toArray, List.set_cons_zero, List.set_cons_succ, List.getElem_toArray, List.getElem_cons_zero, List.getElem_cons_succ]
      refine wpAnyH_take (i := 19) (v := ?_) rfl (by kernel_rfl) (by kernel_rfl) (by kernel_rfl) (fun _ _ _ h => h) (Or.inl ⟨by rfl, ?_⟩) (by assumption) ?_
      rotate_left 1
      · (intro w hSw; (try dsimp only at hSw); first | (go_simp; done) | (go_simp; with_reducible rfl))
      try simp only [Act.put, List.setIfInBounds_toArray, List.set_cons_zero, List.set_cons_succ, List.getElem_toArray, List.getElem_cons_zero, List.getElem_cons_succ]
      refine wpAnyH_take (i := 20) (v := ?_) rfl (by kernel_rfl) (by kernel_rfl) (by kernel_rfl) (fun _ _ _ h => h) (Or.inl ⟨by rfl, ?_⟩) (by assumption) ?_
      rotate_left 1
      · (intro w hSw; (try dsimp only at hSw); first | (go_simp; done) | (go_simp; with_reducible rfl))
      try simp only [Act.put, List.setIfInBounds_toArray, List.set_cons_zero, List.set_cons_succ, List.getElem_toArray, List.getElem_cons_zero, List.getElem_cons_succ]
      obtain ⟨o0, o1, of, ol⟩ := own_two HO.out
      have HBD : Hid (Below wr.heap.size wr wr.drew) := Lib.hid (Below.refl _ _).drew
      have HOD : Hid (wr.drew.heap[G]? = some (.cells #[.slice vo k vc, .slice q0 q1 q2] 47 (0, 0))) := Lib.hid HO.out
      have HVD : Hid (wr.drew.ownsRow (G + 1) 40 3 (.slice vo k vc) k (cellsL (H.take k))) := Lib.hid HVL.out
      have HGL : Hid (G < wr.drew.heap.size) := Lib.hid ol
      have HBG : Hid (Below G wr wr.drew) := Lib.hid (HBD.out.mono (Nat.le_of_lt ol))
      clear o0 o1 of ol c0 c1 c2 a0 a1 a2 HV HVL HO HBD
      generalize wr.drew = wd at *
      have hbm : Below wd.heap.size wd (wd.alloc (.cells #[.int .i64 xf, .int .i64 xt, .int .u64 xa] 40)) := (Below.refl _ _).alloc (Nat.le_refl _) _
      have HBM := Lib.hid hbm
      have HBG2 := Lib.hid (HBG.out.trans (hbm.mono (Nat.le_of_lt HGL.out)))
      have HOM := Lib.hid ((hbm.block _ HGL.out).trans HOD.out)
      have HVM := Lib.hid (World.ownsRow.alloc HVD.out (.cells #[.int .i64 xf, .int .i64 xt, .int .u64 xa] 40))
      have HNM := Lib.hid (heap_alloc_new wd (.cells #[.int .i64 xf, .int .i64 xt, .int .u64 xa] 40))
      obtain ⟨o0, o1, of, ol⟩ := own_two HOD.out
      obtain ⟨z0, z1, zf, zl⟩ := own_two HOM.out
      clear hbm
      refine wpAnyH_ready (rs := [1, 21]) (by kernel_rfl) (by simp) ?_
      refine AllReadyH.cons rfl (fun K hK => ?_) (AllReadyH.cons rfl (fun K hK => ?_) AllReadyH.nil)
      · skip
        go_simp
        skip
        try go_wp2_with fail
        refine hK.out _ _ ?_ (fun hHeld => ?_)
        · ((try dsimp only); exact HCX.out _ HBG.out)
        clear hK K
        try simp only [Act.put, List.setIfInBounds_toArray, List.set_cons_zero, List.set_cons_succ, List.getElem_toArray, List.getElem_cons_zero, List.getElem_cons_succ]
        refine wpAnyH_ready (rs := [21]) (by kernel_rfl) (by simp) ?_
        refine AllReadyH.cons rfl (fun K hK => ?_) AllReadyH.nil
        go_simp
        skip
        try go_wp2_with fail
        refine hK.out _ _ ?_ (fun hHeld => ?_)
        · ((try dsimp only); exact HCX.out _ HBG2.out)
        clear hK K
        try simp only [Act.put, List.setIfInBounds_toArray, List.set_cons_zero, List.set_cons_succ, List.getElem_toArray, List.getElem_cons_zero, List.getElem_cons_succ]
        refine wpAnyH_ready (rs := [22]) (by kernel_rfl) (by simp) ?_
        refine AllReadyH.cons rfl (fun K hK => ?_) AllReadyH.nil
        refine step_append_any rfl (.tmp 17) (.tmp 37) 43 43 (by rfl) (G + 1) 40 40 i0 (.agg #[.int .i64 0, .int .i64 0, .int .u64 0]) 3 24 Tryz.underlying43 Tryz.underlying43 hi hz0 hz1 hz2 rfl (by decide) (.slice vo k vc) k (cellsL (H.take k)) (by rfl) HVM.out (some ⟨wd.heap.size, 0, none⟩) 1 1 [.int .i64 xf, .int .i64 xt, .int .u64 xa] (by rfl) rfl (.inr ⟨_, rfl, World.news_of_block (cs := #[.int .i64 xf, .int .i64 xt, .int .u64 xa]) HNM.out⟩) (by intro y hy; simp at hy; rcases hy with rfl | rfl | rfl <;> rfl) (by unfold maxLen; omega) (by have := HL.out; have := HLT.out; omega) (by have := HGL.out; simp; omega) ?_
        intro v9 w9 hown9 hgrow hblk
        have HB9 := Lib.hid (HBG2.out.grown hgrow (by simp; have := HGL.out; omega) (fun g e => by have := (World.ownsRow.lt HVM.out g e).1; omega))
        have HO9 := Lib.hid ((hgrow.block G (by simp; have := HGL.out; omega) (fun e => by have := (World.ownsRow.lt HVM.out G e.symm).1; omega)).trans HOM.out)
        have HV9 : Hid (Own w9 (G + 1) 40 v9 (H.take (k + 1))) := Lib.hid (by
          have e1 : H.take (k + 1) = H.take k ++ [⟨xf, xt, xa⟩] := Gr.take_succ' HX.out
          have e2 : (H.take k).length = k := by rw [List.length_take]; have := HLT.out; omega
          rw [e1]
          unfold Own
          rw [cellsL_snoc, List.length_append, e2]
          exact hown9)
        obtain ⟨p0, p1, p2, rfl⟩ : ∃ ao n c, v9 = .slice ao n c := by
          rcases HV9.out.form with ⟨_, h⟩ | ⟨g, cap, h, _⟩
          · exact ⟨_, _, _, h⟩
          · exact ⟨_, _, _, h⟩
        have HN9 : Hid (∀ g, (Value.slice p0 p1 p2).ownBlock = some g → g ≠ G) := Lib.hid (fun g hg => by have := (World.ownsRow.lt HV9.out g hg).1; omega)
        clear hown9 hgrow hblk
        refine hK.out _ _ ?_ (fun hHeld => ?_)
        · exact HCX.out _ HB9.out
        clear hK K
        try simp only [Act.put, List.setIfInBounds_toArray, List.set_cons_zero, List.set_cons_succ, List.getElem_toArray, List.getElem_cons_zero, List.getElem_cons_succ]
        obtain ⟨s0, s1, sf, sl⟩ := own_two HO9.out
        have sf0 := sf 0
        refine wpAnyH_take (i := 23) (v := ?_) rfl (by kernel_rfl) (by kernel_rfl) (by kernel_rfl) (fun _ _ _ h => h) (Or.inl ⟨by rfl, ?_⟩) (by assumption) ?_
        rotate_left 1
        · (intro w hSw; (try dsimp only at hSw); first | (go_simp; done) | (go_simp; with_reducible rfl))
        try simp only [Act.put, List.setIfInBounds_toArray, List.set_cons_zero, List.set_cons_succ, List.getElem_toArray, List.getElem_cons_zero, List.getElem_cons_succ]
        have HOE := Lib.hid (own_set0 HO9.out (.slice p0 p1 p2))
        have HVE : Hid (Own (w9.setCell ⟨G, 0, none⟩ (.slice p0 p1 p2)) (G + 1) 40 (.slice p0 p1 p2) (H.take (k + 1))) := Lib.hid (ownsRow_setCell_other HV9.out (fun e => HN9.out _ e rfl) _)
        have HBE := Lib.hid (HB9.out.setCell (p := ⟨G, 0, none⟩) (Nat.le_refl _) (.slice p0 p1 p2))
        refine wpAnyH_ready (rs := [24]) (by kernel_rfl) (by simp) ?_
        refine AllReadyH.cons rfl (fun K hK => ?_) AllReadyH.nil
        go_simp
        skip
        try go_wp2_with fail
        refine hK.out _ _ ?_ (fun hHeld => ?_)
        · ((try dsimp only); exact HCX.out _ HBE.out)
        clear hK K
        try simp only [Act.put, List.setIfInBounds_toArray, List.set_cons_zero, List.set_cons_succ, List.getElem_toArray, List.getElem_cons_zero, List.getElem_cons_succ]
        refine wpAnyH_done (by kernel_rfl) ?_ _
        go_wp2_with fail
        go_roundg (gk - 1)
        case measure => have := HKM.out; have := HLT.out; omega
        case rel => exact ⟨k + 1, _, by have := HKM.out; have := HLT.out; omega, by have := HLT.out; omega, by first | rfl | simp, HOE, HVE, Lib.hid (HB.out.trans HBE.out)⟩
      · skip
        go_simp
        skip
        try go_wp2_with fail
        refine hK.out _ _ ?_ (fun hHeld => ?_)
        · ((try dsimp only); exact HCX.out _ HBG2.out)
        clear hK K
        try simp only [Act.put, List.setIfInBounds_toArray, List.set_cons_zero, List.set_cons_succ, List.getElem_toArray, List.getElem_cons_zero, List.getElem_cons_succ]
        refine wpAnyH_ready (rs := [1]) (by kernel_rfl) (by simp) ?_
        refine AllReadyH.cons rfl (fun K hK => ?_) AllReadyH.nil
        go_simp
        skip
        try go_wp2_with fail
        refine hK.out _ _ ?_ (fun hHeld => ?_)
        · ((try dsimp only); exact HCX.out _ HBG2.out)
        clear hK K
        try simp only [Act.put, List.setIfInBounds_toArray, List.set_cons_zero, List.set_cons_succ, List.getElem_toArray, List.getElem_cons_zero, List.getElem_cons_succ]
        refine wpAnyH_ready (rs := [22]) (by kernel_rfl) (by simp) ?_
        refine AllReadyH.cons rfl (fun K hK => ?_) AllReadyH.nil
        refine step_append_any rfl (.tmp 17) (.tmp 37) 43 43 (by rfl) (G + 1) 40 40 i0 (.agg #[.int .i64 0, .int .i64 0, .int .u64 0]) 3 24 Tryz.underlying43 Tryz.underlying43 hi hz0 hz1 hz2 rfl (by decide) (.slice vo k vc) k (cellsL (H.take k)) (by rfl) HVM.out (some ⟨wd.heap.size, 0, none⟩) 1 1 [.int .i64 xf, .int .i64 xt, .int .u64 xa] (by rfl) rfl (.inr ⟨_, rfl, World.news_of_block (cs := #[.int .i64 xf, .int .i64 xt, .int .u64 xa]) HNM.out⟩) (by intro y hy; simp at hy; rcases hy with rfl | rfl | rfl <;> rfl) (by unfold maxLen; omega) (by have := HL.out; have := HLT.out; omega) (by have := HGL.out; simp; omega) ?_
        intro v9 w9 hown9 hgrow hblk
        have HB9 := Lib.hid (HBG2.out.grown hgrow (by simp; have := HGL.out; omega) (fun g e => by have := (World.ownsRow.lt HVM.out g e).1; omega))
        have HO9 := Lib.hid ((hgrow.block G (by simp; have := HGL.out; omega) (fun e => by have := (World.ownsRow.lt HVM.out G e.symm).1; omega)).trans HOM.out)
        have HV9 : Hid (Own w9 (G + 1) 40 v9 (H.take (k + 1))) := Lib.hid (by
          have e1 : H.take (k + 1) = H.take k ++ [⟨xf, xt, xa⟩] := Gr.take_succ' HX.out
          have e2 : (H.take k).length = k := by rw [List.length_take]; have := HLT.out; omega
          rw [e1]
          unfold Own
          rw [cellsL_snoc, List.length_append, e2]
          exact hown9)
        obtain ⟨p0, p1, p2, rfl⟩ : ∃ ao n c, v9 = .slice ao n c := by
          rcases HV9.out.form with ⟨_, h⟩ | ⟨g, cap, h, _⟩
          · exact ⟨_, _, _, h⟩
          · exact ⟨_, _, _, h⟩
        have HN9 : Hid (∀ g, (Value.slice p0 p1 p2).ownBlock = some g → g ≠ G) := Lib.hid (fun g hg => by have := (World.ownsRow.lt HV9.out g hg).1; omega)
        clear hown9 hgrow hblk
        refine hK.out _ _ ?_ (fun hHeld => ?_)
        · exact HCX.out _ HB9.out
        clear hK K
        try simp only [Act.put, List.setIfInBounds_toArray, List.set_cons_zero, List.set_cons_succ, List.getElem_toArray, List.getElem_cons_zero, List.getElem_cons_succ]
        obtain ⟨s0, s1, sf, sl⟩ := own_two HO9.out
        have sf0 := sf 0
        refine wpAnyH_take (i := 23) (v := ?_) rfl (by kernel_rfl) (by kernel_rfl) (by kernel_rfl) (fun _ _ _ h => h) (Or.inl ⟨by rfl, ?_⟩) (by assumption) ?_
        rotate_left 1
        · (intro w hSw; (try dsimp only at hSw); first | (go_simp; done) | (go_simp; with_reducible rfl))
        try simp only [Act.put, List.setIfInBounds_toArray, List.set_cons_zero, List.set_cons_succ, List.getElem_toArray, List.getElem_cons_zero, List.getElem_cons_succ]
        have HOE := Lib.hid (own_set0 HO9.out (.slice p0 p1 p2))
        have HVE : Hid (Own (w9.setCell ⟨G, 0, none⟩ (.slice p0 p1 p2)) (G + 1) 40 (.slice p0 p1 p2) (H.take (k + 1))) := Lib.hid (ownsRow_setCell_other HV9.out (fun e => HN9.out _ e rfl) _)
        have HBE := Lib.hid (HB9.out.setCell (p := ⟨G, 0, none⟩) (Nat.le_refl _) (.slice p0 p1 p2))
        refine wpAnyH_ready (rs := [24]) (by kernel_rfl) (by simp) ?_
        refine AllReadyH.cons rfl (fun K hK => ?_) AllReadyH.nil
        go_simp
        skip
        try go_wp2_with fail
        refine hK.out _ _ ?_ (fun hHeld => ?_)
        · ((try dsimp only); exact HCX.out _ HBE.out)
        clear hK K
        try simp only [Act.put, List.setIfInBounds_toArray, List.set_cons_zero, List.set_cons_succ, List.getElem_toArray, List.getElem_cons_zero, List.getElem_cons_succ]
        refine wpAnyH_done (by kernel_rfl) ?_ _
        go_wp2_with fail
        go_roundg (gk - 1)
        case measure => have := HKM.out; have := HLT.out; omega
        case rel => exact ⟨k + 1, _, by have := HKM.out; have := HLT.out; omega, by have := HLT.out; omega, by first | rfl | simp, HOE, HVE, Lib.hid (HB.out.trans HBE.out)⟩
    · have hlt' : ¬ (k : Int) < (H.length : Int) := by omega
      obtain rfl : k = H.length := by omega
      rw [List.take_length] at HV
      obtain ⟨vo, vc, rfl⟩ : ∃ ao c, vE = .slice ao H.length c := by
        rcases HV.out.form with ⟨e1, e2⟩ | ⟨g, c, e2, _⟩
        · exact ⟨none, 0, by rw [e2, e1]; rfl⟩
        · exact ⟨_, _, e2⟩
      obtain ⟨o0, o1, of, ol⟩ := own_two HO.out
      obtain ⟨r0, r1, rf, rl⟩ := own_two a2
      have rf0 := rf 0
      have rf1 := rf 1
      have HR7 := Lib.hid (own_set1 (own_set0 a2 (.slice vo H.length vc)) (.slice q0 q1 q2))
      have m1 := (own_two (own_set0 a2 (.slice vo H.length vc))).2.1
      have HG6 := Lib.hid (HG5.out.below (show Below w5.heap.size w5 w5 from Below.refl _ _))
      have HV7 : Hid (Own ((wr.setCell ⟨w.heap.size + 1, 0, none⟩ (.slice vo H.length vc)).setCell ⟨w.heap.size + 1, 1, none⟩ (.slice q0 q1 q2)) (G + 1) 40 (.slice vo H.length vc) H) := Lib.hid (ownsRow_setCell_other (ownsRow_setCell_other HV.out (fun e => by have h1 := (World.ownsRow.lt HV.out _ e).1; have h2 := HZ4.out; dsimp only at h1; omega) _) (fun e => by have h1 := (World.ownsRow.lt HV.out _ e).1; have h2 := HZ4.out; dsimp only at h1; omega) _)
      have HGr : Hid (Batch.Own wr (w.heap.size + 2) 72 (.slice q0 q1 q2) B) := Lib.hid (by
        have h := HG5.out
        refine ⟨h.1, ?_⟩
        rcases h.2 with h2 | ⟨g, cap', cur, e, hb', hg, rest⟩
        · exact .inl h2
        · exact .inr ⟨g, cap', cur, e, hb', (HB.out.block g (HQL.out g (by rw [e]; rfl))).trans hg, rest⟩)
      have HG7 : Hid (Batch.Own ((wr.setCell ⟨w.heap.size + 1, 0, none⟩ (.slice vo H.length vc)).setCell ⟨w.heap.size + 1, 1, none⟩ (.slice q0 q1 q2)) (w.heap.size + 2) 72 (.slice q0 q1 q2) B) := Lib.hid (ownsRow_setCell_other (ownsRow_setCell_other HGr.out (fun e => by have := (World.ownsRow.lt HGr.out _ e).1; dsimp only at this; omega) _) (fun e => by have := (World.ownsRow.lt HGr.out _ e).1; dsimp only at this; omega) _)
      have HB7 : Hid (Below w.heap.size w ((wr.setCell ⟨w.heap.size + 1, 0, none⟩ (.slice vo H.length vc)).setCell ⟨w.heap.size + 1, 1, none⟩ (.slice q0 q1 q2))) := Lib.hid (((HB1.out.trans (HBW.out.mono (by omega))).setCell (p := ⟨w.heap.size + 1, 0, none⟩) (Nat.le_succ _) _).setCell (p := ⟨w.heap.size + 1, 1, none⟩) (Nat.le_succ _) _)
      clear rf hlt
      go_wp2_with fail
      generalize hlast : (wr.setCell ⟨w.heap.size + 1, 0, none⟩ (.slice vo H.length vc)).setCell ⟨w.heap.size + 1, 1, none⟩ (.slice q0 q1 q2) = w7 at *
      obtain ⟨x0, x1, _, _⟩ := own_two HR7.out
      exact bodyPost_ret (v := .agg #[.slice vo H.length vc, .slice q0 q1 q2]) (by simp [results, Tryz.results11, go_sem, x0, x1]) rfl ⟨_, _, rfl, HV7.out.mono (by have := HZ4.out; omega), HG7.out.mono (by omega), HB7.out⟩
end Go.Proofs.YtlkljeedlkbkgaaGreatDoor.Cl
