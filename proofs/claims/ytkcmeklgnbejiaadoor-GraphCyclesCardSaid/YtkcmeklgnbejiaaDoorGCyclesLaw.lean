
/-
  PACKAGE marchlandlaw05: GraphCycles.
-/
import Derived.Test.YtkcmeklgnbejiaaDoorGRing
import Derived.Deep.AppendLies
import Derived.BigRegion
namespace Go.Proofs.YtkcmeklgnbejiaaDoor.Gr
open Go.RowKit Go.Deep Go.Proofs.YtkcmeklgnbejiaaDoor.Fault
set_option linter.unusedVariables false
set_option linter.unusedSimpArgs false

theorem kval (n : Int) : ∃ k : Nat, 1 ≤ k ∧ k ≤ 9 ∧ wrap64 (1 + wrap64 ((IntKind.u64.wrap n).tmod 9)) = (k : Int) := by
  have h2 := Int.tmod_nonneg 9 (u64_range n).1
  have h3 := Int.tmod_lt_of_pos (IntKind.u64.wrap n) (show (0 : Int) < 9 by decide)
  have e2 : wrap64 ((IntKind.u64.wrap n).tmod 9) = (IntKind.u64.wrap n).tmod 9 := by unfold wrap64; omega
  refine ⟨(1 + (IntKind.u64.wrap n).tmod 9).toNat, by omega, by omega, ?_⟩
  rw [e2]
  unfold wrap64
  omega
theorem rdi_at {w w' : World} {B b o n cap : Nat} {l : List Int} (h : RdI w (.slice (some ⟨b, o, none⟩) n cap) l) (hw : Below B w w') (hb : b < B) : RdI w' (.slice (some ⟨b, o, none⟩) n cap) l := by
  obtain ⟨ao, cap', hv, h1, h2, h3, h4⟩ := h
  refine ⟨ao, cap', hv, h1, h2, h3, ?_⟩
  rcases h4 with h4 | ⟨b', off, ha, h4⟩
  · exact .inl h4
  · refine .inr ⟨b', off, ha, fun i x hx => ?_⟩
    rw [ha] at hv
    simp at hv
    exact (hw.cell (p := ⟨b', off + i, none⟩) (by have := hv.1.1; show b' < B; omega)).trans (h4 i x hx)
theorem aval (n : Int) (k : Nat) (h1 : 1 ≤ k) (h9 : k ≤ 9) : ∃ a : Nat, a < k ∧ IntKind.i64.wrap ((IntKind.u64.wrap n).tmod (k : Int)) = (a : Int) ∧ wrap64 ((IntKind.u64.wrap n).tmod (k : Int)) = (a : Int) := by
  have h2 := Int.tmod_nonneg (k : Int) (u64_range n).1
  have h3 := Int.tmod_lt_of_pos (IntKind.u64.wrap n) (show (0 : Int) < (k : Int) by omega)
  refine ⟨((IntKind.u64.wrap n).tmod (k : Int)).toNat, by omega, ?_, ?_⟩
  · rw [i64_id (by omega) (by omega)]; omega
  · unfold wrap64; omega
theorem capof {w : World} {base g n cap : Nat} {T : TypeId} {l : List Ed} (h : Own w base T (.slice (some ⟨g, 0, none⟩) n cap) l) : n ≤ cap ∧ cap ≤ 9223372036854775807 := by
  rcases h.form with ⟨_, hv⟩ | ⟨g', cap', hv, _, _, hc, hm⟩
  · simp at hv
  · simp only [Value.slice.injEq] at hv
    obtain ⟨_, rfl, rfl⟩ := hv
    exact ⟨hc, hm⟩
theorem rd_ring_set {w : World} {g k cap a : Nat} (hk9 : k ≤ 9) (hc : k ≤ cap) (hc' : cap ≤ 9223372036854775807) (hat : ∀ i, i < k → At3 w g (i * 3) (ringE k k i)) (ha : a < k) :
    Rd (w.setCell ⟨g, a * 3 + 2, none⟩ (.int .u64 1)) (.slice (some ⟨g, 0, none⟩) k cap) (ring k a) := by
  refine ⟨some ⟨g, 0, none⟩, cap, by rw [ring_length], by rw [ring_length]; exact hc, hc', ring_wf hk9, .inr ⟨g, 0, rfl, fun i x hx => ?_⟩⟩
  have hi : i < k := by have := (List.getElem?_eq_some_iff.1 hx).1; rwa [ring_length] at this
  rw [ring_at hi] at hx
  obtain rfl := Option.some.inj hx
  obtain ⟨c0, c1, c2⟩ := hat i hi
  rw [Nat.zero_add]
  refine ⟨?_, ?_, ?_⟩
  · rw [World.cell?_setCell_other (h := by intro e; have e1 := congrArg Addr.off e; dsimp only at e1; omega)]; exact c0
  · rw [World.cell?_setCell_other (h := by intro e; have e1 := congrArg Addr.off e; dsimp only at e1; omega)]; exact c1
  · by_cases e : i = a
    · subst e
      rw [World.cell?_setCell_same (h := c2)]
      unfold ringE
      rw [if_pos rfl]
    · rw [World.cell?_setCell_other (h := by intro e; have e1 := congrArg Addr.off e; dsimp only at e1; omega), c2]
      unfold ringE
      rw [if_neg (by omega), if_neg e]
theorem chain1_set {W : World} {v : Value} {s : ByteArray} {n k y : Int} {p : Addr} (h : Chain W v [(s, n)] (errnoV k)) (hp : W.cell? p = some (.int .u64 y)) (u : Value) : Chain (W.setCell p u) v [(s, n)] (errnoV k) := by
  obtain ⟨blk, v', rfl, c0, c1, c2, rfl⟩ := h
  refine ⟨blk, _, rfl, ?_, ?_, ?_, rfl⟩
  · rw [World.cell?_setCell_other (h := by rintro rfl; rw [hp] at c0; simp at c0)]; exact c0
  · rw [World.cell?_setCell_other (h := by rintro rfl; rw [hp] at c1; simp at c1)]; exact c1
  · rw [World.cell?_setCell_other (h := by rintro rfl; rw [hp] at c2; simp at c2)]; exact c2
theorem p1_text : ∃ S : ByteArray, (S.toList == [112, 111, 114, 116, 32, 49, 58, 32, 99, 121, 99, 108, 101]) = true ∧ ∀ (w : World) (E : Value), LV w → Chain w E [(portS, 1)] (errnoV 3) →
    Calls Tryd.prog 16 #[E] w fun e w' => e = .returned (.string S) ∧ Below w.heap.size w w' :=
  ⟨_, p1_textS, fun w E hL hch => text_errno 3 hL hch (by decide) (by decide) (by decide) (by
    intro x hx
    simp at hx
    rcases hx with rfl
    exact ⟨by decide, by decide, by decide⟩)⟩
set_option maxRecDepth 1000000 in
set_option maxHeartbeats 16000000 in
theorem gcycles_any {w : World} (n at_ : Int) (hL : LV w) :
    Calls Tryd.prog 5 #[.int .i64 n, .int .i64 at_] w fun e w' => e = .returned (.bool true) ∧ Below w.heap.size w w' := by
  have HL := Lib.hid hL
  obtain ⟨i0, hi, hz0, hz1, hz2⟩ := info_parts infoRed
  obtain ⟨k, hk1, hk9, hkw⟩ := kval n
  have hk2 : wrap64 ((k : Int) + 2) = (k : Int) + 2 := by unfold wrap64; omega
  go_enter Tryd.func5, Tryd.ntmps5
  go_upto_region 3 with fail
  rw [hkw]
  obtain ⟨w2, hw2⟩ : ∃ w2, w2 = (w.alloc (.cells #[.int .i64 0] 3)).alloc (.cells #[.int .i64 ((k : Int) + 2), .slice none 0 0, .slice (some ⟨w.heap.size, 0, none⟩) 1 1] 25) := ⟨_, rfl⟩
  have hsz : w2.heap.size = w.heap.size + 2 := by rw [hw2]; simp
  have hblk0 : w2.heap[w.heap.size + 1]? = some (.cells #[.int .i64 ((k : Int) + 2), .slice none 0 0, .slice (some ⟨w.heap.size, 0, none⟩) 1 1] 25 (0, 0)) := by
    have h := heap_alloc_new (w.alloc (.cells #[.int .i64 0] 3)) (.cells #[.int .i64 ((k : Int) + 2), .slice none 0 0, .slice (some ⟨w.heap.size, 0, none⟩) 1 1] 25)
    rw [hw2]
    rwa [show (w.alloc (.cells #[.int .i64 0] 3)).heap.size = w.heap.size + 1 by simp] at h
  have hbw0 : Below w.heap.size w w2 := by rw [hw2]; exact ((Below.refl _ _).alloc (Nat.le_refl _) _).alloc (by simp) _
  have hin : RdI w2 (.slice (some ⟨w.heap.size, 0, none⟩) 1 1) [0] := by
    rw [hw2]
    exact (rdi_new (w := w) (T := 3)).below ((Below.refl _ _).alloc (Nat.le_refl _) _)
  rw [← hw2]
  have HSZ := Lib.hid hsz
  have HBLK0 := Lib.hid hblk0
  have HBW0 := Lib.hid hbw0
  have HIN := Lib.hid hin
  clear hw2 hsz hblk0 hbw0 hin hkw hk2 hL
  go_wp2_with fail
  go_loopg [7] (k + 1) (fun mm t wr => ∃ (i : Nat) (vE : Value), i + mm = k + 1 ∧ i ≤ k ∧ t = .int .i64 (i : Int) ∧ wr.heap[w.heap.size + 1]? = some (.cells #[.int .i64 ((k : Int) + 2), vE, .slice (some ⟨w.heap.size, 0, none⟩) 1 1] 25 (0, 0)) ∧ wr.ownsRow (w.heap.size + 2) 51 3 vE i (cellsL ((ring k k).take i)) ∧ Below (w.heap.size + 1) w2 wr)
  case atStart => exact ⟨0, .slice none 0 0, by omega, by omega, rfl, HBLK0.out, World.ownsRow_nil _ _ _ _, Below.refl _ _⟩
  case round =>
    clear HBLK0
    obtain ⟨i, vE, him, hik, rfl, hblk, hown, hbw⟩ := hrel
    obtain ⟨z0, z1, z2, zf⟩ := three_cells hblk
    have zf1 := zf 1
    have hGlt : w.heap.size + 1 < wr.heap.size := (Array.getElem?_eq_some_iff.1 hblk).1
    have HIM := Lib.hid him
    have HBLK := Lib.hid hblk
    have HBW := Lib.hid hbw
    have HBS := Lib.hid hGlt
    obtain ⟨aoE, capE, hvE⟩ : ∃ aoE capE, vE = .slice aoE i capE := by
      rcases hown.2 with ⟨h, h0⟩ | ⟨g, cap, cur, h, _⟩
      · exact ⟨none, 0, by rw [h, h0]⟩
      · exact ⟨_, _, h⟩
    subst hvE
    have HOWN := Lib.hid hown
    clear him hblk hbw hown zf
    by_cases hi' : i < k
    · have HI := Lib.hid hi'
      have hi0 : (0 : Int) ≤ (i : Int) := Int.natCast_nonneg _
      have hi1 : (i : Int) < (k : Int) := by omega
      have hkn : ¬ k = 0 := by omega
      obtain ⟨FF, hFF⟩ : ∃ x : Int, x = ((1 + i : Nat) : Int) := ⟨_, rfl⟩
      obtain ⟨I1, hI1⟩ : ∃ x : Int, x = ((i + 1 : Nat) : Int) := ⟨_, rfl⟩
      obtain ⟨RR, hRR⟩ : ∃ x : Int, x = (((i + 1) % k : Nat) : Int) := ⟨_, rfl⟩
      obtain ⟨TT, hTT⟩ : ∃ x : Int, x = ((1 + (i + 1) % k : Nat) : Int) := ⟨_, rfl⟩
      have hmk := Nat.mod_lt (i + 1) (show 0 < k by omega)
      have e1 : IntKind.i64.wrap (1 + (i : Int)) = FF := by rw [i64_id (by omega) (by omega)]; omega
      have e2 : IntKind.i64.wrap ((i : Int) + 1) = I1 := by rw [i64_id (by omega) (by omega)]; omega
      have e3 : IntKind.i64.wrap (1 + RR) = TT := by rw [i64_id (by omega) (by omega)]; omega
      have e4 : I1.tmod (k : Int) = RR := by rw [hI1, hRR, Int.tmod_eq_emod_of_nonneg (by omega)]; exact (Int.natCast_emod _ _).symm
      have HRG := Lib.hid (show ringE k k i = ⟨FF, TT, 0⟩ by unfold ringE; rw [if_neg (by omega), hFF, hTT])
      have HI1 := Lib.hid hI1
      clear hFF hI1 hRR hTT hmk
      have hW : Below wr.heap.size wr ((wr.alloc (.cells #[.int .i64 FF, .int .i64 TT, .int .u64 0] 51)).drew) := ((Below.refl _ _).alloc (Nat.le_refl _) _).drew
      clear hi'
      go_wp2_with fail
      refine wp_region_held_drew (S := fun _ => True) (by kernel_rfl) trivial (fun hHeld => ?_)
      refine wpAnyH_take (i := 0) (v := ?_) rfl (by kernel_rfl) (by kernel_rfl) (by kernel_rfl) (fun _ _ _ h => h) (Or.inl ⟨by rfl, ?_⟩) (by assumption) ?_
      rotate_left 1
      · (intro w hSw; (try dsimp only at hSw); first | (go_simp; done) | (go_simp; with_reducible rfl))
      try simp only [Act.put, List.setIfInBounds_toArray, List.set_cons_zero, List.set_cons_succ, List.getElem_toArray, List.getElem_cons_zero]
      refine wpAnyH_take (i := 2) (v := ?_) rfl (by kernel_rfl) (by kernel_rfl) (by kernel_rfl) (fun _ _ _ h => h) (Or.inl ⟨by rfl, ?_⟩) (by assumption) ?_
      rotate_left 1
      · (intro w hSw; (try dsimp only at hSw); first | (go_simp; done) | (go_simp; with_reducible rfl))
      try simp only [Act.put, List.setIfInBounds_toArray, List.set_cons_zero, List.set_cons_succ, List.getElem_toArray, List.getElem_cons_zero, List.getElem_cons_succ]
      refine wpAnyH_take (i := 3) (v := ?_) rfl (by kernel_rfl) (by kernel_rfl) (by kernel_rfl) (fun _ _ _ h => h) (Or.inl ⟨by rfl, ?_⟩) (by assumption) ?_
      rotate_left 1
      · (intro w hSw; (try dsimp only at hSw); first | (go_simp; done) | (go_simp; with_reducible rfl))
      try simp only [Act.put, List.setIfInBounds_toArray, List.set_cons_zero, List.set_cons_succ, List.getElem_toArray, List.getElem_cons_zero, List.getElem_cons_succ]
      refine wpAnyH_take (i := 4) (v := ?_) rfl (by kernel_rfl) (by kernel_rfl) (by kernel_rfl) (fun _ _ _ h => h) (Or.inl ⟨by rfl, ?_⟩) (by assumption) ?_
      rotate_left 1
      · (intro w hSw; (try dsimp only at hSw); first | (go_simp; done) | (go_simp; with_reducible rfl))
      try simp only [Act.put, List.setIfInBounds_toArray, List.set_cons_zero, List.set_cons_succ, List.getElem_toArray, List.getElem_cons_zero, List.getElem_cons_succ]
      refine wpAnyH_take (i := 5) (v := ?_) rfl (by kernel_rfl) (by kernel_rfl) (by kernel_rfl) (fun _ _ _ h => h) (Or.inl ⟨by rfl, ?_⟩) (by assumption) ?_
      rotate_left 1
      · (intro w hSw; (try dsimp only at hSw); first | (go_simp; done) | (go_simp; with_reducible rfl))
      try simp only [Act.put, List.setIfInBounds_toArray, List.set_cons_zero, List.set_cons_succ, List.getElem_toArray, List.getElem_cons_zero, List.getElem_cons_succ]
      refine wpAnyH_take (i := 6) (v := ?_) rfl (by kernel_rfl) (by kernel_rfl) (by kernel_rfl) (fun _ _ _ h => h) (Or.inl ⟨by rfl, ?_⟩) (by assumption) ?_
      rotate_left 1
      · (intro w hSw; (try dsimp only at hSw); first | (go_simp; done) | (go_simp; with_reducible rfl))
      try simp only [Act.put, List.setIfInBounds_toArray, List.set_cons_zero, List.set_cons_succ, List.getElem_toArray, List.getElem_cons_zero, List.getElem_cons_succ]
      refine wpAnyH_take (i := 7) (v := ?_) rfl (by kernel_rfl) (by kernel_rfl) (by kernel_rfl) (fun _ _ _ h => h) (Or.inl ⟨by rfl, ?_⟩) (by assumption) ?_
      rotate_left 1
      · (intro w hSw; (try dsimp only at hSw); first | (go_simp; done) | (go_simp; with_reducible rfl))
      try simp only [Act.put, List.setIfInBounds_toArray, List.set_cons_zero, List.set_cons_succ, List.getElem_toArray, List.getElem_cons_zero, List.getElem_cons_succ]
      refine wpAnyH_take (i := 8) (v := ?_) rfl (by kernel_rfl) (by kernel_rfl) (by kernel_rfl) (fun _ _ _ h => h) (Or.inl ⟨by rfl, ?_⟩) (by assumption) ?_
      rotate_left 1
      · (intro w hSw; (try dsimp only at hSw); first | (go_simp; done) | (go_simp; with_reducible rfl))
      try simp only [Act.put, List.setIfInBounds_toArray, List.set_cons_zero, List.set_cons_succ, List.getElem_toArray, List.getElem_cons_zero, List.getElem_cons_succ]
      refine wpAnyH_take (i := 9) (v := ?_) rfl (by kernel_rfl) (by kernel_rfl) (by kernel_rfl) (fun _ _ _ h => h) (Or.inl ⟨by rfl, ?_⟩) (by assumption) ?_
      rotate_left 1
      · (intro w hSw; (try dsimp only at hSw); first | (go_simp; done) | (go_simp; with_reducible rfl))
      try simp only [Act.put, List.setIfInBounds_toArray, List.set_cons_zero, List.set_cons_succ, List.getElem_toArray, List.getElem_cons_zero, List.getElem_cons_succ]
      refine wpAnyH_ready (rs := [1, 10]) (by kernel_rfl) (by simp) ?_
      refine AllReadyH.cons rfl (fun K hK => ?_) (AllReadyH.cons rfl (fun K hK => ?_) AllReadyH.nil)
      · go_simp
        try go_wp2_with fail
        refine hK.out _ _ trivial (fun hHeld => ?_)
        clear hK K
        try simp only [Act.put, List.setIfInBounds_toArray, List.set_cons_zero, List.set_cons_succ, List.getElem_toArray, List.getElem_cons_zero, List.getElem_cons_succ]
        refine wpAnyH_ready (rs := [10]) (by kernel_rfl) (by simp) ?_
        refine AllReadyH.cons rfl (fun K hK => ?_) AllReadyH.nil
        go_simp
        try go_wp2_with fail
        refine hK.out _ _ trivial (fun hHeld => ?_)
        clear hK K
        try simp only [Act.put, List.setIfInBounds_toArray, List.set_cons_zero, List.set_cons_succ, List.getElem_toArray, List.getElem_cons_zero, List.getElem_cons_succ]
        refine wpAnyH_ready (rs := [11]) (by kernel_rfl) (by simp) ?_
        refine AllReadyH.cons rfl (fun K hK => ?_) AllReadyH.nil
        refine step_append_lies _ (by rfl) _ _ _ (by rfl) (w.heap.size + 2) 51 i0 _ 3 24 Tryd.underlying22 hi hz0 hz1 hz2 rfl (by omega) (.slice aoE i capE) i (cellsL ((ring k k).take i)) (by rfl) ((HOWN.out.alloc _).drew) ⟨wr.heap.size, 0, none⟩ 1 1 [.int .i64 FF, .int .i64 TT, .int .u64 0] (by rfl) (by rfl) (World.news_of_block (cs := #[.int .i64 FF, .int .i64 TT, .int .u64 0]) (t := 51) (fr := (0, 0)) (heap_alloc_new wr _)) (by simp [Value.oneCell']) (by omega) (by unfold maxLen; omega) (by omega) (by simp; omega) (wr.heap.size + 1) (by simp) ?_
        intro gg cap1 w3 hown1 hgrow hat hlt
        have y1 := (hgrow.cell_far ⟨w.heap.size + 1, 1, none⟩ (by simp; omega) (fun e => by have := (World.ownsRow.lt HOWN.out (w.heap.size + 1) e.symm).1; omega)).trans ((hW.cell (p := ⟨w.heap.size + 1, 1, none⟩) (by omega)).trans z1)
        have yf := (hgrow.frozen_far ⟨w.heap.size + 1, 1, none⟩ (by simp; omega) (fun e => by have := (World.ownsRow.lt HOWN.out (w.heap.size + 1) e.symm).1; omega)).trans ((hW.frozen (p := ⟨w.heap.size + 1, 1, none⟩) (by omega)).trans zf1)
        try go_wp2_with fail
        refine hK.out _ _ trivial (fun hHeld => ?_)
        clear hK K
        try simp only [Act.put, List.setIfInBounds_toArray, List.set_cons_zero, List.set_cons_succ, List.getElem_toArray, List.getElem_cons_zero, List.getElem_cons_succ]
        refine wpAnyH_take (i := 12) (v := ?_) rfl (by kernel_rfl) (by kernel_rfl) (by kernel_rfl) (fun _ _ _ h => h) (Or.inl ⟨by rfl, ?_⟩) (by assumption) ?_
        rotate_left 1
        · (intro w hSw; (try dsimp only at hSw); first | (go_simp; done) | (go_simp; with_reducible rfl))
        try simp only [Act.put, List.setIfInBounds_toArray, List.set_cons_zero, List.set_cons_succ, List.getElem_toArray, List.getElem_cons_zero, List.getElem_cons_succ]
        refine wpAnyH_ready (rs := [13]) (by kernel_rfl) (by simp) ?_
        refine AllReadyH.cons rfl (fun K hK => ?_) AllReadyH.nil
        go_simp
        try go_wp2_with fail
        refine hK.out _ _ trivial (fun hHeld => ?_)
        clear hK K
        try simp only [Act.put, List.setIfInBounds_toArray, List.set_cons_zero, List.set_cons_succ, List.getElem_toArray, List.getElem_cons_zero, List.getElem_cons_succ]
        refine wpAnyH_done (by kernel_rfl) ?_ _
        go_wp2_with fail
        have hgG : gg ≠ w.heap.size + 1 := by
          rcases hat with h | h
          · intro e; have := (World.ownsRow.lt HOWN.out gg h).1; omega
          · omega
        have hE1 : (ring k k).take (i + 1) = (ring k k).take i ++ [ringE k k i] := take_succ' (ring_at HI.out)
        have hO1 : w3.ownsRow (w.heap.size + 2) 51 3 (.slice (some ⟨gg, 0, none⟩) (i + 1) cap1) (i + 1) (cellsL ((ring k k).take (i + 1))) := by rw [hE1, HRG.out, cellsL_snoc]; exact hown1
        have hO2 := ownsRow_setCell_other hO1 (a := ⟨w.heap.size + 1, 1, none⟩) (by simp only [Value.ownBlock]; intro e; exact hgG (Option.some.inj e)) (.slice (some ⟨gg, 0, none⟩) (i + 1) cap1)
        have hB2 : Below (w.heap.size + 1) w2 (w3.setCell ⟨w.heap.size + 1, 1, none⟩ (.slice (some ⟨gg, 0, none⟩) (i + 1) cap1)) := (((HBW.out.alloc (by have := HBS.out; omega) _).drew).grown hgrow (by have := HBS.out; simp; omega) (fun j e => by have := (World.ownsRow.lt HOWN.out j e).1; omega)).setCell (Nat.le_refl _) _
        have hG3 := (hgrow.block (w.heap.size + 1) (by simp; omega) (fun e => by have := (World.ownsRow.lt HOWN.out (w.heap.size + 1) e.symm).1; omega)).trans ((hW.block (w.heap.size + 1) (by omega)).trans HBLK.out)
        have hG4 := heap_setCell_same w3 (w.heap.size + 1) 1 _ _ (.slice (some ⟨gg, 0, none⟩) (i + 1) cap1) hG3
        go_roundg (k - i)
        case measure => have := HIM.out; have := HI.out; omega
        case rel => exact ⟨i + 1, .slice (some ⟨gg, 0, none⟩) (i + 1) cap1, by have := HIM.out; have := HI.out; omega, by have := HI.out; omega, by first | (rw [HI1.out]; done) | go_num, by simpa using hG4, hO2, hB2⟩
      · go_simp
        try go_wp2_with fail
        refine hK.out _ _ trivial (fun hHeld => ?_)
        clear hK K
        try simp only [Act.put, List.setIfInBounds_toArray, List.set_cons_zero, List.set_cons_succ, List.getElem_toArray, List.getElem_cons_zero, List.getElem_cons_succ]
        refine wpAnyH_ready (rs := [1]) (by kernel_rfl) (by simp) ?_
        refine AllReadyH.cons rfl (fun K hK => ?_) AllReadyH.nil
        go_simp
        try go_wp2_with fail
        refine hK.out _ _ trivial (fun hHeld => ?_)
        clear hK K
        try simp only [Act.put, List.setIfInBounds_toArray, List.set_cons_zero, List.set_cons_succ, List.getElem_toArray, List.getElem_cons_zero, List.getElem_cons_succ]
        refine wpAnyH_ready (rs := [11]) (by kernel_rfl) (by simp) ?_
        refine AllReadyH.cons rfl (fun K hK => ?_) AllReadyH.nil
        refine step_append_lies _ (by rfl) _ _ _ (by rfl) (w.heap.size + 2) 51 i0 _ 3 24 Tryd.underlying22 hi hz0 hz1 hz2 rfl (by omega) (.slice aoE i capE) i (cellsL ((ring k k).take i)) (by rfl) ((HOWN.out.alloc _).drew) ⟨wr.heap.size, 0, none⟩ 1 1 [.int .i64 FF, .int .i64 TT, .int .u64 0] (by rfl) (by rfl) (World.news_of_block (cs := #[.int .i64 FF, .int .i64 TT, .int .u64 0]) (t := 51) (fr := (0, 0)) (heap_alloc_new wr _)) (by simp [Value.oneCell']) (by omega) (by unfold maxLen; omega) (by omega) (by simp; omega) (wr.heap.size + 1) (by simp) ?_
        intro gg cap1 w3 hown1 hgrow hat hlt
        have y1 := (hgrow.cell_far ⟨w.heap.size + 1, 1, none⟩ (by simp; omega) (fun e => by have := (World.ownsRow.lt HOWN.out (w.heap.size + 1) e.symm).1; omega)).trans ((hW.cell (p := ⟨w.heap.size + 1, 1, none⟩) (by omega)).trans z1)
        have yf := (hgrow.frozen_far ⟨w.heap.size + 1, 1, none⟩ (by simp; omega) (fun e => by have := (World.ownsRow.lt HOWN.out (w.heap.size + 1) e.symm).1; omega)).trans ((hW.frozen (p := ⟨w.heap.size + 1, 1, none⟩) (by omega)).trans zf1)
        try go_wp2_with fail
        refine hK.out _ _ trivial (fun hHeld => ?_)
        clear hK K
        try simp only [Act.put, List.setIfInBounds_toArray, List.set_cons_zero, List.set_cons_succ, List.getElem_toArray, List.getElem_cons_zero, List.getElem_cons_succ]
        refine wpAnyH_take (i := 12) (v := ?_) rfl (by kernel_rfl) (by kernel_rfl) (by kernel_rfl) (fun _ _ _ h => h) (Or.inl ⟨by rfl, ?_⟩) (by assumption) ?_
        rotate_left 1
        · (intro w hSw; (try dsimp only at hSw); first | (go_simp; done) | (go_simp; with_reducible rfl))
        try simp only [Act.put, List.setIfInBounds_toArray, List.set_cons_zero, List.set_cons_succ, List.getElem_toArray, List.getElem_cons_zero, List.getElem_cons_succ]
        refine wpAnyH_ready (rs := [13]) (by kernel_rfl) (by simp) ?_
        refine AllReadyH.cons rfl (fun K hK => ?_) AllReadyH.nil
        go_simp
        try go_wp2_with fail
        refine hK.out _ _ trivial (fun hHeld => ?_)
        clear hK K
        try simp only [Act.put, List.setIfInBounds_toArray, List.set_cons_zero, List.set_cons_succ, List.getElem_toArray, List.getElem_cons_zero, List.getElem_cons_succ]
        refine wpAnyH_done (by kernel_rfl) ?_ _
        go_wp2_with fail
        have hgG : gg ≠ w.heap.size + 1 := by
          rcases hat with h | h
          · intro e; have := (World.ownsRow.lt HOWN.out gg h).1; omega
          · omega
        have hE1 : (ring k k).take (i + 1) = (ring k k).take i ++ [ringE k k i] := take_succ' (ring_at HI.out)
        have hO1 : w3.ownsRow (w.heap.size + 2) 51 3 (.slice (some ⟨gg, 0, none⟩) (i + 1) cap1) (i + 1) (cellsL ((ring k k).take (i + 1))) := by rw [hE1, HRG.out, cellsL_snoc]; exact hown1
        have hO2 := ownsRow_setCell_other hO1 (a := ⟨w.heap.size + 1, 1, none⟩) (by simp only [Value.ownBlock]; intro e; exact hgG (Option.some.inj e)) (.slice (some ⟨gg, 0, none⟩) (i + 1) cap1)
        have hB2 : Below (w.heap.size + 1) w2 (w3.setCell ⟨w.heap.size + 1, 1, none⟩ (.slice (some ⟨gg, 0, none⟩) (i + 1) cap1)) := (((HBW.out.alloc (by have := HBS.out; omega) _).drew).grown hgrow (by have := HBS.out; simp; omega) (fun j e => by have := (World.ownsRow.lt HOWN.out j e).1; omega)).setCell (Nat.le_refl _) _
        have hG3 := (hgrow.block (w.heap.size + 1) (by simp; omega) (fun e => by have := (World.ownsRow.lt HOWN.out (w.heap.size + 1) e.symm).1; omega)).trans ((hW.block (w.heap.size + 1) (by omega)).trans HBLK.out)
        have hG4 := heap_setCell_same w3 (w.heap.size + 1) 1 _ _ (.slice (some ⟨gg, 0, none⟩) (i + 1) cap1) hG3
        go_roundg (k - i)
        case measure => have := HIM.out; have := HI.out; omega
        case rel => exact ⟨i + 1, .slice (some ⟨gg, 0, none⟩) (i + 1) cap1, by have := HIM.out; have := HI.out; omega, by have := HI.out; omega, by first | (rw [HI1.out]; done) | go_num, by simpa using hG4, hO2, hB2⟩
    · have hik2 : k = i := by omega
      subst hik2
      have hO : Own wr (w.heap.size + 2) 51 (.slice aoE k capE) (ring k k) := by
        have := HOWN.out
        rw [List.take_of_length_le (by rw [ring_length]; exact Nat.le_refl _)] at this
        unfold Own
        rw [ring_length]
        exact this
      obtain ⟨g, hao, hgb, hglt⟩ : ∃ g, aoE = some ⟨g, 0, none⟩ ∧ w.heap.size + 2 ≤ g ∧ g < wr.heap.size := by
        rcases hO.form with ⟨h, _⟩ | ⟨g, cap, hv, hb, hlt, _⟩
        · have := ring_length k k
          rw [h] at this
          simp at this
          omega
        · simp only [Value.slice.injEq] at hv
          exact ⟨g, hv.1, hb, hlt⟩
      subst hao
      have HG := Lib.hid (show GMemP wr (.slice (some ⟨g, 0, none⟩) k capE) (.slice (some ⟨w.heap.size, 0, none⟩) 1 1) (ring k k) [0] from ⟨hO.rd (ring_wf hk9), rdi_at HIN.out HBW.out (Nat.lt_succ_self _)⟩)
      have HO := Lib.hid hO
      have HGB := Lib.hid (And.intro hgb hglt)
      have HX := Lib.hid HBLK.out
      have HB := Lib.hid (HBW0.out.trans (HBW.out.mono (Nat.le_succ _)))
      have HLEN0 := Lib.hid (show (ring k k).length ≤ 100000 by rw [ring_length]; omega)
      clear HIM HBLK HBW HOWN HIN HBW0 hO zf1 hik
      go_upto_region 7 with fail
      go_wp2_with fail
      go_at_call 9
      refine (gto_any ((k : Int) + 2) HG.out HLEN0.out (by simp)).mono ?_
      rintro e w3 ⟨ve3, vi3, rfl, hg3, hb⟩
      have HG3 := Lib.hid hg3
      replace HO := Lib.hid (HO.out.below hb)
      replace HX := Lib.hid ((hb.block _ (Array.getElem?_eq_some_iff.1 HX.out).1).trans HX.out)
      replace HG := Lib.hid (HG.out.below hb)
      replace HB := Lib.hid (HB.out.trans (hb.mono HB.out.size))
      clear hg3 hb z0 z1 z2
      go_wp2_with fail
      go_at_call 8
      refine (check_any _ HG3.out.ed HG3.out.inp).mono ?_
      rintro e w4 ⟨v4, rfl, her, hb⟩
      rw [show chkV ((k : Int) + 2) (ring k k) [0] = ([(portS, 1)], 3) from ring_chk hk1 hk9] at her
      replace HO := Lib.hid (HO.out.below hb)
      replace HX := Lib.hid ((hb.block _ (Array.getElem?_eq_some_iff.1 HX.out).1).trans HX.out)
      replace HG := Lib.hid (HG.out.below hb)
      replace HB := Lib.hid (HB.out.trans (hb.mono HB.out.size))
      have hch : Chain w4 v4 [(portS, 1)] (errnoV 3) ∧ ∃ u x, v4 = .iface u x := by
        rcases her with ⟨h, _⟩ | ⟨_, h⟩
        · exact absurd h (by decide)
        · exact h
      obtain ⟨hch, u5, x5, rfl⟩ := hch
      have HCH := Lib.hid hch
      obtain ⟨z0, z1, z2, _⟩ := three_cells HX.out
      obtain ⟨a, hak, ha1, ha2⟩ := aval at_ k hk1 hk9
      have hku : IntKind.u64.wrap (k : Int) = (k : Int) := u64_id (by omega) (by omega)
      have hkn : ¬ k = 0 := by omega
      have ha0 : (0 : Int) ≤ (a : Int) := Int.natCast_nonneg _
      have ha3 : (a : Int) < (k : Int) := by omega
      have c2 := (HO.out.at (ring_at (a := k) hak)).2.2
      have cf := HO.out.free (a * 3 + 2)
      rw [show (ringE k k a).a = 0 by unfold ringE; exact if_neg (by omega)] at c2
      have hgs : g < w4.heap.size := Lib.lt_of_cell c2
      clear her hb hch HG3
      go_upto_region 8 with fail
      go_region
      have HC2 := Lib.hid c2
      have hcap := capof HO.out
      obtain ⟨w5, hw5⟩ : ∃ w5, w5 = (w4.setCell ⟨g, a * 3 + 2, none⟩ (.int .u64 1)).drew := ⟨_, rfl⟩
      have hgm5 : GMemP w5 (.slice (some ⟨g, 0, none⟩) k capE) (.slice (some ⟨w.heap.size, 0, none⟩) 1 1) (ring k a) [0] := by
        rw [hw5]
        refine ⟨rd_ring_set hk9 hcap.1 hcap.2 (fun i hi => HO.out.at (ring_at hi)) hak, ?_⟩
        exact rdi_at HG.out.inp (((Below.refl (w.heap.size + 2) w4).setCell (show w.heap.size + 2 ≤ g from HGB.out.1) _).drew) (by omega)
      have hx5 : w5.heap[w.heap.size + 1]? = some (.cells #[.int .i64 ((k : Int) + 2), .slice (some ⟨g, 0, none⟩) k capE, .slice (some ⟨w.heap.size, 0, none⟩) 1 1] 25 (0, 0)) := by
        rw [hw5]
        exact (Below.heap_setCell w4 _ _ _ (by have := HGB.out.1; show w.heap.size + 1 ≠ g; omega)).trans HX.out
      have hb5 : Below w.heap.size w w5 := by rw [hw5]; exact (HB.out.setCell (by have := HGB.out.1; show w.heap.size ≤ g; omega) _).drew
      have hch5 : Chain w5 (.iface u5 x5) [(portS, 1)] (errnoV 3) := by rw [hw5]; exact (chain1_set HCH.out HC2.out _).below ((Below.refl _ _).drew)
      replace HG := Lib.hid hgm5
      replace HX := Lib.hid hx5
      replace HB := Lib.hid hb5
      replace HCH := Lib.hid hch5
      clear hgm5 hx5 hb5 hch5 HC2 c2 cf hgs HO HGB z0 z1 z2 ha1 ha2
      have HLEN := Lib.hid (show (ring k a).length ≤ 100000 by rw [ring_length]; omega)
      obtain ⟨S, hS, hST⟩ := p1_text
      have HST := Lib.hid hST
      have hpc : ((k + 2 : Nat) : Int) = (k : Int) + 2 := by omega
      have hk2 : wrap64 ((k : Int) + 2) = (k : Int) + 2 := by unfold wrap64; omega
      have HOK := Lib.hid (ring_ok hk1 hk9 hak)
      have hok0 : chkV ((k : Int) + 2) (ring k a) [0] = ([], 0) := by rw [← hpc]; exact HOK.out.chk
      have HOK0 := Lib.hid hok0
      clear hST hok0
      obtain ⟨z0, z1, z2, _⟩ := three_cells HX.out
      go_upto_region 9 with fail
      rw [← hw5]
      clear hw5
      go_wp2_with fail
      go_at_call 9
      refine (gto_any ((k : Int) + 2) HG.out HLEN.out (by simp)).mono ?_
      rintro e w6 ⟨ve6, vi6, rfl, hg3, hb⟩
      have HG3 := Lib.hid hg3
      replace HX := Lib.hid ((hb.block _ (Array.getElem?_eq_some_iff.1 HX.out).1).trans HX.out)
      replace HG := Lib.hid (HG.out.below hb)
      replace HCH := Lib.hid (HCH.out.below hb)
      replace HB := Lib.hid (HB.out.trans (hb.mono HB.out.size))
      clear hg3 hb z0 z1 z2
      have hpp := paths_any (n := k + 2) HG3.out.ed HG3.out.inp HOK.out
      rw [hpc] at hpp
      go_wp2_with fail
      go_at_call 14
      refine hpp.mono ?_
      rintro e w7 ⟨v7, M, rfl, ⟨gp, rp, rfl, _⟩, _, hb⟩
      replace HX := Lib.hid ((hb.block _ (Array.getElem?_eq_some_iff.1 HX.out).1).trans HX.out)
      replace HG := Lib.hid (HG.out.below hb)
      replace HCH := Lib.hid (HCH.out.below hb)
      replace HB := Lib.hid (HB.out.trans (hb.mono HB.out.size))
      clear hpp hb HG3
      go_wp2_with fail
      go_at_call 11
      refine (gtold_any _ (HL.out.below HB.out)).mono ?_
      rintro e w8 ⟨rfl, hb⟩
      replace HX := Lib.hid ((hb.block _ (Array.getElem?_eq_some_iff.1 HX.out).1).trans HX.out)
      replace HG := Lib.hid (HG.out.below hb)
      replace HCH := Lib.hid (HCH.out.below hb)
      replace HB := Lib.hid (HB.out.trans (hb.mono HB.out.size))
      clear hb
      go_wp2_with fail
      go_at_call 16
      refine (HST.out _ _ (HL.out.below HB.out) HCH.out).mono ?_
      rintro e w9 ⟨rfl, hb⟩
      replace HX := Lib.hid ((hb.block _ (Array.getElem?_eq_some_iff.1 HX.out).1).trans HX.out)
      replace HG := Lib.hid (HG.out.below hb)
      replace HCH := Lib.hid (HCH.out.below hb)
      replace HB := Lib.hid (HB.out.trans (hb.mono HB.out.size))
      clear hb
      go_wp2_with fail
      go_at_call 20
      refine (is_errno_k 3 3 (by decide) HCH.out).mono ?_
      rintro e wA ⟨rfl, hb⟩
      replace HX := Lib.hid ((hb.block _ (Array.getElem?_eq_some_iff.1 HX.out).1).trans HX.out)
      replace HG := Lib.hid (HG.out.below hb)
      replace HB := Lib.hid (HB.out.trans (hb.mono HB.out.size))
      clear hb HCH
      obtain ⟨z0, z1, z2, _⟩ := three_cells HX.out
      go_wp2_with fail
      go_at_call 9
      refine (gto_any ((k : Int) + 2) HG.out HLEN.out (by simp)).mono ?_
      rintro e wB ⟨veB, viB, rfl, hg3, hb⟩
      have HG3 := Lib.hid hg3
      replace HB := Lib.hid (HB.out.trans (hb.mono HB.out.size))
      clear hg3 hb z0 z1 z2 HX HG
      go_wp2_with fail
      go_at_call 8
      refine (check_any _ HG3.out.ed HG3.out.inp).mono ?_
      rintro e wC ⟨vC, rfl, her, hb⟩
      have hnil : vC = .nilIface := by
        rw [HOK0.out] at her
        rcases her with ⟨_, _, h⟩ | ⟨h, _⟩
        · exact h
        · exact absurd rfl h
      subst hnil
      replace HB := Lib.hid (HB.out.trans (hb.mono HB.out.size))
      clear her hb HG3
      go_wp2_with fail
      go_ret
      exact ⟨by first | rfl | simp [hpc], HB.out⟩
end Go.Proofs.YtkcmeklgnbejiaaDoor.Gr
