/-
  PACKAGE model: Shown, show. (gen/mdshow.py)
-/
import Derived.Test.YtdllgeanmlmmfaaGreatDoorJoined20
import Derived.Test.YtdllgeanmlmmfaaGreatDoorJoined21
namespace Go.Proofs.YtdllgeanmlmmfaaGreatDoor.Md
open Go.RowKit Gr Cl
set_option linter.unusedVariables false
set_option linter.unusedSimpArgs false
/-- The front of a port, of what is there. -/
def frStep (M : Nat → Nat → Int) (n p : Nat) (v : Int) (x : Batch.Ch) : Int := if 0 ≤ x.p ∧ x.p < (n : Int) then min v (plusN x.t (M x.p.toNat p)) else v
def frontV (B : List Batch.Ch) (M : Nat → Nat → Int) (n p : Nat) : Int := B.foldl (frStep M n p) 18446744073709551615
theorem frontV_is {B : List Batch.Ch} {M : Nat → Nat → Int} {n p : Nat} (hb : ∀ x ∈ B, 0 ≤ x.p → x.p < n → 0 ≤ plusN x.t (M x.p.toNat p)) : Fr.FrontU B M n p (frontV B M n p) := by
  suffices H : ∀ i, i ≤ B.length → Fr.FrontU (B.take i) M n p ((B.take i).foldl (frStep M n p) 18446744073709551615) by
    have := H B.length (Nat.le_refl _)
    rw [List.take_length] at this
    exact this
  intro i
  induction i with
  | zero => intro _; exact Fr.FrontU.nil M n p
  | succ i ih =>
    intro hi
    have hx : B[i]? = some B[i] := List.getElem?_eq_getElem (by omega)
    have h := ih (by omega)
    have e : B.take (i + 1) = B.take i ++ [B[i]] := by rw [List.take_add_one, hx]; rfl
    have e2 : (B.take (i + 1)).foldl (frStep M n p) 18446744073709551615 = frStep M n p ((B.take i).foldl (frStep M n p) 18446744073709551615) B[i] := by rw [e, List.foldl_append]; rfl
    rw [e2]
    unfold frStep
    by_cases hc : 0 ≤ B[i].p ∧ B[i].p < (n : Int)
    · rw [if_pos hc]
      exact Fr.FrontU.elem hx hc.1 hc.2 (hb _ (List.getElem_mem _) hc.1 hc.2) h
    · rw [if_neg hc]
      exact Fr.FrontU.skip hx hc h
/-- Times, as they read, in memory from n on. -/
def TmR (w : World) (n : Nat) (v : Value) (ts : List Int) : Prop := ∃ g c, v = .slice (some ⟨g, 0, none⟩) ts.length c ∧ n ≤ g ∧ ∀ (j : Nat) x, ts[j]? = some x → w.cell? ⟨g, j, none⟩ = some (.int .u64 x)
theorem TmR.far {w : World} {n k o : Nat} {v : Value} {ts : List Int} (h : TmR w n v ts) (hk : k < n) (u : Value) : TmR (w.setCell ⟨k, o, none⟩ u) n v ts := by
  obtain ⟨g, c, e, h1, h2⟩ := h
  exact ⟨g, c, e, h1, fun j x hx => (World.cell?_setCell_far _ _ _ _ (show k ≠ g by omega)).trans (h2 j x hx)⟩
theorem TmR.mono {w : World} {n n' : Nat} {v : Value} {ts : List Int} (h : TmR w n v ts) (hn : n' ≤ n) : TmR w n' v ts := by
  obtain ⟨g, c, e, h1, h2⟩ := h
  exact ⟨g, c, e, Nat.le_trans hn h1, h2⟩
theorem plusN_bd {x y : Int} (hx : 0 ≤ x ∧ x ≤ 18446744073709551615) (hy : 0 ≤ y ∧ y ≤ 18446744073709551615) : 0 ≤ plusN x y ∧ plusN x y ≤ 18446744073709551615 := by unfold plusN; split <;> omega
def shownL (s : Ms) : List Int := (List.range s.p).map s.shown
theorem shownL_at {s : Ms} {j : Nat} {x : Int} (h : (shownL s)[j]? = some x) : j < s.p ∧ x = s.shown j := by
  have hj : j < s.p := by have := (List.getElem?_eq_some_iff.1 h).1; simpa [shownL] using this
  unfold shownL at h
  rw [List.getElem?_map, List.getElem?_range hj] at h
  exact ⟨hj, (Option.some.inj h).symm⟩
section
variable {τ : Nat → Nat} {w w' : World} {b : Nat} {c : Mc} {tv : List Tv} {s : Ms}
set_option maxRecDepth 1000000 in
set_option maxHeartbeats 16000000 in
theorem mdShown_any (h : MdAt τ w b c tv s) (h1 : 1 ≤ s.p) (h2 : s.p ≤ 64) :
    Calls Tryz.prog 14 #[.pointer (some ⟨b, 0, none⟩)] w fun e w' => ∃ a c, e = .returned (.slice a (shownL s).length c) ∧ TmR w' w.heap.size (.slice a (shownL s).length c) (shownL s) ∧ Below w.heap.size w w' := by
  obtain ⟨i0, hi, hz0, hz1, hz2⟩ := Gr.info_parts infoU
  obtain ⟨g, o, hsh, hcs⟩ := h.sh
  have hlen : (shownL s).length = s.p := by simp [shownL]
  have y0 := h.mc.c7
  rw [hsh, h.pp] at y0
  have HCL := Lib.hid (Tryz.slices_Clone i0 (.int .u64 0) 1 8 hi hz0 hz1 hz2 rfl (by decide) Tryz.sizeOf50 g o s.p c.csh ((shownL s).map fun x => Value.int .u64 x) w (by rw [List.length_map, hlen, Nat.mul_one]) (by unfold maxLen; omega) (by omega) (fun j u hu => by
    rw [List.getElem?_map] at hu
    obtain ⟨x, hx, rfl⟩ := Option.map_eq_some_iff.1 hu
    obtain ⟨hj, rfl⟩ := shownL_at hx
    exact hcs j (by rw [h.pp]; exact hj)) (fun u hu => by obtain ⟨x, _, rfl⟩ := List.mem_map.1 hu; rfl))
  have HL := Lib.hid (And.intro hlen h1)
  clear h h1 h2 hi hz0 hz1 hz2 hsh hcs hlen
  go_enter Tryz.func14, Tryz.ntmps14
  go_wp2_with fail
  go_at_call 44
  refine HCL.out.mono ?_
  rintro e w1 ⟨v, rfl, ho, hn, hb⟩
  obtain ⟨g1, c1, rfl, hg1, _⟩ := ho.form (by have := HL.out.2; omega)
  have HT := Lib.hid (show TmR w1 w.heap.size (.slice (some ⟨g1, 0, none⟩) (shownL s).length c1) (shownL s) from ⟨g1, c1, rfl, hg1, fun j x hx => by
    have := World.ownsRow.cells ho (g := g1) rfl j (.int .u64 x) (by rw [List.getElem?_map, hx]; rfl)
    rwa [show ((⟨g1, 0, none⟩ : Addr).add j) = ⟨g1, j, none⟩ by unfold Addr.add; split <;> simp_all] at this⟩)
  have HB := Lib.hid hb
  clear ho hn hb
  go_wp2_with fail
  go_ret
  exact ⟨some ⟨g1, 0, none⟩, c1, congrArg (fun n => Ending.returned (Value.slice (some ⟨g1, 0, none⟩) n c1)) HL.out.1.symm, HT.out, HB.out⟩
/-- What a Show is answered, and what there is then. -/
def showV (s : Ms) : (Int × Int × List Int) × Ms :=
  if Batch.applyE s.folded s.staged ≠ 0 then ((0, Batch.applyE s.folded s.staged, []), s)
  else ((0, 0, (List.range s.p).map (frontV (Batch.applyR s.folded s.staged) s.D s.p)), { s with folded := Batch.applyR s.folded s.staged, staged := [], shown := frontV (Batch.applyR s.folded s.staged) s.D s.p })
def AnT (τ : Nat → Nat) (w : World) (b : Nat) (V : (Int × Int × List Int) × Ms) (e : Ending) (w' : World) : Prop :=
  ∃ a k, e = .returned (.agg #[.int .i64 V.1.1, .int .i64 V.1.2.1, .slice a V.1.2.2.length k]) ∧ (V.1.2.2 = [] ∧ a = none ∨ TmR w' w.heap.size (.slice a V.1.2.2.length k) V.1.2.2) ∧ MdP τ w b V.2 w'
set_option maxRecDepth 1000000 in
set_option maxHeartbeats 16000000 in
theorem mdShow_any (h : MdAt τ w b c tv s) (hs1 : Batch.RightP s.folded) (hs2 : Batch.RightP s.staged) (hl : s.folded.length + s.staged.length ≤ 100000) (hwf : ∀ x ∈ Batch.applyR s.folded s.staged, x.Wf) (hrs : (Batch.applyR s.folded s.staged).Pairwise Batch.Lt) (hrl : (Batch.applyR s.folded s.staged).length ≤ 100000) (hD : ∀ i j, i < s.p → j < s.p → 0 ≤ s.D i j ∧ s.D i j ≤ 18446744073709551615) (hp1 : 1 ≤ s.p) (hp2 : s.p ≤ 64) :
    Calls Tryz.prog 39 #[.pointer (some ⟨b, 0, none⟩)] w (AnT τ w b (showV s)) := by
  obtain ⟨w1, hw1⟩ : ∃ w1, w1 = w.alloc (.cells #[.int .i64 0, .int .i64 0, .slice none 0 0] 48) := ⟨_, rfl⟩
  have hb1 : Below w.heap.size w w1 := by rw [hw1]; exact (Below.refl _ _).alloc (Nat.le_refl _) _
  have HZ := Lib.hid (show w1.heap[w.heap.size]? = some (.cells #[.int .i64 0, .int .i64 0, .slice none 0 0] 48 (0, 0)) by rw [hw1]; exact heap_alloc_new w _)
  have HS1 := Lib.hid (show w1.heap.size = w.heap.size + 1 by rw [hw1]; simp)
  have hm1 := h.below hb1
  have HM := Lib.hid hm1
  have HB1 := Lib.hid hb1
  have t0 : τ w.heap.size = 0 := Classical.byContradiction fun h' => absurd (h.tz _ h') (Nat.lt_irrefl _)
  have HT0 := Lib.hid t0
  have hmd := hm1.below (below_drewN (Below.refl w1.heap.size w1) 1)
  have hsl1 := hmd.folded.out
  have hsl2 := hmd.staged.out
  have HWF := Lib.hid hwf
  have hmg := Batch.apply_any hsl1 hsl2 hs1 hs2 hl
  have y0 := hm1.mc.c6
  have y1 := hm1.mc.c5
  obtain ⟨sa, sc, hsv, _⟩ := id hsl1
  obtain ⟨pa, pc, hpv, _⟩ := id hsl2
  rw [hsv] at y0 hmg
  rw [hpv] at y1 hmg
  have HMD := Lib.hid hmg
  have HY := Lib.hid (And.intro y0 y1)
  have HP := Lib.hid (And.intro hrs (And.intro hrl (And.intro hD (And.intro hp1 hp2))))
  clear h hb1 hm1 hmd hsl1 hsl2 hs1 hs2 hl hmg hsv hpv t0 hwf hrs hrl hD hp1 hp2
  go_enter Tryz.func39, Tryz.ntmps39
  go_upto_region 1 with fail
  rw [← hw1]
  clear hw1
  refine wp_region_held_drew (S := (fun w' => w'.cell? ⟨b, 6, none⟩ = some (.slice sa s.folded.length sc) ∧ w'.cell? ⟨b, 5, none⟩ = some (.slice pa s.staged.length pc))) (by kernel_rfl) ?_ (fun hHeld => ?_)
  · ((try dsimp only); exact ⟨y0, y1⟩)
  refine wpAnyH_take (i := 0) (v := ?_) rfl (by kernel_rfl) (by kernel_rfl) (by kernel_rfl) (fun _ _ _ h => h) (Or.inl ⟨by rfl, ?_⟩) (by assumption) ?_
  rotate_left 1
  · (intro w hSw; (try dsimp only at hSw); first | (go_simp; done) | (go_simp; with_reducible rfl))
  try simp only [Act.put, List.setIfInBounds_toArray, List.set_cons_zero, List.set_cons_succ, List.getElem_toArray, List.getElem_cons_zero]
  refine wpAnyH_take (i := 1) (v := ?_) rfl (by kernel_rfl) (by kernel_rfl) (by kernel_rfl) (fun _ _ _ h => h) (Or.inl ⟨by rfl, ?_⟩) (by assumption) ?_
  rotate_left 1
  · (intro w hSw; (try dsimp only at hSw); first | (go_simp; done) | (go_simp; with_reducible rfl))
  try simp only [Act.put, List.setIfInBounds_toArray, List.set_cons_zero, List.set_cons_succ, List.getElem_toArray, List.getElem_cons_zero, List.getElem_cons_succ]
  refine wpAnyH_take (i := 2) (v := ?_) rfl (by kernel_rfl) (by kernel_rfl) (by kernel_rfl) (fun _ _ _ h => h) (Or.inl ⟨by rfl, ?_⟩) (by assumption) ?_
  rotate_left 1
  · (intro w hSw; (try dsimp only at hSw); first | (go_simp; done) | (go_simp; with_reducible rfl))
  try simp only [Act.put, List.setIfInBounds_toArray, List.set_cons_zero, List.set_cons_succ, List.getElem_toArray, List.getElem_cons_zero, List.getElem_cons_succ]
  refine wpAnyH_take (i := 3) (v := ?_) rfl (by kernel_rfl) (by kernel_rfl) (by kernel_rfl) (fun _ _ _ h => h) (Or.inl ⟨by rfl, ?_⟩) (by assumption) ?_
  rotate_left 1
  · (intro w hSw; (try dsimp only at hSw); first | (go_simp; done) | (go_simp; with_reducible rfl))
  try simp only [Act.put, List.setIfInBounds_toArray, List.set_cons_zero, List.set_cons_succ, List.getElem_toArray, List.getElem_cons_zero, List.getElem_cons_succ]
  refine wpAnyH_take (i := 4) (v := ?_) rfl (by kernel_rfl) (by kernel_rfl) (by kernel_rfl) (fun _ _ _ h => h) (Or.inl ⟨by rfl, ?_⟩) (by assumption) ?_
  rotate_left 1
  · (intro w hSw; (try dsimp only at hSw); first | (go_simp; done) | (go_simp; with_reducible rfl))
  try simp only [Act.put, List.setIfInBounds_toArray, List.set_cons_zero, List.set_cons_succ, List.getElem_toArray, List.getElem_cons_zero, List.getElem_cons_succ]
  refine wpAnyH_take (i := 5) (v := ?_) rfl (by kernel_rfl) (by kernel_rfl) (by kernel_rfl) (fun _ _ _ h => h) (Or.inl ⟨by rfl, ?_⟩) (by assumption) ?_
  rotate_left 1
  · (intro w hSw; (try dsimp only at hSw); first | (go_simp; done) | (go_simp; with_reducible rfl))
  try simp only [Act.put, List.setIfInBounds_toArray, List.set_cons_zero, List.set_cons_succ, List.getElem_toArray, List.getElem_cons_zero, List.getElem_cons_succ]
  refine wpAnyH_take (i := 6) (v := ?_) rfl (by kernel_rfl) (by kernel_rfl) (by kernel_rfl) (fun _ _ _ h => h) (Or.inl ⟨by rfl, ?_⟩) (by assumption) ?_
  rotate_left 1
  · (intro w hSw; (try dsimp only at hSw); first | (go_simp; done) | (go_simp; with_reducible rfl))
  try simp only [Act.put, List.setIfInBounds_toArray, List.set_cons_zero, List.set_cons_succ, List.getElem_toArray, List.getElem_cons_zero, List.getElem_cons_succ]
  refine wpAnyH_take (i := 7) (v := ?_) rfl (by kernel_rfl) (by kernel_rfl) (by kernel_rfl) (fun _ _ _ h => h) (Or.inl ⟨by rfl, ?_⟩) (by assumption) ?_
  rotate_left 1
  · (intro w hSw; (try dsimp only at hSw); first | (go_simp; done) | (go_simp; with_reducible rfl))
  try simp only [Act.put, List.setIfInBounds_toArray, List.set_cons_zero, List.set_cons_succ, List.getElem_toArray, List.getElem_cons_zero, List.getElem_cons_succ]
  refine wpAnyH_ready (rs := [8]) (by kernel_rfl) (by simp) ?_
  refine AllReadyH.cons rfl (fun K hK => ?_) AllReadyH.nil
  go_simp
  go_at_call 70
  refine (HMD.out).mono ?_
  rintro e w2 ⟨v, rfl, ho, hb⟩
  obtain ⟨va, vc, rfl⟩ : ∃ a c, v = .slice a (Batch.applyR s.folded s.staged).length c := by
    obtain ⟨a, c, h, _⟩ := ho.sl HWF.out
    exact ⟨a, c, h⟩
  have hbq : Below w1.heap.size w1 w2 := (below_drewN (Below.refl w1.heap.size w1) 1).trans hb
  have HO := Lib.hid ho
  have HB2 := Lib.hid hbq
  clear ho hb
  try go_wp2_with fail
  refine hK.out _ _ ?_ (fun hHeld => ?_)
  · ((try dsimp only); exact ⟨(hbq.cell (p := ⟨b, 6, none⟩) (Lib.lt_of_cell HY.out.1)).trans HY.out.1, (hbq.cell (p := ⟨b, 5, none⟩) (Lib.lt_of_cell HY.out.2)).trans HY.out.2⟩)
  clear hK K
  try simp only [Act.put, List.setIfInBounds_toArray, List.set_cons_zero, List.set_cons_succ, List.getElem_toArray, List.getElem_cons_zero, List.getElem_cons_succ]
  refine wpAnyH_take (i := 9) (v := ?_) rfl (by kernel_rfl) (by kernel_rfl) (by kernel_rfl) (fun _ _ _ h => h) (Or.inl ⟨by rfl, ?_⟩) (by assumption) ?_
  rotate_left 1
  · (intro w hSw; (try dsimp only at hSw); first | (go_simp; done) | (go_simp; with_reducible rfl))
  try simp only [Act.put, List.setIfInBounds_toArray, List.set_cons_zero, List.set_cons_succ, List.getElem_toArray, List.getElem_cons_zero, List.getElem_cons_succ]
  refine wpAnyH_take (i := 10) (v := ?_) rfl (by kernel_rfl) (by kernel_rfl) (by kernel_rfl) (fun _ _ _ h => h) (Or.inl ⟨by rfl, ?_⟩) (by assumption) ?_
  rotate_left 1
  · (intro w hSw; (try dsimp only at hSw); first | (go_simp; done) | (go_simp; with_reducible rfl))
  try simp only [Act.put, List.setIfInBounds_toArray, List.set_cons_zero, List.set_cons_succ, List.getElem_toArray, List.getElem_cons_zero, List.getElem_cons_succ]
  refine wpAnyH_take (i := 11) (v := ?_) rfl (by kernel_rfl) (by kernel_rfl) (by kernel_rfl) (fun _ _ _ h => h) (Or.inl ⟨by rfl, ?_⟩) (by assumption) ?_
  rotate_left 1
  · (intro w hSw; (try dsimp only at hSw); first | (go_simp; done) | (go_simp; with_reducible rfl))
  try simp only [Act.put, List.setIfInBounds_toArray, List.set_cons_zero, List.set_cons_succ, List.getElem_toArray, List.getElem_cons_zero, List.getElem_cons_succ]
  refine wpAnyH_take (i := 12) (v := ?_) rfl (by kernel_rfl) (by kernel_rfl) (by kernel_rfl) (fun _ _ _ h => h) (Or.inl ⟨by rfl, ?_⟩) (by assumption) ?_
  rotate_left 1
  · (intro w hSw; (try dsimp only at hSw); first | (go_simp; done) | (go_simp; with_reducible rfl))
  try simp only [Act.put, List.setIfInBounds_toArray, List.set_cons_zero, List.set_cons_succ, List.getElem_toArray, List.getElem_cons_zero, List.getElem_cons_succ]
  refine wpAnyH_take (i := 13) (v := ?_) rfl (by kernel_rfl) (by kernel_rfl) (by kernel_rfl) (fun _ _ _ h => h) (Or.inl ⟨by rfl, ?_⟩) (by assumption) ?_
  rotate_left 1
  · (intro w hSw; (try dsimp only at hSw); first | (go_simp; done) | (go_simp; with_reducible rfl))
  try simp only [Act.put, List.setIfInBounds_toArray, List.set_cons_zero, List.set_cons_succ, List.getElem_toArray, List.getElem_cons_zero, List.getElem_cons_succ]
  refine wpAnyH_done (by kernel_rfl) ?_ _
  clear hHeld y0 y1
  have HL12 := Lib.hid (show w.heap.size < w1.heap.size by rw [HS1.out]; exact Nat.lt_succ_self _)
  have HBL := Lib.hid (show b < w1.heap.size from HM.out.mc.lt)
  have HM2 := Lib.hid (And.intro (HM.out.cov HB2.out) (show StepM τ (cov τ w1.heap.size w2.heap.size) w1 w2 from StepM.cov HB2.out))
  clear hbq
  by_cases hE : Batch.applyE s.folded s.staged = 0
  · have HV := Lib.hid (show showV s = ((0, 0, (List.range s.p).map (frontV (Batch.applyR s.folded s.staged) s.D s.p)), { s with folded := Batch.applyR s.folded s.staged, staged := [], shown := frontV (Batch.applyR s.folded s.staged) s.D s.p }) by unfold showV; rw [if_neg (fun h => h hE)])
    have e6 : c.folded = .slice sa s.folded.length sc := by have := HM.out.mc.c6; rw [HY.out.1] at this; exact (Option.some.inj this).symm
    have e5 : c.staged = .slice pa s.staged.length pc := by have := HM.out.mc.c5; rw [HY.out.2] at this; exact (Option.some.inj this).symm
    have x6 := HM2.out.1.mc.c6
    have x5 := HM2.out.1.mc.c5
    rw [e6] at x6
    rw [e5] at x5
    have xf6 := HM2.out.1.mc.free 6
    have xf5 := HM2.out.1.mc.free 5
    obtain ⟨w3, hw3⟩ : ∃ w3, w3 = (w2.setCell ⟨b, 6, none⟩ (.slice va (Batch.applyR s.folded s.staged).length vc)).setCell ⟨b, 5, none⟩ (.slice none 0 0) := ⟨_, rfl⟩
    obtain ⟨τ1, hτ1⟩ : ∃ τ1, τ1 = cov τ w1.heap.size w2.heap.size := ⟨_, rfl⟩
    have hM2 := HM2.out.1
    have st12 := HM2.out.2
    rw [← hτ1] at hM2 st12
    have tb : τ1 b = 1 := hM2.tb
    have st3 : StepM τ1 τ1 w2 w3 := by rw [hw3]; exact (StepM.set (by omega) (by omega) _).trans (StepM.set (by omega) (by omega) _)
    have hoth3 : ∀ k, k ≠ b → w3.heap[k]? = w2.heap[k]? := fun k h1 => by rw [hw3]; exact (heap_setCell_other _ _ _ _ h1).trans (heap_setCell_other _ _ _ _ h1)
    have hz3 : w3.heap.size = w2.heap.size := by rw [hw3]; simp
    have hv3 : Batch.Own w3 w1.heap.size 103 (.slice va (Batch.applyR s.folded s.staged).length vc) (Batch.applyR s.folded s.staged) := own_blk HO.out fun k hk => by
      have h1 : w1.heap.size ≤ k := (own_has HO.out hk).1
      have h2 := HBL.out
      exact hoth3 k (by omega)
    have hP3 : Pers τ1 w3 (fun w => Batch.Sl w (.slice va (Batch.applyR s.folded s.staged).length vc) (Batch.applyR s.folded s.staged)) := (Pers.own hv3 fun k hk => by
      have h1 : w1.heap.size ≤ k ∧ k < w2.heap.size := own_has HO.out hk
      rw [hτ1]
      exact cov_new h1.1 h1.2).imp fun W (hW : Batch.Own W w1.heap.size _ _ _) => hW.sl HWF.out
    have hm3 : McAt w3 b { c with folded := .slice va (Batch.applyR s.folded s.staged).length vc, staged := .slice none 0 0 } := by rw [hw3]; exact heap_setCell_same _ b 5 _ _ _ (heap_setCell_same w2 b 6 _ _ _ hM2.mc)
    have hM3 : MdAt τ1 w3 b { c with folded := .slice va (Batch.applyR s.folded s.staged).length vc, staged := .slice none 0 0 } tv { s with folded := Batch.applyR s.folded s.staged, staged := [] } :=
      hM2.re st3 (fun k _ _ h2 => hoth3 k h2) (fun k hk => by rw [hz3]; exact hM2.tz k hk) hm3 rfl rfl rfl rfl (hM2.paths.size st3) (hM2.tab.size st3) (hM2.pool.size st3) (fun W _ _ => Batch.Sl.nil W) hP3 hM2.pp (hM2.shown.size st3) hM2.rm hM2.cl
    have HM3 := Lib.hid hM3
    have HST3 := Lib.hid (st12.trans st3)
    have HW3 := Lib.hid hw3
    have HOF := Lib.hid (Fr.of_any hM3.paths.out HP.out.2.2.1 hP3.out HP.out.1 HP.out.2.1 HP.out.2.2.2.1 HP.out.2.2.2.2)
    have HBL3 := Lib.hid (show b < w3.heap.size from hM3.mc.lt)
    have hz53 : w3.heap[w.heap.size]? = w1.heap[w.heap.size]? := (hoth3 _ (fun e => by have h1 := HM.out.tb; rw [← e, HT0.out] at h1; omega)).trans (HB2.out.block _ HL12.out)
    have HZ3 := Lib.hid hz53
    have HS3 := Lib.hid (show w1.heap.size ≤ w3.heap.size by rw [hz3]; exact HB2.out.size)
    have d0 : (Batch.applyE s.folded s.staged != 0) = false := by simp [hE]
    clear hτ1 hM2 st12 tb st3 hoth3 hz3 hv3 hP3 hm3 hM3 hw3 e5 e6 hE hz53
    go_upto_region 5 with fail
    rw [← HW3.out]
    clear x5 x6 xf5 xf6
    have x0 := HM3.out.mc.c0
    dsimp only at x0
    go_wp2_with fail
    go_at_call 71
    refine HOF.out.mono ?_
    rintro e w4 ⟨gf, F, rfl, hgf, hrow, hfr, hb34⟩
    have hF : ∀ j, j < s.p → F j = frontV (Batch.applyR s.folded s.staged) s.D s.p j := fun j hj => by
      have hbd : ∀ x ∈ Batch.applyR s.folded s.staged, 0 ≤ x.p → x.p < (s.p : Int) → 0 ≤ plusN x.t (s.D x.p.toNat j) ∧ plusN x.t (s.D x.p.toNat j) ≤ 18446744073709551615 := fun x hx h0 h1 => plusN_bd ⟨(HWF.out x hx).t0, (HWF.out x hx).t1⟩ (HP.out.2.2.1 _ _ (by omega) hj)
      exact Fr.FrontU.one (fun x hx h0 h1 => (hbd x hx h0 h1).2) (hfr j hj) (frontV_is (fun x hx h0 h1 => (hbd x hx h0 h1).1))
    have hM4 := HM3.out.cov hb34
    have st34 : StepM τ1 (cov τ1 w3.heap.size w4.heap.size) w3 w4 := StepM.cov hb34
    obtain ⟨τ2, hτ2⟩ : ∃ τ2, τ2 = cov τ1 w3.heap.size w4.heap.size := ⟨_, rfl⟩
    rw [← hτ2] at hM4 st34
    obtain ⟨w5, hw5⟩ : ∃ w5, w5 = w4.setCell ⟨b, 7, none⟩ (.slice (some ⟨gf, 0, none⟩) s.p s.p) := ⟨_, rfl⟩
    have st5 : StepM τ2 τ2 w4 w5 := by rw [hw5]; exact StepM.set (by rw [hM4.tb]; decide) (by rw [hM4.tb]; decide) _
    have hoth5 : ∀ k, k ≠ b → w5.heap[k]? = w4.heap[k]? := fun k h1 => by rw [hw5]; exact heap_setCell_other _ _ _ _ h1
    have hgl : gf < w4.heap.size := by obtain ⟨cs, h, _⟩ := hrow; exact (Array.getElem?_eq_some_iff.1 h).1
    have hS5 : Pers τ2 w5 (fun W => ShR W (some ⟨gf, 0, none⟩) s.p (frontV (Batch.applyR s.folded s.staged) s.D s.p)) := by
      obtain ⟨cs, h1, h2, h3⟩ := hrow
      have h4 : w5.heap[gf]? = some (.cells cs 50 (0, 0)) := (hoth5 gf (by have := HBL3.out; omega)).trans h1
      refine (Pers.blk h4 (by rw [hτ2]; exact cov_new hgf hgl)).imp fun W hW => ⟨gf, 0, rfl, fun j hj => ?_⟩
      rw [Nat.zero_add, ← hF j hj]
      exact (cell_of_row _ _ _ _ _ _ hW).trans (h3 j hj)
    have hm5 := heap_setCell_same w4 b 7 _ _ (.slice (some ⟨gf, 0, none⟩) s.p s.p) hM4.mc
    rw [← hw5] at hm5
    have hM5 : MdAt τ2 w5 b { c with folded := .slice va (Batch.applyR s.folded s.staged).length vc, staged := .slice none 0 0, sh := some ⟨gf, 0, none⟩, p := s.p, csh := s.p } tv { s with folded := Batch.applyR s.folded s.staged, staged := [], shown := frontV (Batch.applyR s.folded s.staged) s.D s.p } :=
      hM4.re st5 (fun k _ _ h2 => hoth5 k h2) (fun k hk => by rw [hw5]; simpa using hM4.tz k hk) hm5 rfl rfl rfl rfl (hM4.paths.size st5) (hM4.tab.size st5) (hM4.pool.size st5) (hM4.staged.size st5) (hM4.folded.size st5) rfl hS5 hM4.rm hM4.cl
    have HM5 := Lib.hid hM5
    have HST5 := Lib.hid (HST3.out.trans (st34.trans st5))
    have HW5 := Lib.hid hw5
    have x7 := hM4.mc.c7
    have xf7 := hM4.mc.free 7
    have hz5 : w5.heap[w.heap.size]? = w1.heap[w.heap.size]? := (hoth5 _ (fun e => by have h1 := HM.out.tb; rw [← e, HT0.out] at h1; omega)).trans ((hb34.block _ (Nat.lt_of_lt_of_le HL12.out HS3.out)).trans HZ3.out)
    have HZ5 := Lib.hid hz5
    have HSH := Lib.hid (mdShown_any hM5 HP.out.2.2.2.1 HP.out.2.2.2.2)
    have HL5 := Lib.hid (show w.heap.size < w5.heap.size from by have h1 := HL12.out; have h2 := HS3.out; have h3 := hb34.size; rw [hw5]; simp; omega)
    clear hfr hrow hF hM4 st34 hτ2 st5 hoth5 hgl hS5 hm5 hM5 hz5 hb34 hgf hw5 x0
    go_upto_region 6 with fail
    rw [← HW5.out]
    clear x7 xf7
    go_wp2_with fail
    go_at_call 14
    refine HSH.out.mono ?_
    rintro e w6 ⟨a6, c6, rfl, ht6, hb6⟩
    have hz6 := (hb6.block _ HL5.out).trans (HZ5.out.trans HZ.out)
    obtain ⟨z0, z1, z2, zf⟩ := three_cells hz6
    have zf0 := zf 0
    have zf1 := zf 1
    have zf2 := zf 2
    obtain ⟨ts, hts⟩ : ∃ ts, ts = shownL { s with folded := Batch.applyR s.folded s.staged, staged := [], shown := frontV (Batch.applyR s.folded s.staged) s.D s.p } := ⟨_, rfl⟩
    rw [← hts] at ht6
    rw [← hts]
    have HTS := Lib.hid hts
    have HR := Lib.hid (three_cells (heap_setCell_same _ w.heap.size 2 _ _ (.slice a6 ts.length c6) (heap_setCell_same _ w.heap.size 1 _ _ (.int .i64 0) (heap_setCell_same _ w.heap.size 0 _ _ (.int .i64 0) hz6))))
    have HT6 := Lib.hid ht6
    have HB6 := Lib.hid hb6
    clear zf hz6 hts ht6 hb6
    go_wp2_with fail
    obtain ⟨r0, r1, r2, _⟩ := HR.out
    refine bodyPost_ret (v := .agg #[.int .i64 0, .int .i64 0, .slice a6 ts.length c6]) (by simp [results, Tryz.results39, go_sem, r0, r1, r2]) rfl ?_
    rw [HV.out]
    have hts2 : (List.range s.p).map (frontV (Batch.applyR s.folded s.staged) s.D s.p) = ts := HTS.out.symm
    refine ⟨a6, c6, by rw [hts2], .inr ?_, (show MdP τ w1 b _ w6 from ⟨τ2, ⟨_, _, HM5.out.below HB6.out⟩, HST5.out.trans (StepM.below HB6.out), fun _ => (HM5.out.below HB6.out).mc.c3.trans HM.out.mc.c3.symm⟩).zero HB1.out ((((Below.refl _ _).setCell (Nat.zero_le _) _).setCell (Nat.zero_le _) _).setCell (Nat.zero_le _) _) fun k hk => by
      by_cases e : k = w.heap.size
      · exact .inr ⟨by have := HS1.out; omega, by omega, by rw [e]; exact HT0.out⟩
      · exact .inl ((heap_setCell_other _ _ _ _ e).trans ((heap_setCell_other _ _ _ _ e).trans (heap_setCell_other _ _ _ _ e)))⟩
    rw [hts2]
    exact (((HT6.out.far HL5.out _).far HL5.out _).far HL5.out _).mono (Nat.le_of_lt HL5.out)
  · have HV := Lib.hid (show showV s = ((0, Batch.applyE s.folded s.staged, []), s) by unfold showV; rw [if_pos hE])
    have d0 : (Batch.applyE s.folded s.staged != 0) = true := by simp [hE]
    generalize Batch.applyE s.folded s.staged = E at *
    have hz2 := (HB2.out.block _ HL12.out).trans HZ.out
    obtain ⟨z0, z1, z2, zf⟩ := three_cells hz2
    have zf0 := zf 0
    have zf1 := zf 1
    have zf2 := zf 2
    have HR := Lib.hid (three_cells (heap_setCell_same _ w.heap.size 2 _ _ (.slice none 0 0) (heap_setCell_same _ w.heap.size 1 _ _ (.int .i64 E) (heap_setCell_same _ w.heap.size 0 _ _ (.int .i64 0) hz2))))
    clear zf hE hz2
    go_wp2_with fail
    obtain ⟨r0, r1, r2, _⟩ := HR.out
    refine bodyPost_ret (v := .agg #[.int .i64 0, .int .i64 E, .slice none 0 0]) (by simp [results, Tryz.results39, go_sem, r0, r1, r2]) rfl ?_
    rw [HV.out]
    exact ⟨none, 0, rfl, .inl ⟨rfl, rfl⟩, (MdP.same (w := w1) ⟨c, tv, HM.out⟩ HB2.out).zero HB1.out ((((Below.refl _ _).setCell (Nat.zero_le _) _).setCell (Nat.zero_le _) _).setCell (Nat.zero_le _) _) fun k hk => by
      by_cases e : k = w.heap.size
      · exact .inr ⟨by have := HS1.out; omega, by omega, by rw [e]; exact HT0.out⟩
      · exact .inl ((heap_setCell_other _ _ _ _ e).trans ((heap_setCell_other _ _ _ _ e).trans (heap_setCell_other _ _ _ _ e)))⟩
end
end Go.Proofs.YtdllgeanmlmmfaaGreatDoor.Md
