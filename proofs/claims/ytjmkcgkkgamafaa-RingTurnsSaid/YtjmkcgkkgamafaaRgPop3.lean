/-
  PACKAGE ring: the access of a pop that gets a batch: it is new memory.
-/
import Derived.Test.YtjmkcgkkgamafaaRgPlay
import Derived.Deep.CutRange
import Derived.Deep.RegionHeldLaw
namespace Go.Proofs.Ytjmkcgkkgamafaa.Rg
open Go.RowKit Rw Pk Go.Maps Mm
set_option linter.unusedVariables false
section
variable {w w' : World} {R : Ri} {A : Ac} {n a r : Nat} {w0 wr : World} {fs zs : List Nat} {l : List Batch.Ch} {M M' : Mm.St} {a0 b0 c0 k : Nat}
set_option maxRecDepth 1000000 in
set_option maxHeartbeats 8000000 in
theorem rgpop_3f (h : Rg n w0 wr fs zs a r R A l M w) (hacc : A.acc = 3) (hG : Mm.Good a0 b0 c0 k M) (ha : a0 ≤ 65536) (hb : b0 ≤ 65536) (hc : c0 ≤ 65536) (hk : k ≤ 100000) (hwho : I64 A.who) (hwd : 0 ≤ R.wd ∧ R.wd ≤ 1000) (hx : 0 ≤ A.po ∧ 1 ≤ R.sz ∧ R.sz ≤ 64 ∧ 0 ≤ R.bx ∧ R.bx ≤ 1000) :
    Calls Try.prog 98 #[.pointer (some ⟨a, 0, none⟩)] w fun e w' => e = .returned (.bool A.okk) ∧ ∃ v zs', (∀ g, v.ownBlock = some g → w.heap.size ≤ g) ∧ (∀ j ∈ zs, j ∈ zs') ∧ (∀ j ∈ zs', j ∈ zs ∨ w.heap.size ≤ j) ∧ Rg n w0 wr fs zs' a r R { A with bv := v } (Mm.getV M A.who (R.bx + A.po % R.sz)) (Mm.lookS M A.who 2 (R.bx + A.po % R.sz)) w' := by
  have hwi : I64 R.wd := ⟨by omega, by omega⟩
  have hwj : I64 (R.wd + 1) := ⟨by omega, by omega⟩
  have HR := Lib.hid h
  have HG := Lib.hid hG
  have HL := Lib.hid (And.intro ha (And.intro hb (And.intro hc hk)))
  have HWHO := Lib.hid hwho
  have HWI := Lib.hid (And.intro hwi hwj)
  have hne := h.ne
  obtain ⟨c0, c1, c2, c3, c4, c5, c6, c7, _, _, cf⟩ := h.ac.cells
  obtain ⟨r0, r1, r2, r3, _, _, _⟩ := h.ri.cells
  rw [h.ar] at c0
  rw [hacc] at c4
  have HBI : Hid (I64 (R.bx + A.po % R.sz)) := Lib.hid (by
    have h1 := Int.emod_nonneg A.po (show R.sz ≠ 0 by omega)
    have h2 := Int.emod_lt_of_pos A.po (show 0 < R.sz by omega)
    exact ⟨by omega, by omega⟩)
  have HX := Lib.hid hx
  clear hx
  clear h hG ha hb hc hk hwho hwi hwj
  go_enter Try.func98, Try.ntmps98
  go_wp2_with fail
  go_quiet (fail)
  go_upto_region 11 with fail
  refine wp_region_held_drew (S := (fun w' => w'.cell? ⟨a, 1, none⟩ = some (.int .i64 A.who) ∧ w'.cell? ⟨a, 6, none⟩ = some (.int .u64 A.po))) (by kernel_rfl) ?_ (fun hHeld => ?_)
  · ((try dsimp only); exact ⟨c1, c6⟩)
  refine wpAnyH_take (i := 0) (v := ?_) rfl (by kernel_rfl) (by kernel_rfl) (by kernel_rfl) (fun _ _ _ h => h) (Or.inl ⟨by rfl, ?_⟩) (by assumption) ?_
  rotate_left 1
  · (intro w hSw; (try dsimp only at hSw); first | (go_simp; done) | (go_simp; with_reducible rfl))
  try simp only [Act.put, List.setIfInBounds_toArray, List.set_cons_zero, List.set_cons_succ, List.getElem_toArray, List.getElem_cons_zero]
  refine wpAnyH_take (i := 1) (v := ?_) rfl (by kernel_rfl) (by kernel_rfl) (by kernel_rfl) (fun _ _ _ h => h) (Or.inl ⟨by rfl, ?_⟩) (by assumption) ?_
  rotate_left 1
  · (intro w hSw; (try dsimp only at hSw); first | (go_simp; done) | (go_simp; with_reducible rfl))
  try simp only [Act.put, List.setIfInBounds_toArray, List.set_cons_zero, List.set_cons_succ, List.getElem_toArray, List.getElem_cons_zero, List.getElem_cons_succ]
  refine wpAnyH_take (i := 2) (v := ?_) rfl (by kernel_rfl) (by kernel_rfl) (by kernel_rfl) (fun _ _ _ h => h) (Or.inl ⟨by rfl, ?_⟩) (by assumption) ?_
  rotate_left 1
  · (intro w hSw; (try dsimp only at hSw); first | (go_simp; done) | (go_simp; with_reducible rfl))
  try simp only [Act.put, List.setIfInBounds_toArray, List.set_cons_zero, List.set_cons_succ, List.getElem_toArray, List.getElem_cons_zero, List.getElem_cons_succ]
  refine wpAnyH_take (i := 3) (v := ?_) rfl (by kernel_rfl) (by kernel_rfl) (by kernel_rfl) (fun _ _ _ h => h) (Or.inl ⟨by rfl, ?_⟩) (by assumption) ?_
  rotate_left 1
  · (intro w hSw; (try dsimp only at hSw); first | (go_simp; done) | (go_simp; with_reducible rfl))
  try simp only [Act.put, List.setIfInBounds_toArray, List.set_cons_zero, List.set_cons_succ, List.getElem_toArray, List.getElem_cons_zero, List.getElem_cons_succ]
  refine wpAnyH_take (i := 4) (v := ?_) rfl (by kernel_rfl) (by kernel_rfl) (by kernel_rfl) (fun _ _ _ h => h) (Or.inl ⟨by rfl, ?_⟩) (by assumption) ?_
  rotate_left 1
  · (intro w hSw; (try dsimp only at hSw); first | (go_simp; done) | (go_simp; with_reducible rfl))
  try simp only [Act.put, List.setIfInBounds_toArray, List.set_cons_zero, List.set_cons_succ, List.getElem_toArray, List.getElem_cons_zero, List.getElem_cons_succ]
  refine wpAnyH_take (i := 5) (v := ?_) rfl (by kernel_rfl) (by kernel_rfl) (by kernel_rfl) (fun _ _ _ h => h) (Or.inl ⟨by rfl, ?_⟩) (by assumption) ?_
  rotate_left 1
  · (intro w hSw; (try dsimp only at hSw); first | (go_simp; done) | (go_simp; with_reducible rfl))
  try simp only [Act.put, List.setIfInBounds_toArray, List.set_cons_zero, List.set_cons_succ, List.getElem_toArray, List.getElem_cons_zero, List.getElem_cons_succ]
  refine wpAnyH_take (i := 6) (v := ?_) rfl (by kernel_rfl) (by kernel_rfl) (by kernel_rfl) (fun _ _ _ h => h) (Or.inl ⟨by rfl, ?_⟩) (by assumption) ?_
  rotate_left 1
  · (intro w hSw; (try dsimp only at hSw); first | (go_simp; done) | (go_simp; with_reducible rfl))
  try simp only [Act.put, List.setIfInBounds_toArray, List.set_cons_zero, List.set_cons_succ, List.getElem_toArray, List.getElem_cons_zero, List.getElem_cons_succ]
  refine wpAnyH_take (i := 7) (v := ?_) rfl (by kernel_rfl) (by kernel_rfl) (by kernel_rfl) (fun _ _ _ h => h) (Or.inl ⟨by rfl, ?_⟩) (by assumption) ?_
  rotate_left 1
  · (intro w hSw; (try dsimp only at hSw); first | (go_simp; done) | (go_simp; with_reducible rfl))
  try simp only [Act.put, List.setIfInBounds_toArray, List.set_cons_zero, List.set_cons_succ, List.getElem_toArray, List.getElem_cons_zero, List.getElem_cons_succ]
  refine wpAnyH_take (i := 8) (v := ?_) rfl (by kernel_rfl) (by kernel_rfl) (by kernel_rfl) (fun _ _ _ h => h) (Or.inl ⟨by rfl, ?_⟩) (by assumption) ?_
  rotate_left 1
  · (intro w hSw; (try dsimp only at hSw); first | (go_simp; done) | (go_simp; with_reducible rfl))
  try simp only [Act.put, List.setIfInBounds_toArray, List.set_cons_zero, List.set_cons_succ, List.getElem_toArray, List.getElem_cons_zero, List.getElem_cons_succ]
  refine wpAnyH_take (i := 9) (v := ?_) rfl (by kernel_rfl) (by kernel_rfl) (by kernel_rfl) (fun _ _ _ h => h) (Or.inl ⟨by rfl, ?_⟩) (by assumption) ?_
  rotate_left 1
  · (intro w hSw; (try dsimp only at hSw); first | (go_simp; done) | (go_simp; with_reducible rfl))
  try simp only [Act.put, List.setIfInBounds_toArray, List.set_cons_zero, List.set_cons_succ, List.getElem_toArray, List.getElem_cons_zero, List.getElem_cons_succ]
  refine wpAnyH_take (i := 10) (v := ?_) rfl (by kernel_rfl) (by kernel_rfl) (by kernel_rfl) (fun _ _ _ h => h) (Or.inl ⟨by rfl, ?_⟩) (by assumption) ?_
  rotate_left 1
  · (intro w hSw; (try dsimp only at hSw); first | (go_simp; done) | (go_simp; with_reducible rfl))
  try simp only [Act.put, List.setIfInBounds_toArray, List.set_cons_zero, List.set_cons_succ, List.getElem_toArray, List.getElem_cons_zero, List.getElem_cons_succ]
  refine wpAnyH_ready (rs := [11]) (by kernel_rfl) (by simp) ?_
  refine AllReadyH.cons rfl (fun K hK => ?_) AllReadyH.nil
  go_simp
  go_at_call 122
  refine (rgplace_any ((HR.out.below (w' := _) ?_).ri) HX.out.1 HX.out.2.1 HX.out.2.2.1 HX.out.2.2.2.1 HX.out.2.2.2.2).mono ?_
  · first | exact Below.refl _ _ | exact (Below.refl _ _).drew | exact below_drewN (Below.refl _ _) _ | exact (below_drewN (Below.refl _ _) _).drew
  rintro e w2 ⟨rfl, hb2⟩
  have HR2 := Lib.hid ((HR.out.below (w' := _) (by first | exact Below.refl _ _ | exact (Below.refl _ _).drew | exact below_drewN (Below.refl _ _) _ | exact (below_drewN (Below.refl _ _) _).drew)).below hb2)
  obtain ⟨_, p1, _, p3, _, p5, p6, _, _, _, _⟩ := HR2.out.ac.cells
  have HS2 := Lib.hid (show w.heap.size ≤ w2.heap.size from hb2.size)
  clear hb2
  try go_wp2_with fail
  refine hK.out _ _ ?_ (fun hHeld => ?_)
  · ((try dsimp only); exact ⟨p1, p6⟩)
  clear hK K
  try simp only [Act.put, List.setIfInBounds_toArray, List.set_cons_zero, List.set_cons_succ, List.getElem_toArray, List.getElem_cons_zero, List.getElem_cons_succ]
  refine wpAnyH_ready (rs := [12]) (by kernel_rfl) (by simp) ?_
  refine AllReadyH.cons rfl (fun K hK => ?_) AllReadyH.nil
  go_simp
  go_at_call 111
  refine (Mm.mzget_any (HR2.out.mz) HG.out HL.out.1 HL.out.2.1 HL.out.2.2.1 HL.out.2.2.2 A.who _ HWHO.out HBI.out).mono ?_
  rintro e w3 ⟨v, rfl, ho, hm, hkb, hg⟩
  obtain ⟨vo, vn, vc, rfl⟩ : ∃ ao n c, v = .slice ao n c := Mm.bown_form ho
  have HNEW := Lib.hid (show ∀ g, (Value.slice vo vn vc).ownBlock = some g → w.heap.size ≤ g from fun g h => Nat.le_trans HS2.out (hg g h).1)
  obtain ⟨zs', z1, z2, hr3, z4⟩ := HR2.out.got hm hkb hg
  have HR3 := Lib.hid hr3
  have HV := Lib.hid (And.intro (Batch.Own.sl ho (get_wf HG.out A.who (R.bx + A.po % R.sz))) (And.intro z1 (And.intro (fun j hj => (z2 j hj).imp id (fun h => Nat.le_trans HS2.out h)) z4)))
  obtain ⟨d0, d1, d2, d3, d4, d5, d6, d7, _, _, df⟩ := HR3.out.ac.cells
  obtain ⟨s0, s1, s2, s3, _, _, _⟩ := HR3.out.ri.cells
  clear hm hkb hg ho hr3 z1 z2 z4
  try go_wp2_with fail
  refine hK.out _ _ ?_ (fun hHeld => ?_)
  · ((try dsimp only); exact ⟨d1, d6⟩)
  clear hK K
  try simp only [Act.put, List.setIfInBounds_toArray, List.set_cons_zero, List.set_cons_succ, List.getElem_toArray, List.getElem_cons_zero, List.getElem_cons_succ]
  refine wpAnyH_take (i := 13) (v := ?_) rfl (by kernel_rfl) (by kernel_rfl) (by kernel_rfl) (fun _ _ _ h => h) (Or.inl ⟨by rfl, ?_⟩) (by assumption) ?_
  rotate_left 1
  · (intro w hSw; (try dsimp only at hSw); first | (go_simp; done) | (go_simp; with_reducible rfl))
  try simp only [Act.put, List.setIfInBounds_toArray, List.set_cons_zero, List.set_cons_succ, List.getElem_toArray, List.getElem_cons_zero, List.getElem_cons_succ]
  refine wpAnyH_take (i := 14) (v := ?_) rfl (by kernel_rfl) (by kernel_rfl) (by kernel_rfl) (fun _ _ _ h => h) (Or.inl ⟨by rfl, ?_⟩) (by assumption) ?_
  rotate_left 1
  · (intro w hSw; (try dsimp only at hSw); first | (go_simp; done) | (go_simp; with_reducible rfl))
  try simp only [Act.put, List.setIfInBounds_toArray, List.set_cons_zero, List.set_cons_succ, List.getElem_toArray, List.getElem_cons_zero, List.getElem_cons_succ]
  refine wpAnyH_ready (rs := [15]) (by kernel_rfl) (by simp) ?_
  refine AllReadyH.cons rfl (fun K hK => ?_) AllReadyH.nil
  go_simp
  skip
  try go_wp2_with fail
  refine hK.out _ _ ?_ (fun hHeld => ?_)
  · ((try dsimp only); exact ⟨by rw [World.cell?_setCell_other _ _ _ _ (by simp)]; exact d1, by rw [World.cell?_setCell_other _ _ _ _ (by simp)]; exact d6⟩)
  clear hK K
  try simp only [Act.put, List.setIfInBounds_toArray, List.set_cons_zero, List.set_cons_succ, List.getElem_toArray, List.getElem_cons_zero, List.getElem_cons_succ]
  refine wpAnyH_done (by kernel_rfl) ?_ _
  go_wp2_with fail
  go_ret
  exact ⟨rfl, .slice vo vn vc, zs', HNEW.out, HV.out.2.1, HV.out.2.2.1, HR3.out.setV (.slice vo vn vc) (sl_block HV.out.1 (fun g hg => Below.heap_setCell _ _ _ _ (HV.out.2.2.2 g hg).2.1)) HV.out.2.2.2⟩
theorem rgstep_pop3f (h : Rg n w0 wr fs zs a r R A l M w) (hacc : A.acc = 2) (hp : A.pops = true) (hok : A.okk = false) (hov : A.ov = false) (hsp : M.sp A.who = false) (hG : Mm.Good a0 b0 c0 k M) (ha : a0 ≤ 65536) (hb : b0 ≤ 65536) (hc : c0 ≤ 65536) (hk : k ≤ 100000) (hwho : I64 A.who) (hwd : 0 ≤ R.wd ∧ R.wd ≤ 1000) (hx : 0 ≤ A.po ∧ 1 ≤ R.sz ∧ R.sz ≤ 64 ∧ 0 ≤ R.bx ∧ R.bx ≤ 1000) (hlen : (Mm.lookS M A.who 2 (R.bx + A.po % R.sz)).lg.length = M.lg.length + 1) :
    Calls Try.prog 28 #[.pointer (some ⟨a, 0, none⟩)] w fun e w' => e = .returned (.bool (false)) ∧ ∃ v zs', (∀ g, v.ownBlock = some g → w.heap.size ≤ g) ∧ (∀ j ∈ zs, j ∈ zs') ∧ (∀ j ∈ zs', j ∈ zs ∨ w.heap.size ≤ j) ∧ Rg n w0 wr fs zs' a r R { { A with acc := A.acc + 1 } with bv := v } (Mm.getV M A.who (R.bx + A.po % R.sz)) (Mm.lookS M A.who 2 (R.bx + A.po % R.sz)) w' := by
  have hl6 : M.lg.length ≤ 1000000 := by have := hG.l; omega
  refine (rgstep_any h hov hsp hwho hl6 (Q := fun x A' l' M' zs' => x = (false) ∧ (∃ v, (∀ g, v.ownBlock = some g → w.heap.size ≤ g) ∧ A' = { { A with acc := A.acc + 1 } with bv := v }) ∧ l' = (Mm.getV M A.who (R.bx + A.po % R.sz)) ∧ M' = (Mm.lookS M A.who 2 (R.bx + A.po % R.sz)) ∧ (∀ j ∈ zs, j ∈ zs') ∧ (∀ j ∈ zs', j ∈ zs ∨ w.heap.size ≤ j)) ?_ ?_).mono ?_
  · intro w1 hs1 hr1
    refine Calls.mono (rgaccess_any hr1 (by omega) (Q := fun x w'' => ∃ A' l' M' zs', (fun x A' l' M' zs' => x = (false) ∧ (∃ v, (∀ g, v.ownBlock = some g → w.heap.size ≤ g) ∧ A' = { { A with acc := A.acc + 1 } with bv := v }) ∧ l' = (Mm.getV M A.who (R.bx + A.po % R.sz)) ∧ M' = (Mm.lookS M A.who 2 (R.bx + A.po % R.sz)) ∧ (∀ j ∈ zs, j ∈ zs') ∧ (∀ j ∈ zs', j ∈ zs ∨ w.heap.size ≤ j)) x A' l' M' zs' ∧ Rg n w0 wr fs zs' a r R A' l' M' w'') ?_) (fun e w'' hx => hx)
    intro w2 hs2 hr2
    rw [show rgDo A.pops = 98 by rw [hp]; rfl]
    refine (rgpop_3f hr2 (by show A.acc + 1 = _; omega) hG ha hb hc hk hwho hwd hx).mono ?_
    · rintro e w3 ⟨rfl, v, zs', z0, z1, z2, hr3⟩
      exact ⟨_, rfl, _, _, _, zs', ⟨hok, ⟨v, fun g hg => by have := z0 g hg; omega, rfl⟩, rfl, rfl, z1, fun j hj => (z2 j hj).imp id (fun h => by omega)⟩, hr3⟩
  · rintro x A' l' M' zs' ⟨_, ⟨v, _, rfl⟩, _, rfl, _⟩
    exact ⟨hlen, hov⟩
  · rintro e w' ⟨x, rfl, A', l', M', zs', ⟨rfl, ⟨v, z0, rfl⟩, rfl, rfl, z1, z2⟩, hr⟩
    exact ⟨rfl, v, zs', z0, z1, z2, hr⟩
set_option maxRecDepth 1000000 in
set_option maxHeartbeats 8000000 in
theorem rgpush_yesf (h : Rq n w0 wr fs zs r R M w) (hps : R.ps = false) (who : Int) {v : Value} (hs : Batch.Sl w v l) (hl : l.length ≤ 1000) (hv : ∀ g, v.ownBlock = some g → g ≠ r) :
    Calls Try.prog 25 #[.pointer (some ⟨r, 0, none⟩), .int .i64 who, v] w fun e w' => ∃ a, e = .returned (.pointer (some ⟨a, 0, none⟩)) ∧ w.heap.size ≤ a ∧ ∃ bv zs', (∀ g, bv.ownBlock = some g → w.heap.size ≤ g) ∧ (∀ j ∈ zs, j ∈ zs') ∧ (∀ j ∈ zs', j ∈ zs ∨ w.heap.size ≤ j) ∧
      Rg n w0 wr fs zs' a r { R with ps := true } ⟨r, who, false, bv, 0, 0, 0, false, false, 0⟩ l M w' := by
  have HN := Lib.hid (rgnone_any h.ri)
  have HQ := Lib.hid (h.setR 4 (.bool true) (h.ri.set4 true) rfl)
  have HC := Lib.hid (Batch.cloneB_any (w := w.setCell ⟨r, 4, none⟩ (.bool true)) (sl_block hs (fun g hg => Below.heap_setCell _ _ _ _ (hv g hg))) (by omega))
  have HW := Lib.hid hs.wf
  obtain ⟨_, _, _, _, r4, _, rf⟩ := h.ri.cells
  rw [hps] at r4
  clear h hps hs hl hv
  go_enter Try.func25, Try.ntmps25
  go_wp2_with fail
  go_at_call 63
  refine HN.out.mono ?_
  rintro e w1 ⟨rfl, rfl⟩
  go_wp2_with fail
  go_at_call 64
  refine HC.out.mono ?_
  rintro e w3 ⟨v', rfl, ho, hb⟩
  obtain ⟨ao, vn, cp, rfl⟩ : ∃ ao n c, v' = .slice ao n c := Mm.bown_form ho
  have HO := Lib.hid ho
  have HB := Lib.hid hb
  clear ho hb
  go_wp2_with fail
  go_ret
  have hz : (w.setCell ⟨r, 4, none⟩ (.bool true)).heap.size = w.heap.size := Mm.size_setCell _ _ _
  have hs3 := HB.out.size
  have hfresh : ∀ g, (Value.slice ao vn cp).ownBlock = some g → w.heap.size ≤ g := fun g hg => by
    have := (World.ownsRow.lt HO.out g hg).1
    omega
  refine ⟨_, rfl, by omega, .slice ao vn cp, ?_⟩
  rw [← hz] at hfresh ⊢
  refine (fun ⟨zs', z1, z2, hr⟩ => ⟨zs', hfresh, z1, z2, hr⟩) (HQ.out.act (HB.out.trans ((Below.refl _ _).alloc hs3 _)) (heap_alloc_new _ _) hs3 rfl ((Batch.Own.sl HO.out HW.out).below ((Below.refl _ _).alloc (Nat.le_refl _) _)) (fun g hg => ?_))
  rcases Batch.Own.form HO.out with ⟨_, hv⟩ | ⟨g', cap, hv, h6, h7, _⟩
  · rw [hv] at hg; simp [Value.ownBlock] at hg
  · have e : g' = g := by rw [hv] at hg; simpa [Value.ownBlock] using hg
    subst e
    exact ⟨h6, Nat.lt_of_lt_of_le h7 ((Below.refl w3.heap.size w3).alloc (Nat.le_refl _) _).size, by omega⟩
end
end Go.Proofs.Ytjmkcgkkgamafaa.Rg
