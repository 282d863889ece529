/-
  PACKAGE pool: a Get of what would be too great: got, do, Step.
-/
import Derived.Test.YtmggnalobfihnaaPlGiveUp
import Derived.Test.YtmggnalobfihnaaPlWp
import Derived.Deep.CutRange
import Derived.Deep.RegionHeldLaw
import Derived.BigQuiet
namespace Go.Proofs.Ytmggnalobfihnaa.Pl
open Go.RowKit Rw Pk Go.Maps Mm
set_option linter.unusedVariables false
section
variable {w w' W : World} {S : Pi} {A A' : Pa} {n a s X i : Nat} {w0 wr : World} {fs zs zs' : List Nat} {P : List Int} {D D' : List (Int × Int)} {B B' : Nat → List Batch.Ch} {T T' l : List Batch.Ch} {M M' : Mm.St} {ga gb gc k : Nat} {v : Value}
set_option maxRecDepth 1000000 in
set_option maxHeartbeats 16000000 in
theorem plgot_bad {D0 : Int × Int} (h : Pg n w0 wr fs zs a s S A P (D0 :: D') B T M w) (hdr : A.dr = false) (hi : i < 8) (hv : Batch.Sl w v l) (hsT : Batch.Sorted (B i)) (hsl : Batch.Sorted l) (hl : l.length + (B i).length ≤ 100000) (hbad : Batch.sumsE (l ++ B i) ≠ 0) (hP : P.length ≤ 8) (hPw : ∀ x ∈ P, 0 ≤ x ∧ x < 8) {i0 : Nat} (h0 : P[i0]? = some (i : Int)) (hnq : ∀ (j : Nat) x, P[j]? = some x → j ≠ i0 → x ≠ (i : Int)) :
    Calls Try.prog 49 #[.pointer (some ⟨a, 0, none⟩), .int .i64 (i : Int), v] w fun e w' => e = .returned (.tuple #[]) ∧ ∃ zs' dv, (∀ j ∈ zs, j ∈ zs') ∧ (∀ j ∈ zs', j ∈ zs ∨ w.heap.size ≤ j) ∧ (∀ g, dv.ownBlock = some g → w.heap.size ≤ g) ∧ Pg n w0 wr fs zs' a s S { A with ok := false, dv := dv } P (D0 :: giveD P i0 (i : Int)) B T M w' := by
  have HM := Lib.hid (Batch.merge_any hv (h.bx i hi) hsl hsT hl)
  obtain ⟨k, hk⟩ : ∃ k, Batch.sumsE (l ++ B i) = k := ⟨_, rfl⟩
  rw [hk] at HM hbad
  have hkb : (k == 0) = false := by rw [beq_eq_false_iff_ne]; exact hbad
  have hkb2 : (k != 0) = true := by rw [bne_iff_ne]; exact hbad
  have HR := Lib.hid h
  obtain ⟨tq, tn, tc, htk⟩ := sl_open (h.bx i hi)
  have hbx := h.pa.boxAt hi
  obtain ⟨c0, c1, c2, c3, c12, c13, c14, c15, c16, cf⟩ := h.pa.cells
  rw [hdr] at c2
  rw [htk] at hbx HM
  have hi0 : (0 : Int) ≤ (i : Int) := Int.natCast_nonneg _
  have hi1 : (i : Int) < 8 := by omega
  have hw2 : wrap64 (i : Int) = (i : Int) := w64_id (i64_nat hi)
  have hw3 : IntKind.i64.wrap (i : Int) = (i : Int) := w_id (i64_nat hi)
  have HP := Lib.hid (And.intro hP (And.intro hPw (And.intro h0 hnq)))
  clear h hdr hv hsT hsl hl hk hi htk hP hPw h0 hnq
  go_enter Try.func49, Try.ntmps49
  go_wp2_with fail
  go_at_call 65
  refine HM.out.mono ?_
  rintro e w1 ⟨v', rfl, ho, hb⟩
  obtain ⟨vo, vn, vc, rfl⟩ := own_open ho
  have HR1 := Lib.hid (HR.out.below hb)
  have HS1 := Lib.hid hb.size
  clear ho hb c0 c1 c2 c3 c12 c13 c14 c15 c16 cf hbx
  go_wp2_with fail
  go_at_call 66
  refine (plgive_any HR1.out HP.out.1 HP.out.2.1 HP.out.2.2.1 HP.out.2.2.2).mono ?_
  rintro e w2 ⟨rfl, zs', dv, z1, z2, z3, h2⟩
  have HZ := Lib.hid (And.intro z1 (And.intro z2 (And.intro z3 h2)))
  clear z1 z2 z3 h2
  go_wp2_with fail
  first | ((try simp only [Exit.inBlock, Exit.then]); refine bodyPost_ret (results_none rfl _ _ _) rfl ?_) | go_ret | go_end0
  exact ⟨rfl, zs', dv, HZ.out.1, fun j hj => (HZ.out.2.1 j hj).imp id (fun e => Nat.le_trans HS1.out e), fun g hg => Nat.le_trans HS1.out (HZ.out.2.2.1 g hg), HZ.out.2.2.2⟩
set_option maxRecDepth 1000000 in
set_option maxHeartbeats 16000000 in
theorem pldo_getbad (h : Pg n w0 wr fs zs a s S A P D B T M w) (hsp : M.sp A.who = false) (hG : Mm.Good ga gb gc k M) (ha : ga ≤ 65536) (hb : gb ≤ 65536) (hc : gc ≤ 65536) (hk : k ≤ 100000) (hwho : I64 A.who) (hi : i < 8) (hbo : 0 ≤ S.bo ∧ S.bo ≤ 100000) (hdr : A.dr = false) (hsB : Batch.Sorted (B i)) (hsL : Batch.Sorted (getV M A.who (S.bo + (i : Int)))) (hl : (getV M A.who (S.bo + (i : Int))).length + (B i).length ≤ 100000) (hbad : Batch.sumsE ((getV M A.who (S.bo + (i : Int))) ++ B i) ≠ 0) (hP : P.length ≤ 8) (hPw : ∀ x ∈ P, 0 ≤ x ∧ x < 8) {i0 : Nat} (h0 : P[i0]? = some (i : Int)) (hnq : ∀ (j : Nat) x, P[j]? = some x → j ≠ i0 → x ≠ (i : Int)) (hDD : D = (2, (i : Int)) :: D') :
    Calls Try.prog 35 #[.pointer (some ⟨a, 0, none⟩), .agg #[.int .i64 2, .int .i64 (i : Int)]] w (DoQ2 n w0 wr fs zs a s S A P ((2, (i : Int)) :: giveD P i0 (i : Int)) B T (lookS M A.who 2 (S.bo + (i : Int))) A.rd false w.heap.size) := by
  have HR := Lib.hid h
  obtain ⟨c0, c1, c2, c3, c12, c13, c14, c15, c16, cf⟩ := h.pa.cells
  obtain ⟨s0, s1, s2, s3, s4⟩ := h.pi.cells
  rw [h.as'] at c0
  have hal := h.pa.lt
  have hsl := h.pi.lt
  have HG := Lib.hid hG
  have HB := Lib.hid (And.intro ha (And.intro hb (And.intro hc hk)))
  have HWHO := Lib.hid hwho
  subst hDD
  have HWI : Hid (I64 (S.bo + (i : Int))) := Lib.hid ⟨by omega, by omega⟩
  have hw1 : IntKind.i64.wrap (S.bo + (i : Int)) = (S.bo + (i : Int)) := w_id HWI.out
  have HC := Lib.hid (And.intro hi (And.intro hdr (And.intro hsB (And.intro hsL (And.intro hl hbad)))))
  have HP := Lib.hid (And.intro hP (And.intro hPw (And.intro h0 hnq)))
  clear hi hdr hsB hsL hl hbad hbo hP hPw h0 hnq

  clear h hG hsp ha hb hc hk hwho
  go_enter Try.func35, Try.ntmps35
  go_upto_region 1 with fail
  go_region
  go_upto_region 6 with fail
  have hn := heap_alloc_new w (.cells #[Value.int .i64 (2), .int .i64 ((i : Int))] 76)
  have hxl : w.heap.size < (w.alloc (.cells #[Value.int .i64 (2), .int .i64 ((i : Int))] 76)).drew.heap.size := (Array.getElem?_eq_some_iff.1 hn).1
  have x0 : (w.alloc (.cells #[Value.int .i64 (2), .int .i64 ((i : Int))] 76)).drew.cell? ⟨w.heap.size, 0, none⟩ = some (.int .i64 (2)) := cell_of_row _ _ _ _ _ _ hn
  have x1 : (w.alloc (.cells #[Value.int .i64 (2), .int .i64 ((i : Int))] 76)).drew.cell? ⟨w.heap.size, 1, none⟩ = some (.int .i64 ((i : Int))) := cell_of_row _ _ _ _ _ _ hn
  have hbx : Below w.heap.size w (w.alloc (.cells #[Value.int .i64 (2), .int .i64 ((i : Int))] 76)).drew := ((Below.refl _ _).alloc (Nat.le_refl _) _).drew
  obtain ⟨zs1, y1, y2, hov⟩ := HR.out.over hbx (Nat.le_refl w.heap.size) hxl
  have HO := Lib.hid hov
  have HZ1 := Lib.hid (And.intro y1 y2)
  have HS := Lib.hid (And.intro (fun j (hj : j ∈ fs) (_ : j ≠ a) => hbx.block j (blk_lt HR.out.mz j (HR.out.fz j hj))) hbx.size)
  have HX := Lib.hid (And.intro x0 x1)
  have HXA : Hid (w.heap.size ≠ a) := Lib.hid (by omega)
  have HSZ := Lib.hid hbx.size
  generalize hX : w.heap.size = X at *
  replace hX := Lib.hid hX
  generalize (w.alloc (.cells #[Value.int .i64 (2), .int .i64 ((i : Int))] 76)).drew = W at *
  clear hn hxl hbx hov y1 y2 c0 c1 c2 c3 c12 c13 c14 c15 c16 cf s0 s1 s2 s3 s4 x0 x1 hal hsl
  have HD := Lib.hid (HO.out.below (Below.refl _ _).drew)
  obtain ⟨c0, c1, c2, c3, c12, c13, c14, c15, c16, cf⟩ := HD.out.pa.cells
  obtain ⟨s0, s1, s2, s3, s4⟩ := HD.out.pi.cells
  rw [HD.out.as'] at c0
  have x0 := (HD.out.kept HXA.out 0).trans HX.out.1
  have x1 := (HD.out.kept HXA.out 1).trans HX.out.2
  refine wp_region_held_drew (S := (fun w' => w'.cell? ⟨X, 1, none⟩ = some (.int .i64 (i : Int)) ∧ w'.cell? ⟨a, 1, none⟩ = some (.int .i64 A.who) ∧ w'.cell? ⟨a, 0, none⟩ = some (.pointer (some ⟨s, 0, none⟩)) ∧ w'.cell? ⟨s, 2, none⟩ = some (.int .i64 S.bo))) (by kernel_rfl) ?_ (fun hHeld => ?_)
  · ((try dsimp only); first | (obtain ⟨k0, k1, _⟩ := HD.out.pa.cells; obtain ⟨_, t1, t2, t3, _⟩ := HD.out.pi.cells; have y1 := (HD.out.kept HXA.out 1).trans HX.out.2; rw [HD.out.as'] at k0; exact ⟨y1, k1, k0, t2⟩))
  refine wpAnyH_take (i := 0) (v := ?_) rfl (by kernel_rfl) (by kernel_rfl) (by kernel_rfl) (fun _ _ _ h => h) (Or.inl ⟨by rfl, ?_⟩) (by assumption) ?_
  rotate_left 1
  · (intro w hSw; (try dsimp only at hSw); first | (go_simp; done) | (go_simp; with_reducible rfl))
  try simp only [Act.put, List.setIfInBounds_toArray, List.set_cons_zero, List.set_cons_succ, List.getElem_toArray, List.getElem_cons_zero]
  refine wpAnyH_take (i := 1) (v := ?_) rfl (by kernel_rfl) (by kernel_rfl) (by kernel_rfl) (fun _ _ _ h => h) (Or.inl ⟨by rfl, ?_⟩) (by assumption) ?_
  rotate_left 1
  · (intro w hSw; (try dsimp only at hSw); first | (go_simp; done) | (go_simp; with_reducible rfl))
  try simp only [Act.put, List.setIfInBounds_toArray, List.set_cons_zero, List.set_cons_succ, List.getElem_toArray, List.getElem_cons_zero, List.getElem_cons_succ]
  refine wpAnyH_take (i := 2) (v := ?_) rfl (by kernel_rfl) (by kernel_rfl) (by kernel_rfl) (fun _ _ _ h => h) (Or.inl ⟨by rfl, ?_⟩) (by assumption) ?_
  rotate_left 1
  · (intro w hSw; (try dsimp only at hSw); first | (go_simp; done) | (go_simp; with_reducible rfl))
  try simp only [Act.put, List.setIfInBounds_toArray, List.set_cons_zero, List.set_cons_succ, List.getElem_toArray, List.getElem_cons_zero, List.getElem_cons_succ]
  refine wpAnyH_take (i := 3) (v := ?_) rfl (by kernel_rfl) (by kernel_rfl) (by kernel_rfl) (fun _ _ _ h => h) (Or.inl ⟨by rfl, ?_⟩) (by assumption) ?_
  rotate_left 1
  · (intro w hSw; (try dsimp only at hSw); first | (go_simp; done) | (go_simp; with_reducible rfl))
  try simp only [Act.put, List.setIfInBounds_toArray, List.set_cons_zero, List.set_cons_succ, List.getElem_toArray, List.getElem_cons_zero, List.getElem_cons_succ]
  refine wpAnyH_take (i := 4) (v := ?_) rfl (by kernel_rfl) (by kernel_rfl) (by kernel_rfl) (fun _ _ _ h => h) (Or.inl ⟨by rfl, ?_⟩) (by assumption) ?_
  rotate_left 1
  · (intro w hSw; (try dsimp only at hSw); first | (go_simp; done) | (go_simp; with_reducible rfl))
  try simp only [Act.put, List.setIfInBounds_toArray, List.set_cons_zero, List.set_cons_succ, List.getElem_toArray, List.getElem_cons_zero, List.getElem_cons_succ]
  refine wpAnyH_take (i := 5) (v := ?_) rfl (by kernel_rfl) (by kernel_rfl) (by kernel_rfl) (fun _ _ _ h => h) (Or.inl ⟨by rfl, ?_⟩) (by assumption) ?_
  rotate_left 1
  · (intro w hSw; (try dsimp only at hSw); first | (go_simp; done) | (go_simp; with_reducible rfl))
  try simp only [Act.put, List.setIfInBounds_toArray, List.set_cons_zero, List.set_cons_succ, List.getElem_toArray, List.getElem_cons_zero, List.getElem_cons_succ]
  refine wpAnyH_take (i := 6) (v := ?_) rfl (by kernel_rfl) (by kernel_rfl) (by kernel_rfl) (fun _ _ _ h => h) (Or.inl ⟨by rfl, ?_⟩) (by assumption) ?_
  rotate_left 1
  · (intro w hSw; (try dsimp only at hSw); first | (go_simp; done) | (go_simp; with_reducible rfl))
  try simp only [Act.put, List.setIfInBounds_toArray, List.set_cons_zero, List.set_cons_succ, List.getElem_toArray, List.getElem_cons_zero, List.getElem_cons_succ]
  refine wpAnyH_take (i := 7) (v := ?_) rfl (by kernel_rfl) (by kernel_rfl) (by kernel_rfl) (fun _ _ _ h => h) (Or.inl ⟨by rfl, ?_⟩) (by assumption) ?_
  rotate_left 1
  · (intro w hSw; (try dsimp only at hSw); first | (go_simp; done) | (go_simp; with_reducible rfl))
  try simp only [Act.put, List.setIfInBounds_toArray, List.set_cons_zero, List.set_cons_succ, List.getElem_toArray, List.getElem_cons_zero, List.getElem_cons_succ]
  refine wpAnyH_take (i := 8) (v := ?_) rfl (by kernel_rfl) (by kernel_rfl) (by kernel_rfl) (fun _ _ _ h => h) (Or.inl ⟨by rfl, ?_⟩) (by assumption) ?_
  rotate_left 1
  · (intro w hSw; (try dsimp only at hSw); first | (go_simp; done) | (go_simp; with_reducible rfl))
  try simp only [Act.put, List.setIfInBounds_toArray, List.set_cons_zero, List.set_cons_succ, List.getElem_toArray, List.getElem_cons_zero, List.getElem_cons_succ]
  refine wpAnyH_take (i := 9) (v := ?_) rfl (by kernel_rfl) (by kernel_rfl) (by kernel_rfl) (fun _ _ _ h => h) (Or.inl ⟨by rfl, ?_⟩) (by assumption) ?_
  rotate_left 1
  · (intro w hSw; (try dsimp only at hSw); first | (go_simp; done) | (go_simp; with_reducible rfl))
  try simp only [Act.put, List.setIfInBounds_toArray, List.set_cons_zero, List.set_cons_succ, List.getElem_toArray, List.getElem_cons_zero, List.getElem_cons_succ]
  refine wpAnyH_take (i := 10) (v := ?_) rfl (by kernel_rfl) (by kernel_rfl) (by kernel_rfl) (fun _ _ _ h => h) (Or.inl ⟨by rfl, ?_⟩) (by assumption) ?_
  rotate_left 1
  · (intro w hSw; (try dsimp only at hSw); first | (go_simp; done) | (go_simp; with_reducible rfl))
  try simp only [Act.put, List.setIfInBounds_toArray, List.set_cons_zero, List.set_cons_succ, List.getElem_toArray, List.getElem_cons_zero, List.getElem_cons_succ]
  refine wpAnyH_take (i := 11) (v := ?_) rfl (by kernel_rfl) (by kernel_rfl) (by kernel_rfl) (fun _ _ _ h => h) (Or.inl ⟨by rfl, ?_⟩) (by assumption) ?_
  rotate_left 1
  · (intro w hSw; (try dsimp only at hSw); first | (go_simp; done) | (go_simp; with_reducible rfl))
  try simp only [Act.put, List.setIfInBounds_toArray, List.set_cons_zero, List.set_cons_succ, List.getElem_toArray, List.getElem_cons_zero, List.getElem_cons_succ]
  refine wpAnyH_take (i := 12) (v := ?_) rfl (by kernel_rfl) (by kernel_rfl) (by kernel_rfl) (fun _ _ _ h => h) (Or.inl ⟨by rfl, ?_⟩) (by assumption) ?_
  rotate_left 1
  · (intro w hSw; (try dsimp only at hSw); first | (go_simp; done) | (go_simp; with_reducible rfl))
  try simp only [Act.put, List.setIfInBounds_toArray, List.set_cons_zero, List.set_cons_succ, List.getElem_toArray, List.getElem_cons_zero, List.getElem_cons_succ]
  refine wpAnyH_take (i := 13) (v := ?_) rfl (by kernel_rfl) (by kernel_rfl) (by kernel_rfl) (fun _ _ _ h => h) (Or.inl ⟨by rfl, ?_⟩) (by assumption) ?_
  rotate_left 1
  · (intro w hSw; (try dsimp only at hSw); first | (go_simp; done) | (go_simp; with_reducible rfl))
  try simp only [Act.put, List.setIfInBounds_toArray, List.set_cons_zero, List.set_cons_succ, List.getElem_toArray, List.getElem_cons_zero, List.getElem_cons_succ]
  refine wpAnyH_take (i := 14) (v := ?_) rfl (by kernel_rfl) (by kernel_rfl) (by kernel_rfl) (fun _ _ _ h => h) (Or.inl ⟨by rfl, ?_⟩) (by assumption) ?_
  rotate_left 1
  · (intro w hSw; (try dsimp only at hSw); first | (go_simp; done) | (go_simp; with_reducible rfl))
  try simp only [Act.put, List.setIfInBounds_toArray, List.set_cons_zero, List.set_cons_succ, List.getElem_toArray, List.getElem_cons_zero, List.getElem_cons_succ]
  refine wpAnyH_ready (rs := [15]) (by kernel_rfl) (by simp) ?_
  refine AllReadyH.cons rfl (fun K hK => ?_) AllReadyH.nil
  go_simp
  go_at_call 50
  refine (mz_get HD.out.mz HG.out HB.out.1 HB.out.2.1 HB.out.2.2.1 HB.out.2.2.2 A.who (S.bo + (i : Int)) HWHO.out HWI.out).mono ?_
  rintro e W4 ⟨gv, rfl, ho, hm, hkb⟩
  have HF := Lib.hid (HD.out.call hm hkb)
  clear hm hkb
  obtain ⟨go, gn, gc, rfl⟩ := own_open ho
  have HGV := Lib.hid (ho.sl (plget_wf HG.out A.who (S.bo + (i : Int))))
  clear ho
  try go_wp2_with fail
  refine hK.out _ _ ?_ (fun hHeld => ?_)
  · ((try dsimp only); first | (obtain ⟨k0, k1, _⟩ := HF.out.pa.cells; obtain ⟨_, t1, t2, t3, _⟩ := HF.out.pi.cells; have y1 := (HF.out.kept HXA.out 1).trans HX.out.2; rw [HF.out.as'] at k0; exact ⟨y1, k1, k0, t2⟩))
  clear hK K
  try simp only [Act.put, List.setIfInBounds_toArray, List.set_cons_zero, List.set_cons_succ, List.getElem_toArray, List.getElem_cons_zero, List.getElem_cons_succ]
  refine wpAnyH_ready (rs := [16]) (by kernel_rfl) (by simp) ?_
  refine AllReadyH.cons rfl (fun K hK => ?_) AllReadyH.nil
  go_simp
  go_at_call 49
  refine (plgot_bad HF.out HC.out.2.1 HC.out.1 HGV.out HC.out.2.2.1 HC.out.2.2.2.1 HC.out.2.2.2.2.1 HC.out.2.2.2.2.2 HP.out.1 HP.out.2.1 HP.out.2.2.1 HP.out.2.2.2).mono ?_
  rintro e W5 ⟨rfl, zs2, dv, y1, y2, y3, h5⟩
  have H5 := Lib.hid h5
  have HZ2 := Lib.hid (And.intro y1 (And.intro y2 y3))
  clear y1 y2 y3 h5
  try go_wp2_with fail
  refine hK.out _ _ ?_ (fun hHeld => ?_)
  · ((try dsimp only); first | (obtain ⟨k0, k1, _⟩ := H5.out.pa.cells; obtain ⟨_, t1, t2, t3, _⟩ := H5.out.pi.cells; have y1 := (H5.out.kept HXA.out 1).trans HX.out.2; rw [H5.out.as'] at k0; exact ⟨y1, k1, k0, t2⟩))
  clear hK K
  try simp only [Act.put, List.setIfInBounds_toArray, List.set_cons_zero, List.set_cons_succ, List.getElem_toArray, List.getElem_cons_zero, List.getElem_cons_succ]
  refine wpAnyH_done (by kernel_rfl) ?_ _

  have HU := Lib.hid (H5.out.under (fun j hj hja => (HS.out.1 j hj hja).trans (HR.out.fr j hj hja)) (by have h1 := HS.out.2; have h2 := hX.out; have h3 := HR.out.sz; omega))
  go_wp2_with fail
  first | go_ret | go_end0
  refine ⟨rfl, zs2, A.bx, A.tk, dv, fun j hj => HZ2.out.1 j (HZ1.out.1 j hj), fun j hj => (HZ2.out.2.1 j hj).elim (fun e => (HZ1.out.2 j e).imp id (fun e => by have := hX.out; omega)) (fun e => .inr (by have := hX.out; have := HSZ.out; have := HF.out.sz; omega)), fun g hg => ?_, HU.out⟩
  rcases hg with hg | hg | hg | hg
  · exact .inl (.inl hg)
  · exact .inr (by have := HZ2.out.2.2 g hg; have := hX.out; have := HSZ.out; have := HF.out.sz; omega)
  · exact .inl (.inr (.inr (.inl hg)))
  · exact .inl (.inr (.inr (.inr hg)))

end
section
variable {n0 a s p n k i : Nat} {w0 wr w : World} {fs zs : List Nat} {A : Pa} {P : List Int} {D : List (Int × Int)} {B Bx : Nat → List Batch.Ch} {T l : List Batch.Ch} {M : Mm.St} {hl : Nat → Option Int} {rd0 : Int}
theorem ps_getbad (h : Pg n0 w0 wr fs zs a s ⟨p, 2, 1, 1, n⟩ A P ((2, (i : Int)) :: D) B T M w) (hw : Wp n k rd0 Bx hl M) (hwho : 0 ≤ A.who ∧ A.who ≤ 1000) (hi : i < n) (hn : n ≤ 8) (hk : k ≤ 90000) (hdr : A.dr = false) (hsB : Batch.Sorted (B i)) (hsX : Batch.Sorted (Bx i)) (hlB : (B i).length ≤ 1000) (hbad : Batch.sumsE (Bx i ++ B i) ≠ 0) (hP : P.length ≤ 8) (hPw : ∀ x ∈ P, 0 ≤ x ∧ x < 8) {i0 : Nat} (h0 : P[i0]? = some (i : Int)) (hnq : ∀ (j : Nat) x, P[j]? = some x → j ≠ i0 → x ≠ (i : Int)) :
    Calls Try.prog 13 #[.pointer (some ⟨a, 0, none⟩)] w fun e w' => e = .returned (.bool false) ∧ ∃ M' zs' bx tk dv, Wp n (k + 1) rd0 Bx hl M' ∧ (∀ j ∈ zs, j ∈ zs') ∧ (∀ j ∈ zs', j ∈ zs ∨ w.heap.size ≤ j) ∧ (∀ g, Blk { A with bx := bx, tk := tk, dv := dv, ok := false } g → Blk A g ∨ w.heap.size ≤ g) ∧ Pg n0 w0 wr fs zs' a s ⟨p, 2, 1, 1, n⟩ { A with bx := bx, tk := tk, dv := dv, ok := false } P (giveD P i0 (i : Int)) B T M' w' := by
  have hwi : I64 A.who := ⟨by omega, by omega⟩
  obtain ⟨t1, t2⟩ := hw.look2 hwho.1 hwi hi hn
  have hg := hw.get hwho.1 hi
  have hlen := (hw.wf hi).1
  refine (plstep_yes (D := giveD P i0 (i : Int)) (B' := B) (T' := T) (M' := M.note ⟨A.who, 2, 1 + (i : Int), true⟩) (rd := A.rd) (ok := false) (x1 := (2, (i : Int))) h (hw.sp _) hwi ?_).mono fun e w' hq => ?_
  · refine (pldo_getbad (i := i) h (hw.sp _) hw.good (by omega) (by omega) (by omega) (by omega) hwi (by omega) ⟨by show (0 : Int) ≤ 1; decide, by show (1 : Int) ≤ 100000; decide⟩ hdr hsB (by show Batch.Sorted (getV M A.who (1 + (i : Int))); rw [hg]; exact hsX) (by show (getV M A.who (1 + (i : Int))).length + _ ≤ _; rw [hg]; omega) (by show Batch.sumsE (getV M A.who (1 + (i : Int)) ++ _) ≠ 0; rw [hg]; exact hbad) hP hPw h0 hnq rfl).mono fun e w' hq => ?_
    have hq' : DoQ2 n0 w0 wr fs zs a s ⟨p, 2, 1, 1, n⟩ A P ((2, (i : Int)) :: giveD P i0 (i : Int)) B T (lookS M A.who 2 (1 + (i : Int))) A.rd false w.heap.size e w' := hq
    rw [t1] at hq'
    exact hq'
  · obtain ⟨h1, zs', bx, tk, dv, z1, z2, z3, z4⟩ := hq
    have hne : decide (giveD P i0 (i : Int) = []) = false := decide_eq_false (by unfold giveD; simp)
    have hmk : ∀ (A' : Pa) t, A'.ok = false → mkP A' (giveD P i0 (i : Int)) t = A' := fun A' t e => by
      unfold mkP
      rw [e, if_neg (fun h => by have := h.2; unfold giveD at this; simp [teP] at this)]
    rw [hne] at h1
    rw [hmk _ _ rfl] at z4
    exact ⟨h1, _, zs', bx, tk, dv, t2, z1, z2, z3, z4⟩
end
end Go.Proofs.Ytmggnalobfihnaa.Pl
