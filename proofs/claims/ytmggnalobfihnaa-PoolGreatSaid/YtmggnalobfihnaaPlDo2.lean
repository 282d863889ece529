/-
  PACKAGE pool: do, by kind (Get, Set).
-/
import Derived.Test.YtmggnalobfihnaaJoined10
import Derived.Deep.CutRange
import Derived.Deep.RegionHeldLaw
import Derived.BigQuiet
namespace Go.Proofs.Ytmggnalobfihnaa.Pl
open Go.RowKit Rw Pk Go.Maps Mm
set_option linter.unusedVariables false
section
variable {w w' W : World} {S : Pi} {A A' : Pa} {n a s X i : Nat} {w0 wr : World} {fs zs zs' : List Nat} {P : List Int} {D D' : List (Int × Int)} {B B' : Nat → List Batch.Ch} {T T' l : List Batch.Ch} {M M' : Mm.St} {ga gb gc k : Nat} {v : Value}
set_option maxRecDepth 1000000 in
set_option maxHeartbeats 16000000 in
theorem pldo_getp (h : Pg n w0 wr fs zs a s S A P D B T M w) (hsp : M.sp A.who = false) (hG : Mm.Good ga gb gc k M) (ha : ga ≤ 65536) (hb : gb ≤ 65536) (hc : gc ≤ 65536) (hk : k ≤ 100000) (hwho : I64 A.who) (hi : i < 8) (hbo : 0 ≤ S.bo ∧ S.bo ≤ 100000) (hdr : A.dr = false) (hsB : Batch.Sorted (B i)) (hsL : Batch.Sorted (getV M A.who (S.bo + (i : Int)))) (hl : (getV M A.who (S.bo + (i : Int))).length + (B i).length ≤ 100000) (hok : Batch.sumsE ((getV M A.who (S.bo + (i : Int))) ++ B i) = 0) :
    Calls Try.prog 35 #[.pointer (some ⟨a, 0, none⟩), .agg #[.int .i64 2, .int .i64 (i : Int)]] w (DoQ n w0 wr fs zs a s S A P D (boxB B i (Batch.sumsR ((getV M A.who (S.bo + (i : Int))) ++ B i))) T (lookS M A.who 2 (S.bo + (i : Int))) A.rd w.heap.size) := by
  have HR := Lib.hid h
  obtain ⟨c0, c1, c2, c3, c12, c13, c14, c15, c16, cf⟩ := h.pa.cells
  obtain ⟨s0, s1, s2, s3, s4⟩ := h.pi.cells
  rw [h.as'] at c0
  have hal := h.pa.lt
  have hsl := h.pi.lt
  have HG := Lib.hid hG
  have HB := Lib.hid (And.intro ha (And.intro hb (And.intro hc hk)))
  have HWHO := Lib.hid hwho
  have HWI : Hid (I64 (S.bo + (i : Int))) := Lib.hid ⟨by omega, by omega⟩
  have hw1 : IntKind.i64.wrap (S.bo + (i : Int)) = (S.bo + (i : Int)) := w_id HWI.out
  have HC := Lib.hid (And.intro hi (And.intro hdr (And.intro hsB (And.intro hsL (And.intro hl hok)))))
  clear hi hdr hsB hsL hl hok hbo

  clear h hG hsp ha hb hc hk hwho
  go_enter Try.func35, Try.ntmps35
  go_upto_region 1 with fail
  go_region
  go_upto_region 6 with fail
  have hn := heap_alloc_new w (.cells #[Value.int .i64 (2), .int .i64 ((i : Int))] 76)
  have hxl : w.heap.size < (w.alloc (.cells #[Value.int .i64 (2), .int .i64 ((i : Int))] 76)).drew.heap.size := (Array.getElem?_eq_some_iff.1 hn).1
  have x0 : (w.alloc (.cells #[Value.int .i64 (2), .int .i64 ((i : Int))] 76)).drew.cell? ⟨w.heap.size, 0, none⟩ = some (.int .i64 (2)) := cell_of_row _ _ _ _ _ _ hn
  have x1 : (w.alloc (.cells #[Value.int .i64 (2), .int .i64 ((i : Int))] 76)).drew.cell? ⟨w.heap.size, 1, none⟩ = some (.int .i64 ((i : Int))) := cell_of_row _ _ _ _ _ _ hn
  have hbx : Below w.heap.size w (w.alloc (.cells #[Value.int .i64 (2), .int .i64 ((i : Int))] 76)).drew := ((Below.refl _ _).alloc (Nat.le_refl _) _).drew
  obtain ⟨zs1, y1, y2, hov⟩ := HR.out.over hbx (Nat.le_refl w.heap.size) hxl
  have HO := Lib.hid hov
  have HZ1 := Lib.hid (And.intro y1 y2)
  have HS := Lib.hid (And.intro (fun j (hj : j ∈ fs) (_ : j ≠ a) => hbx.block j (blk_lt HR.out.mz j (HR.out.fz j hj))) hbx.size)
  have HX := Lib.hid (And.intro x0 x1)
  have HXA : Hid (w.heap.size ≠ a) := Lib.hid (by omega)
  have HSZ := Lib.hid hbx.size
  generalize hX : w.heap.size = X at *
  replace hX := Lib.hid hX
  generalize (w.alloc (.cells #[Value.int .i64 (2), .int .i64 ((i : Int))] 76)).drew = W at *
  clear hn hxl hbx hov y1 y2 c0 c1 c2 c3 c12 c13 c14 c15 c16 cf s0 s1 s2 s3 s4 x0 x1 hal hsl
  have HD := Lib.hid (HO.out.below (Below.refl _ _).drew)
  obtain ⟨c0, c1, c2, c3, c12, c13, c14, c15, c16, cf⟩ := HD.out.pa.cells
  obtain ⟨s0, s1, s2, s3, s4⟩ := HD.out.pi.cells
  rw [HD.out.as'] at c0
  have x0 := (HD.out.kept HXA.out 0).trans HX.out.1
  have x1 := (HD.out.kept HXA.out 1).trans HX.out.2
  refine wp_region_held_drew (S := (fun w' => w'.cell? ⟨X, 1, none⟩ = some (.int .i64 (i : Int)) ∧ w'.cell? ⟨a, 1, none⟩ = some (.int .i64 A.who) ∧ w'.cell? ⟨a, 0, none⟩ = some (.pointer (some ⟨s, 0, none⟩)) ∧ w'.cell? ⟨s, 2, none⟩ = some (.int .i64 S.bo))) (by kernel_rfl) ?_ (fun hHeld => ?_)
  · ((try dsimp only); first | (obtain ⟨k0, k1, _⟩ := HD.out.pa.cells; obtain ⟨_, t1, t2, t3, _⟩ := HD.out.pi.cells; have y1 := (HD.out.kept HXA.out 1).trans HX.out.2; rw [HD.out.as'] at k0; exact ⟨y1, k1, k0, t2⟩))
  refine wpAnyH_take (i := 0) (v := ?_) rfl (by kernel_rfl) (by kernel_rfl) (by kernel_rfl) (fun _ _ _ h => h) (Or.inl ⟨by rfl, ?_⟩) (by assumption) ?_
  rotate_left 1
  · (intro w hSw; (try dsimp only at hSw); first | (go_simp; done) | (go_simp; with_reducible rfl))
  try simp only [Act.put, List.setIfInBounds_toArray, List.set_cons_zero, List.set_cons_succ, List.getElem_toArray, List.getElem_cons_zero]
  refine wpAnyH_take (i := 1) (v := ?_) rfl (by kernel_rfl) (by kernel_rfl) (by kernel_rfl) (fun _ _ _ h => h) (Or.inl ⟨by rfl, ?_⟩) (by assumption) ?_
  rotate_left 1
  · (intro w hSw; (try dsimp only at hSw); first | (go_simp; done) | (go_simp; with_reducible rfl))
  try simp only [Act.put, List.setIfInBounds_toArray, List.set_cons_zero, List.set_cons_succ, List.getElem_toArray, List.getElem_cons_zero, List.getElem_cons_succ]
  refine wpAnyH_take (i := 2) (v := ?_) rfl (by kernel_rfl) (by kernel_rfl) (by kernel_rfl) (fun _ _ _ h => h) (Or.inl ⟨by rfl, ?_⟩) (by assumption) ?_
  rotate_left 1
  · (intro w hSw; (try dsimp only at hSw); first | (go_simp; done) | (go_simp; with_reducible rfl))
  try simp only [Act.put, List.setIfInBounds_toArray, List.set_cons_zero, List.set_cons_succ, List.getElem_toArray, List.getElem_cons_zero, List.getElem_cons_succ]
  refine wpAnyH_take (i := 3) (v := ?_) rfl (by kernel_rfl) (by kernel_rfl) (by kernel_rfl) (fun _ _ _ h => h) (Or.inl ⟨by rfl, ?_⟩) (by assumption) ?_
  rotate_left 1
  · (intro w hSw; (try dsimp only at hSw); first | (go_simp; done) | (go_simp; with_reducible rfl))
  try simp only [Act.put, List.setIfInBounds_toArray, List.set_cons_zero, List.set_cons_succ, List.getElem_toArray, List.getElem_cons_zero, List.getElem_cons_succ]
  refine wpAnyH_take (i := 4) (v := ?_) rfl (by kernel_rfl) (by kernel_rfl) (by kernel_rfl) (fun _ _ _ h => h) (Or.inl ⟨by rfl, ?_⟩) (by assumption) ?_
  rotate_left 1
  · (intro w hSw; (try dsimp only at hSw); first | (go_simp; done) | (go_simp; with_reducible rfl))
  try simp only [Act.put, List.setIfInBounds_toArray, List.set_cons_zero, List.set_cons_succ, List.getElem_toArray, List.getElem_cons_zero, List.getElem_cons_succ]
  refine wpAnyH_take (i := 5) (v := ?_) rfl (by kernel_rfl) (by kernel_rfl) (by kernel_rfl) (fun _ _ _ h => h) (Or.inl ⟨by rfl, ?_⟩) (by assumption) ?_
  rotate_left 1
  · (intro w hSw; (try dsimp only at hSw); first | (go_simp; done) | (go_simp; with_reducible rfl))
  try simp only [Act.put, List.setIfInBounds_toArray, List.set_cons_zero, List.set_cons_succ, List.getElem_toArray, List.getElem_cons_zero, List.getElem_cons_succ]
  refine wpAnyH_take (i := 6) (v := ?_) rfl (by kernel_rfl) (by kernel_rfl) (by kernel_rfl) (fun _ _ _ h => h) (Or.inl ⟨by rfl, ?_⟩) (by assumption) ?_
  rotate_left 1
  · (intro w hSw; (try dsimp only at hSw); first | (go_simp; done) | (go_simp; with_reducible rfl))
  try simp only [Act.put, List.setIfInBounds_toArray, List.set_cons_zero, List.set_cons_succ, List.getElem_toArray, List.getElem_cons_zero, List.getElem_cons_succ]
  refine wpAnyH_take (i := 7) (v := ?_) rfl (by kernel_rfl) (by kernel_rfl) (by kernel_rfl) (fun _ _ _ h => h) (Or.inl ⟨by rfl, ?_⟩) (by assumption) ?_
  rotate_left 1
  · (intro w hSw; (try dsimp only at hSw); first | (go_simp; done) | (go_simp; with_reducible rfl))
  try simp only [Act.put, List.setIfInBounds_toArray, List.set_cons_zero, List.set_cons_succ, List.getElem_toArray, List.getElem_cons_zero, List.getElem_cons_succ]
  refine wpAnyH_take (i := 8) (v := ?_) rfl (by kernel_rfl) (by kernel_rfl) (by kernel_rfl) (fun _ _ _ h => h) (Or.inl ⟨by rfl, ?_⟩) (by assumption) ?_
  rotate_left 1
  · (intro w hSw; (try dsimp only at hSw); first | (go_simp; done) | (go_simp; with_reducible rfl))
  try simp only [Act.put, List.setIfInBounds_toArray, List.set_cons_zero, List.set_cons_succ, List.getElem_toArray, List.getElem_cons_zero, List.getElem_cons_succ]
  refine wpAnyH_take (i := 9) (v := ?_) rfl (by kernel_rfl) (by kernel_rfl) (by kernel_rfl) (fun _ _ _ h => h) (Or.inl ⟨by rfl, ?_⟩) (by assumption) ?_
  rotate_left 1
  · (intro w hSw; (try dsimp only at hSw); first | (go_simp; done) | (go_simp; with_reducible rfl))
  try simp only [Act.put, List.setIfInBounds_toArray, List.set_cons_zero, List.set_cons_succ, List.getElem_toArray, List.getElem_cons_zero, List.getElem_cons_succ]
  refine wpAnyH_take (i := 10) (v := ?_) rfl (by kernel_rfl) (by kernel_rfl) (by kernel_rfl) (fun _ _ _ h => h) (Or.inl ⟨by rfl, ?_⟩) (by assumption) ?_
  rotate_left 1
  · (intro w hSw; (try dsimp only at hSw); first | (go_simp; done) | (go_simp; with_reducible rfl))
  try simp only [Act.put, List.setIfInBounds_toArray, List.set_cons_zero, List.set_cons_succ, List.getElem_toArray, List.getElem_cons_zero, List.getElem_cons_succ]
  refine wpAnyH_take (i := 11) (v := ?_) rfl (by kernel_rfl) (by kernel_rfl) (by kernel_rfl) (fun _ _ _ h => h) (Or.inl ⟨by rfl, ?_⟩) (by assumption) ?_
  rotate_left 1
  · (intro w hSw; (try dsimp only at hSw); first | (go_simp; done) | (go_simp; with_reducible rfl))
  try simp only [Act.put, List.setIfInBounds_toArray, List.set_cons_zero, List.set_cons_succ, List.getElem_toArray, List.getElem_cons_zero, List.getElem_cons_succ]
  refine wpAnyH_take (i := 12) (v := ?_) rfl (by kernel_rfl) (by kernel_rfl) (by kernel_rfl) (fun _ _ _ h => h) (Or.inl ⟨by rfl, ?_⟩) (by assumption) ?_
  rotate_left 1
  · (intro w hSw; (try dsimp only at hSw); first | (go_simp; done) | (go_simp; with_reducible rfl))
  try simp only [Act.put, List.setIfInBounds_toArray, List.set_cons_zero, List.set_cons_succ, List.getElem_toArray, List.getElem_cons_zero, List.getElem_cons_succ]
  refine wpAnyH_take (i := 13) (v := ?_) rfl (by kernel_rfl) (by kernel_rfl) (by kernel_rfl) (fun _ _ _ h => h) (Or.inl ⟨by rfl, ?_⟩) (by assumption) ?_
  rotate_left 1
  · (intro w hSw; (try dsimp only at hSw); first | (go_simp; done) | (go_simp; with_reducible rfl))
  try simp only [Act.put, List.setIfInBounds_toArray, List.set_cons_zero, List.set_cons_succ, List.getElem_toArray, List.getElem_cons_zero, List.getElem_cons_succ]
  refine wpAnyH_take (i := 14) (v := ?_) rfl (by kernel_rfl) (by kernel_rfl) (by kernel_rfl) (fun _ _ _ h => h) (Or.inl ⟨by rfl, ?_⟩) (by assumption) ?_
  rotate_left 1
  · (intro w hSw; (try dsimp only at hSw); first | (go_simp; done) | (go_simp; with_reducible rfl))
  try simp only [Act.put, List.setIfInBounds_toArray, List.set_cons_zero, List.set_cons_succ, List.getElem_toArray, List.getElem_cons_zero, List.getElem_cons_succ]
  refine wpAnyH_ready (rs := [15]) (by kernel_rfl) (by simp) ?_
  refine AllReadyH.cons rfl (fun K hK => ?_) AllReadyH.nil
  go_simp
  go_at_call 50
  refine (mz_get HD.out.mz HG.out HB.out.1 HB.out.2.1 HB.out.2.2.1 HB.out.2.2.2 A.who (S.bo + (i : Int)) HWHO.out HWI.out).mono ?_
  rintro e W4 ⟨gv, rfl, ho, hm, hkb⟩
  have HF := Lib.hid (HD.out.call hm hkb)
  clear hm hkb
  obtain ⟨go, gn, gc, rfl⟩ := own_open ho
  have HGV := Lib.hid (ho.sl (plget_wf HG.out A.who (S.bo + (i : Int))))
  clear ho
  try go_wp2_with fail
  refine hK.out _ _ ?_ (fun hHeld => ?_)
  · ((try dsimp only); first | (obtain ⟨k0, k1, _⟩ := HF.out.pa.cells; obtain ⟨_, t1, t2, t3, _⟩ := HF.out.pi.cells; have y1 := (HF.out.kept HXA.out 1).trans HX.out.2; rw [HF.out.as'] at k0; exact ⟨y1, k1, k0, t2⟩))
  clear hK K
  try simp only [Act.put, List.setIfInBounds_toArray, List.set_cons_zero, List.set_cons_succ, List.getElem_toArray, List.getElem_cons_zero, List.getElem_cons_succ]
  refine wpAnyH_ready (rs := [16]) (by kernel_rfl) (by simp) ?_
  refine AllReadyH.cons rfl (fun K hK => ?_) AllReadyH.nil
  go_simp
  go_at_call 49
  refine (plgot_put HF.out HC.out.2.1 HC.out.1 HGV.out HC.out.2.2.1 HC.out.2.2.2.1 HC.out.2.2.2.2.1 HC.out.2.2.2.2.2).mono ?_
  rintro e W5 ⟨rfl, zs2, bv, y1, y2, y3, h5⟩
  have H5 := Lib.hid h5
  have HZ2 := Lib.hid (And.intro y1 (And.intro y2 y3))
  clear y1 y2 y3 h5
  try go_wp2_with fail
  refine hK.out _ _ ?_ (fun hHeld => ?_)
  · ((try dsimp only); first | (obtain ⟨k0, k1, _⟩ := H5.out.pa.cells; obtain ⟨_, t1, t2, t3, _⟩ := H5.out.pi.cells; have y1 := (H5.out.kept HXA.out 1).trans HX.out.2; rw [H5.out.as'] at k0; exact ⟨y1, k1, k0, t2⟩))
  clear hK K
  try simp only [Act.put, List.setIfInBounds_toArray, List.set_cons_zero, List.set_cons_succ, List.getElem_toArray, List.getElem_cons_zero, List.getElem_cons_succ]
  refine wpAnyH_done (by kernel_rfl) ?_ _

  have HU := Lib.hid (H5.out.under (fun j hj hja => (HS.out.1 j hj hja).trans (HR.out.fr j hj hja)) (by have h1 := HS.out.2; have h2 := hX.out; have h3 := HR.out.sz; omega))
  go_wp2_with fail
  first | go_ret | go_end0
  refine ⟨rfl, zs2, (A.box i bv).bx, A.tk, fun j hj => HZ2.out.1 j (HZ1.out.1 j hj), fun j hj => (HZ2.out.2.1 j hj).elim (fun e => (HZ1.out.2 j e).imp id (fun e => by have := hX.out; omega)) (fun e => .inr (by have := hX.out; have := HSZ.out; have := HF.out.sz; omega)), fun g hg => ?_, HU.out⟩
  rcases hg with hg | hg | hg | ⟨j, hj, hg⟩
  · exact .inl (.inl hg)
  · exact .inl (.inr (.inl hg))
  · exact .inl (.inr (.inr (.inl hg)))
  · unfold Pa.box at hg
    by_cases e : j = i
    · simp only [if_pos e] at hg
      exact .inr (by have := HZ2.out.2.2 g hg; have := hX.out; have := HSZ.out; have := HF.out.sz; omega)
    · simp only [if_neg e] at hg
      exact .inl (.inr (.inr (.inr ⟨j, hj, hg⟩)))

set_option maxRecDepth 1000000 in
set_option maxHeartbeats 16000000 in
theorem pldo_getd (h : Pg n w0 wr fs zs a s S A P D B T M w) (hsp : M.sp A.who = false) (hG : Mm.Good ga gb gc k M) (ha : ga ≤ 65536) (hb : gb ≤ 65536) (hc : gc ≤ 65536) (hk : k ≤ 100000) (hwho : I64 A.who) (hi : i < 8) (hbo : 0 ≤ S.bo ∧ S.bo ≤ 100000) (hdr : A.dr = true) (hsT : Batch.Sorted T) (hsL : Batch.Sorted (getV M A.who (S.bo + (i : Int)))) (hl : T.length + (getV M A.who (S.bo + (i : Int))).length ≤ 100000) :
    Calls Try.prog 35 #[.pointer (some ⟨a, 0, none⟩), .agg #[.int .i64 2, .int .i64 (i : Int)]] w (DoQ n w0 wr fs zs a s S A P D B (Batch.sumsR (T ++ (getV M A.who (S.bo + (i : Int))))) (lookS M A.who 2 (S.bo + (i : Int))) A.rd w.heap.size) := by
  have HR := Lib.hid h
  obtain ⟨c0, c1, c2, c3, c12, c13, c14, c15, c16, cf⟩ := h.pa.cells
  obtain ⟨s0, s1, s2, s3, s4⟩ := h.pi.cells
  rw [h.as'] at c0
  have hal := h.pa.lt
  have hsl := h.pi.lt
  have HG := Lib.hid hG
  have HB := Lib.hid (And.intro ha (And.intro hb (And.intro hc hk)))
  have HWHO := Lib.hid hwho
  have HWI : Hid (I64 (S.bo + (i : Int))) := Lib.hid ⟨by omega, by omega⟩
  have hw1 : IntKind.i64.wrap (S.bo + (i : Int)) = (S.bo + (i : Int)) := w_id HWI.out
  have HC := Lib.hid (And.intro hi (And.intro hdr (And.intro hsT (And.intro hsL hl))))
  clear hi hdr hsT hsL hl hbo

  clear h hG hsp ha hb hc hk hwho
  go_enter Try.func35, Try.ntmps35
  go_upto_region 1 with fail
  go_region
  go_upto_region 6 with fail
  have hn := heap_alloc_new w (.cells #[Value.int .i64 (2), .int .i64 ((i : Int))] 76)
  have hxl : w.heap.size < (w.alloc (.cells #[Value.int .i64 (2), .int .i64 ((i : Int))] 76)).drew.heap.size := (Array.getElem?_eq_some_iff.1 hn).1
  have x0 : (w.alloc (.cells #[Value.int .i64 (2), .int .i64 ((i : Int))] 76)).drew.cell? ⟨w.heap.size, 0, none⟩ = some (.int .i64 (2)) := cell_of_row _ _ _ _ _ _ hn
  have x1 : (w.alloc (.cells #[Value.int .i64 (2), .int .i64 ((i : Int))] 76)).drew.cell? ⟨w.heap.size, 1, none⟩ = some (.int .i64 ((i : Int))) := cell_of_row _ _ _ _ _ _ hn
  have hbx : Below w.heap.size w (w.alloc (.cells #[Value.int .i64 (2), .int .i64 ((i : Int))] 76)).drew := ((Below.refl _ _).alloc (Nat.le_refl _) _).drew
  obtain ⟨zs1, y1, y2, hov⟩ := HR.out.over hbx (Nat.le_refl w.heap.size) hxl
  have HO := Lib.hid hov
  have HZ1 := Lib.hid (And.intro y1 y2)
  have HS := Lib.hid (And.intro (fun j (hj : j ∈ fs) (_ : j ≠ a) => hbx.block j (blk_lt HR.out.mz j (HR.out.fz j hj))) hbx.size)
  have HX := Lib.hid (And.intro x0 x1)
  have HXA : Hid (w.heap.size ≠ a) := Lib.hid (by omega)
  have HSZ := Lib.hid hbx.size
  generalize hX : w.heap.size = X at *
  replace hX := Lib.hid hX
  generalize (w.alloc (.cells #[Value.int .i64 (2), .int .i64 ((i : Int))] 76)).drew = W at *
  clear hn hxl hbx hov y1 y2 c0 c1 c2 c3 c12 c13 c14 c15 c16 cf s0 s1 s2 s3 s4 x0 x1 hal hsl
  have HD := Lib.hid (HO.out.below (Below.refl _ _).drew)
  obtain ⟨c0, c1, c2, c3, c12, c13, c14, c15, c16, cf⟩ := HD.out.pa.cells
  obtain ⟨s0, s1, s2, s3, s4⟩ := HD.out.pi.cells
  rw [HD.out.as'] at c0
  have x0 := (HD.out.kept HXA.out 0).trans HX.out.1
  have x1 := (HD.out.kept HXA.out 1).trans HX.out.2
  refine wp_region_held_drew (S := (fun w' => w'.cell? ⟨X, 1, none⟩ = some (.int .i64 (i : Int)) ∧ w'.cell? ⟨a, 1, none⟩ = some (.int .i64 A.who) ∧ w'.cell? ⟨a, 0, none⟩ = some (.pointer (some ⟨s, 0, none⟩)) ∧ w'.cell? ⟨s, 2, none⟩ = some (.int .i64 S.bo))) (by kernel_rfl) ?_ (fun hHeld => ?_)
  · ((try dsimp only); first | (obtain ⟨k0, k1, _⟩ := HD.out.pa.cells; obtain ⟨_, t1, t2, t3, _⟩ := HD.out.pi.cells; have y1 := (HD.out.kept HXA.out 1).trans HX.out.2; rw [HD.out.as'] at k0; exact ⟨y1, k1, k0, t2⟩))
  refine wpAnyH_take (i := 0) (v := ?_) rfl (by kernel_rfl) (by kernel_rfl) (by kernel_rfl) (fun _ _ _ h => h) (Or.inl ⟨by rfl, ?_⟩) (by assumption) ?_
  rotate_left 1
  · (intro w hSw; (try dsimp only at hSw); first | (go_simp; done) | (go_simp; with_reducible rfl))
  try simp only [Act.put, List.setIfInBounds_toArray, List.set_cons_zero, List.set_cons_succ, List.getElem_toArray, List.getElem_cons_zero]
  refine wpAnyH_take (i := 1) (v := ?_) rfl (by kernel_rfl) (by kernel_rfl) (by kernel_rfl) (fun _ _ _ h => h) (Or.inl ⟨by rfl, ?_⟩) (by assumption) ?_
  rotate_left 1
  · (intro w hSw; (try dsimp only at hSw); first | (go_simp; done) | (go_simp; with_reducible rfl))
  try simp only [Act.put, List.setIfInBounds_toArray, List.set_cons_zero, List.set_cons_succ, List.getElem_toArray, List.getElem_cons_zero, List.getElem_cons_succ]
  refine wpAnyH_take (i := 2) (v := ?_) rfl (by kernel_rfl) (by kernel_rfl) (by kernel_rfl) (fun _ _ _ h => h) (Or.inl ⟨by rfl, ?_⟩) (by assumption) ?_
  rotate_left 1
  · (intro w hSw; (try dsimp only at hSw); first | (go_simp; done) | (go_simp; with_reducible rfl))
  try simp only [Act.put, List.setIfInBounds_toArray, List.set_cons_zero, List.set_cons_succ, List.getElem_toArray, List.getElem_cons_zero, List.getElem_cons_succ]
  refine wpAnyH_take (i := 3) (v := ?_) rfl (by kernel_rfl) (by kernel_rfl) (by kernel_rfl) (fun _ _ _ h => h) (Or.inl ⟨by rfl, ?_⟩) (by assumption) ?_
  rotate_left 1
  · (intro w hSw; (try dsimp only at hSw); first | (go_simp; done) | (go_simp; with_reducible rfl))
  try simp only [Act.put, List.setIfInBounds_toArray, List.set_cons_zero, List.set_cons_succ, List.getElem_toArray, List.getElem_cons_zero, List.getElem_cons_succ]
  refine wpAnyH_take (i := 4) (v := ?_) rfl (by kernel_rfl) (by kernel_rfl) (by kernel_rfl) (fun _ _ _ h => h) (Or.inl ⟨by rfl, ?_⟩) (by assumption) ?_
  rotate_left 1
  · (intro w hSw; (try dsimp only at hSw); first | (go_simp; done) | (go_simp; with_reducible rfl))
  try simp only [Act.put, List.setIfInBounds_toArray, List.set_cons_zero, List.set_cons_succ, List.getElem_toArray, List.getElem_cons_zero, List.getElem_cons_succ]
  refine wpAnyH_take (i := 5) (v := ?_) rfl (by kernel_rfl) (by kernel_rfl) (by kernel_rfl) (fun _ _ _ h => h) (Or.inl ⟨by rfl, ?_⟩) (by assumption) ?_
  rotate_left 1
  · (intro w hSw; (try dsimp only at hSw); first | (go_simp; done) | (go_simp; with_reducible rfl))
  try simp only [Act.put, List.setIfInBounds_toArray, List.set_cons_zero, List.set_cons_succ, List.getElem_toArray, List.getElem_cons_zero, List.getElem_cons_succ]
  refine wpAnyH_take (i := 6) (v := ?_) rfl (by kernel_rfl) (by kernel_rfl) (by kernel_rfl) (fun _ _ _ h => h) (Or.inl ⟨by rfl, ?_⟩) (by assumption) ?_
  rotate_left 1
  · (intro w hSw; (try dsimp only at hSw); first | (go_simp; done) | (go_simp; with_reducible rfl))
  try simp only [Act.put, List.setIfInBounds_toArray, List.set_cons_zero, List.set_cons_succ, List.getElem_toArray, List.getElem_cons_zero, List.getElem_cons_succ]
  refine wpAnyH_take (i := 7) (v := ?_) rfl (by kernel_rfl) (by kernel_rfl) (by kernel_rfl) (fun _ _ _ h => h) (Or.inl ⟨by rfl, ?_⟩) (by assumption) ?_
  rotate_left 1
  · (intro w hSw; (try dsimp only at hSw); first | (go_simp; done) | (go_simp; with_reducible rfl))
  try simp only [Act.put, List.setIfInBounds_toArray, List.set_cons_zero, List.set_cons_succ, List.getElem_toArray, List.getElem_cons_zero, List.getElem_cons_succ]
  refine wpAnyH_take (i := 8) (v := ?_) rfl (by kernel_rfl) (by kernel_rfl) (by kernel_rfl) (fun _ _ _ h => h) (Or.inl ⟨by rfl, ?_⟩) (by assumption) ?_
  rotate_left 1
  · (intro w hSw; (try dsimp only at hSw); first | (go_simp; done) | (go_simp; with_reducible rfl))
  try simp only [Act.put, List.setIfInBounds_toArray, List.set_cons_zero, List.set_cons_succ, List.getElem_toArray, List.getElem_cons_zero, List.getElem_cons_succ]
  refine wpAnyH_take (i := 9) (v := ?_) rfl (by kernel_rfl) (by kernel_rfl) (by kernel_rfl) (fun _ _ _ h => h) (Or.inl ⟨by rfl, ?_⟩) (by assumption) ?_
  rotate_left 1
  · (intro w hSw; (try dsimp only at hSw); first | (go_simp; done) | (go_simp; with_reducible rfl))
  try simp only [Act.put, List.setIfInBounds_toArray, List.set_cons_zero, List.set_cons_succ, List.getElem_toArray, List.getElem_cons_zero, List.getElem_cons_succ]
  refine wpAnyH_take (i := 10) (v := ?_) rfl (by kernel_rfl) (by kernel_rfl) (by kernel_rfl) (fun _ _ _ h => h) (Or.inl ⟨by rfl, ?_⟩) (by assumption) ?_
  rotate_left 1
  · (intro w hSw; (try dsimp only at hSw); first | (go_simp; done) | (go_simp; with_reducible rfl))
  try simp only [Act.put, List.setIfInBounds_toArray, List.set_cons_zero, List.set_cons_succ, List.getElem_toArray, List.getElem_cons_zero, List.getElem_cons_succ]
  refine wpAnyH_take (i := 11) (v := ?_) rfl (by kernel_rfl) (by kernel_rfl) (by kernel_rfl) (fun _ _ _ h => h) (Or.inl ⟨by rfl, ?_⟩) (by assumption) ?_
  rotate_left 1
  · (intro w hSw; (try dsimp only at hSw); first | (go_simp; done) | (go_simp; with_reducible rfl))
  try simp only [Act.put, List.setIfInBounds_toArray, List.set_cons_zero, List.set_cons_succ, List.getElem_toArray, List.getElem_cons_zero, List.getElem_cons_succ]
  refine wpAnyH_take (i := 12) (v := ?_) rfl (by kernel_rfl) (by kernel_rfl) (by kernel_rfl) (fun _ _ _ h => h) (Or.inl ⟨by rfl, ?_⟩) (by assumption) ?_
  rotate_left 1
  · (intro w hSw; (try dsimp only at hSw); first | (go_simp; done) | (go_simp; with_reducible rfl))
  try simp only [Act.put, List.setIfInBounds_toArray, List.set_cons_zero, List.set_cons_succ, List.getElem_toArray, List.getElem_cons_zero, List.getElem_cons_succ]
  refine wpAnyH_take (i := 13) (v := ?_) rfl (by kernel_rfl) (by kernel_rfl) (by kernel_rfl) (fun _ _ _ h => h) (Or.inl ⟨by rfl, ?_⟩) (by assumption) ?_
  rotate_left 1
  · (intro w hSw; (try dsimp only at hSw); first | (go_simp; done) | (go_simp; with_reducible rfl))
  try simp only [Act.put, List.setIfInBounds_toArray, List.set_cons_zero, List.set_cons_succ, List.getElem_toArray, List.getElem_cons_zero, List.getElem_cons_succ]
  refine wpAnyH_take (i := 14) (v := ?_) rfl (by kernel_rfl) (by kernel_rfl) (by kernel_rfl) (fun _ _ _ h => h) (Or.inl ⟨by rfl, ?_⟩) (by assumption) ?_
  rotate_left 1
  · (intro w hSw; (try dsimp only at hSw); first | (go_simp; done) | (go_simp; with_reducible rfl))
  try simp only [Act.put, List.setIfInBounds_toArray, List.set_cons_zero, List.set_cons_succ, List.getElem_toArray, List.getElem_cons_zero, List.getElem_cons_succ]
  refine wpAnyH_ready (rs := [15]) (by kernel_rfl) (by simp) ?_
  refine AllReadyH.cons rfl (fun K hK => ?_) AllReadyH.nil
  go_simp
  go_at_call 50
  refine (mz_get HD.out.mz HG.out HB.out.1 HB.out.2.1 HB.out.2.2.1 HB.out.2.2.2 A.who (S.bo + (i : Int)) HWHO.out HWI.out).mono ?_
  rintro e W4 ⟨gv, rfl, ho, hm, hkb⟩
  have HF := Lib.hid (HD.out.call hm hkb)
  clear hm hkb
  obtain ⟨go, gn, gc, rfl⟩ := own_open ho
  have HGV := Lib.hid (ho.sl (plget_wf HG.out A.who (S.bo + (i : Int))))
  clear ho
  try go_wp2_with fail
  refine hK.out _ _ ?_ (fun hHeld => ?_)
  · ((try dsimp only); first | (obtain ⟨k0, k1, _⟩ := HF.out.pa.cells; obtain ⟨_, t1, t2, t3, _⟩ := HF.out.pi.cells; have y1 := (HF.out.kept HXA.out 1).trans HX.out.2; rw [HF.out.as'] at k0; exact ⟨y1, k1, k0, t2⟩))
  clear hK K
  try simp only [Act.put, List.setIfInBounds_toArray, List.set_cons_zero, List.set_cons_succ, List.getElem_toArray, List.getElem_cons_zero, List.getElem_cons_succ]
  refine wpAnyH_ready (rs := [16]) (by kernel_rfl) (by simp) ?_
  refine AllReadyH.cons rfl (fun K hK => ?_) AllReadyH.nil
  go_simp
  go_at_call 49
  refine (plgot_dr HF.out HC.out.2.1 HGV.out HC.out.2.2.1 HC.out.2.2.2.1 HC.out.2.2.2.2 _).mono ?_
  rintro e W5 ⟨rfl, zs2, tv, y1, y2, y3, h5⟩
  have H5 := Lib.hid h5
  have HZ2 := Lib.hid (And.intro y1 (And.intro y2 y3))
  clear y1 y2 y3 h5
  try go_wp2_with fail
  refine hK.out _ _ ?_ (fun hHeld => ?_)
  · ((try dsimp only); first | (obtain ⟨k0, k1, _⟩ := H5.out.pa.cells; obtain ⟨_, t1, t2, t3, _⟩ := H5.out.pi.cells; have y1 := (H5.out.kept HXA.out 1).trans HX.out.2; rw [H5.out.as'] at k0; exact ⟨y1, k1, k0, t2⟩))
  clear hK K
  try simp only [Act.put, List.setIfInBounds_toArray, List.set_cons_zero, List.set_cons_succ, List.getElem_toArray, List.getElem_cons_zero, List.getElem_cons_succ]
  refine wpAnyH_done (by kernel_rfl) ?_ _

  have HU := Lib.hid (H5.out.under (fun j hj hja => (HS.out.1 j hj hja).trans (HR.out.fr j hj hja)) (by have h1 := HS.out.2; have h2 := hX.out; have h3 := HR.out.sz; omega))
  go_wp2_with fail
  first | go_ret | go_end0
  refine ⟨rfl, zs2, A.bx, tv, fun j hj => HZ2.out.1 j (HZ1.out.1 j hj), fun j hj => (HZ2.out.2.1 j hj).elim (fun e => (HZ1.out.2 j e).imp id (fun e => by have := hX.out; omega)) (fun e => .inr (by have := hX.out; have := HSZ.out; have := HF.out.sz; omega)), fun g hg => ?_, HU.out⟩
  rcases hg with hg | hg | hg | ⟨j, hj, hg⟩
  · exact .inl (.inl hg)
  · exact .inl (.inr (.inl hg))
  · exact .inr (by have := HZ2.out.2.2 g hg; have := hX.out; have := HSZ.out; have := HF.out.sz; omega)
  · exact .inl (.inr (.inr (.inr ⟨j, hj, hg⟩)))

set_option maxRecDepth 1000000 in
set_option maxHeartbeats 16000000 in
theorem pldo_set (h : Pg n w0 wr fs zs a s S A P D B T M w) (hsp : M.sp A.who = false) (hG : Mm.Good ga gb gc k M) (ha : ga ≤ 65536) (hb : gb ≤ 65536) (hc : gc ≤ 65536) (hk : k ≤ 100000) (hwho : I64 A.who) (hi : i < 8) (hbo : 0 ≤ S.bo ∧ S.bo ≤ 100000) (hl : (B i).length ≤ 20000) :
    Calls Try.prog 35 #[.pointer (some ⟨a, 0, none⟩), .agg #[.int .i64 3, .int .i64 (i : Int)]] w (DoQ n w0 wr fs zs a s S A P D B T (setS M A.who (S.bo + (i : Int)) (B i)) A.rd w.heap.size) := by
  have HR := Lib.hid h
  obtain ⟨c0, c1, c2, c3, c12, c13, c14, c15, c16, cf⟩ := h.pa.cells
  obtain ⟨s0, s1, s2, s3, s4⟩ := h.pi.cells
  rw [h.as'] at c0
  have hal := h.pa.lt
  have hsl := h.pi.lt
  have HG := Lib.hid hG
  have HB := Lib.hid (And.intro ha (And.intro hb (And.intro hc hk)))
  have HWHO := Lib.hid hwho
  have HWI : Hid (I64 (S.bo + (i : Int))) := Lib.hid ⟨by omega, by omega⟩
  have hw1 : IntKind.i64.wrap (S.bo + (i : Int)) = (S.bo + (i : Int)) := w_id HWI.out
  have HC := Lib.hid (And.intro hi hl)
  have hi0 : (0 : Int) ≤ (i : Int) := Int.natCast_nonneg _
  have hi1 : (i : Int) < 8 := Int.ofNat_lt.2 hi
  have hw2 : wrap64 (i : Int) = (i : Int) := w64_id (i64_nat hi)
  have hw3 : IntKind.i64.wrap (i : Int) = (i : Int) := w_id (i64_nat hi)
  obtain ⟨tq, tn, tc, htk⟩ := sl_open (h.bx i hi)
  have HTK := Lib.hid htk
  clear htk hi hl hbo

  clear h hG hsp ha hb hc hk hwho
  go_enter Try.func35, Try.ntmps35
  go_upto_region 1 with fail
  go_region
  go_upto_region 8 with fail
  have hn := heap_alloc_new w (.cells #[Value.int .i64 (3), .int .i64 ((i : Int))] 76)
  have hxl : w.heap.size < (w.alloc (.cells #[Value.int .i64 (3), .int .i64 ((i : Int))] 76)).drew.heap.size := (Array.getElem?_eq_some_iff.1 hn).1
  have x0 : (w.alloc (.cells #[Value.int .i64 (3), .int .i64 ((i : Int))] 76)).drew.cell? ⟨w.heap.size, 0, none⟩ = some (.int .i64 (3)) := cell_of_row _ _ _ _ _ _ hn
  have x1 : (w.alloc (.cells #[Value.int .i64 (3), .int .i64 ((i : Int))] 76)).drew.cell? ⟨w.heap.size, 1, none⟩ = some (.int .i64 ((i : Int))) := cell_of_row _ _ _ _ _ _ hn
  have hbx : Below w.heap.size w (w.alloc (.cells #[Value.int .i64 (3), .int .i64 ((i : Int))] 76)).drew := ((Below.refl _ _).alloc (Nat.le_refl _) _).drew
  obtain ⟨zs1, y1, y2, hov⟩ := HR.out.over hbx (Nat.le_refl w.heap.size) hxl
  have HO := Lib.hid hov
  have HZ1 := Lib.hid (And.intro y1 y2)
  have HS := Lib.hid (And.intro (fun j (hj : j ∈ fs) (_ : j ≠ a) => hbx.block j (blk_lt HR.out.mz j (HR.out.fz j hj))) hbx.size)
  have HX := Lib.hid (And.intro x0 x1)
  have HXA : Hid (w.heap.size ≠ a) := Lib.hid (by omega)
  have HSZ := Lib.hid hbx.size
  generalize hX : w.heap.size = X at *
  replace hX := Lib.hid hX
  generalize (w.alloc (.cells #[Value.int .i64 (3), .int .i64 ((i : Int))] 76)).drew = W at *
  clear hn hxl hbx hov y1 y2 c0 c1 c2 c3 c12 c13 c14 c15 c16 cf s0 s1 s2 s3 s4 x0 x1 hal hsl
  have HD := Lib.hid (HO.out.below (Below.refl _ _).drew)
  obtain ⟨c0, c1, c2, c3, c12, c13, c14, c15, c16, cf⟩ := HD.out.pa.cells
  obtain ⟨s0, s1, s2, s3, s4⟩ := HD.out.pi.cells
  rw [HD.out.as'] at c0
  have x0 := (HD.out.kept HXA.out 0).trans HX.out.1
  have x1 := (HD.out.kept HXA.out 1).trans HX.out.2
  have cb := HD.out.pa.boxAt HC.out.1
  rw [HTK.out] at cb
  refine wp_region_held_drew (S := (fun w' => w'.cell? ⟨X, 1, none⟩ = some (.int .i64 (i : Int)) ∧ w'.cell? ⟨a, 1, none⟩ = some (.int .i64 A.who) ∧ w'.cell? ⟨a, 0, none⟩ = some (.pointer (some ⟨s, 0, none⟩)) ∧ w'.cell? ⟨s, 2, none⟩ = some (.int .i64 S.bo) ∧ w'.cell? ⟨a, 4 + i, none⟩ = some (.slice tq tn tc))) (by kernel_rfl) ?_ (fun hHeld => ?_)
  · ((try dsimp only); first | (obtain ⟨k0, k1, _⟩ := HD.out.pa.cells; obtain ⟨_, t1, t2, t3, _⟩ := HD.out.pi.cells; have y1 := (HD.out.kept HXA.out 1).trans HX.out.2; rw [HD.out.as'] at k0; exact ⟨y1, k1, k0, t2, by have cb := HD.out.pa.boxAt HC.out.1; rw [HTK.out] at cb; exact cb⟩))
  refine wpAnyH_take (i := 0) (v := ?_) rfl (by kernel_rfl) (by kernel_rfl) (by kernel_rfl) (fun _ _ _ h => h) (Or.inl ⟨by rfl, ?_⟩) (by assumption) ?_
  rotate_left 1
  · (intro w hSw; (try dsimp only at hSw); first | (go_simp; done) | (go_simp; with_reducible rfl))
  try simp only [Act.put, List.setIfInBounds_toArray, List.set_cons_zero, List.set_cons_succ, List.getElem_toArray, List.getElem_cons_zero]
  refine wpAnyH_take (i := 1) (v := ?_) rfl (by kernel_rfl) (by kernel_rfl) (by kernel_rfl) (fun _ _ _ h => h) (Or.inl ⟨by rfl, ?_⟩) (by assumption) ?_
  rotate_left 1
  · (intro w hSw; (try dsimp only at hSw); first | (go_simp; done) | (go_simp; with_reducible rfl))
  try simp only [Act.put, List.setIfInBounds_toArray, List.set_cons_zero, List.set_cons_succ, List.getElem_toArray, List.getElem_cons_zero, List.getElem_cons_succ]
  refine wpAnyH_take (i := 2) (v := ?_) rfl (by kernel_rfl) (by kernel_rfl) (by kernel_rfl) (fun _ _ _ h => h) (Or.inl ⟨by rfl, ?_⟩) (by assumption) ?_
  rotate_left 1
  · (intro w hSw; (try dsimp only at hSw); first | (go_simp; done) | (go_simp; with_reducible rfl))
  try simp only [Act.put, List.setIfInBounds_toArray, List.set_cons_zero, List.set_cons_succ, List.getElem_toArray, List.getElem_cons_zero, List.getElem_cons_succ]
  refine wpAnyH_take (i := 3) (v := ?_) rfl (by kernel_rfl) (by kernel_rfl) (by kernel_rfl) (fun _ _ _ h => h) (Or.inl ⟨by rfl, ?_⟩) (by assumption) ?_
  rotate_left 1
  · (intro w hSw; (try dsimp only at hSw); first | (go_simp; done) | (go_simp; with_reducible rfl))
  try simp only [Act.put, List.setIfInBounds_toArray, List.set_cons_zero, List.set_cons_succ, List.getElem_toArray, List.getElem_cons_zero, List.getElem_cons_succ]
  refine wpAnyH_take (i := 4) (v := ?_) rfl (by kernel_rfl) (by kernel_rfl) (by kernel_rfl) (fun _ _ _ h => h) (Or.inl ⟨by rfl, ?_⟩) (by assumption) ?_
  rotate_left 1
  · (intro w hSw; (try dsimp only at hSw); first | (go_simp; done) | (go_simp; with_reducible rfl))
  try simp only [Act.put, List.setIfInBounds_toArray, List.set_cons_zero, List.set_cons_succ, List.getElem_toArray, List.getElem_cons_zero, List.getElem_cons_succ]
  refine wpAnyH_take (i := 5) (v := ?_) rfl (by kernel_rfl) (by kernel_rfl) (by kernel_rfl) (fun _ _ _ h => h) (Or.inl ⟨by rfl, ?_⟩) (by assumption) ?_
  rotate_left 1
  · (intro w hSw; (try dsimp only at hSw); first | (go_simp; done) | (go_simp; with_reducible rfl))
  try simp only [Act.put, List.setIfInBounds_toArray, List.set_cons_zero, List.set_cons_succ, List.getElem_toArray, List.getElem_cons_zero, List.getElem_cons_succ]
  refine wpAnyH_take (i := 6) (v := ?_) rfl (by kernel_rfl) (by kernel_rfl) (by kernel_rfl) (fun _ _ _ h => h) (Or.inl ⟨by rfl, ?_⟩) (by assumption) ?_
  rotate_left 1
  · (intro w hSw; (try dsimp only at hSw); first | (go_simp; done) | (go_simp; with_reducible rfl))
  try simp only [Act.put, List.setIfInBounds_toArray, List.set_cons_zero, List.set_cons_succ, List.getElem_toArray, List.getElem_cons_zero, List.getElem_cons_succ]
  refine wpAnyH_take (i := 7) (v := ?_) rfl (by kernel_rfl) (by kernel_rfl) (by kernel_rfl) (fun _ _ _ h => h) (Or.inl ⟨by rfl, ?_⟩) (by assumption) ?_
  rotate_left 1
  · (intro w hSw; (try dsimp only at hSw); first | (go_simp; done) | (go_simp; with_reducible rfl))
  try simp only [Act.put, List.setIfInBounds_toArray, List.set_cons_zero, List.set_cons_succ, List.getElem_toArray, List.getElem_cons_zero, List.getElem_cons_succ]
  refine wpAnyH_take (i := 8) (v := ?_) rfl (by kernel_rfl) (by kernel_rfl) (by kernel_rfl) (fun _ _ _ h => h) (Or.inl ⟨by rfl, ?_⟩) (by assumption) ?_
  rotate_left 1
  · (intro w hSw; (try dsimp only at hSw); first | (go_simp; done) | (go_simp; with_reducible rfl))
  try simp only [Act.put, List.setIfInBounds_toArray, List.set_cons_zero, List.set_cons_succ, List.getElem_toArray, List.getElem_cons_zero, List.getElem_cons_succ]
  refine wpAnyH_take (i := 9) (v := ?_) rfl (by kernel_rfl) (by kernel_rfl) (by kernel_rfl) (fun _ _ _ h => h) (Or.inl ⟨by rfl, ?_⟩) (by assumption) ?_
  rotate_left 1
  · (intro w hSw; (try dsimp only at hSw); first | (go_simp; done) | (go_simp; with_reducible rfl))
  try simp only [Act.put, List.setIfInBounds_toArray, List.set_cons_zero, List.set_cons_succ, List.getElem_toArray, List.getElem_cons_zero, List.getElem_cons_succ]
  refine wpAnyH_take (i := 10) (v := ?_) rfl (by kernel_rfl) (by kernel_rfl) (by kernel_rfl) (fun _ _ _ h => h) (Or.inl ⟨by rfl, ?_⟩) (by assumption) ?_
  rotate_left 1
  · (intro w hSw; (try dsimp only at hSw); first | (go_simp; done) | (go_simp; with_reducible rfl))
  try simp only [Act.put, List.setIfInBounds_toArray, List.set_cons_zero, List.set_cons_succ, List.getElem_toArray, List.getElem_cons_zero, List.getElem_cons_succ]
  refine wpAnyH_take (i := 11) (v := ?_) rfl (by kernel_rfl) (by kernel_rfl) (by kernel_rfl) (fun _ _ _ h => h) (Or.inl ⟨by rfl, ?_⟩) (by assumption) ?_
  rotate_left 1
  · (intro w hSw; (try dsimp only at hSw); first | (go_simp; done) | (go_simp; with_reducible rfl))
  try simp only [Act.put, List.setIfInBounds_toArray, List.set_cons_zero, List.set_cons_succ, List.getElem_toArray, List.getElem_cons_zero, List.getElem_cons_succ]
  refine wpAnyH_take (i := 12) (v := ?_) rfl (by kernel_rfl) (by kernel_rfl) (by kernel_rfl) (fun _ _ _ h => h) (Or.inl ⟨by rfl, ?_⟩) (by assumption) ?_
  rotate_left 1
  · (intro w hSw; (try dsimp only at hSw); first | (go_simp; done) | (go_simp; with_reducible rfl))
  try simp only [Act.put, List.setIfInBounds_toArray, List.set_cons_zero, List.set_cons_succ, List.getElem_toArray, List.getElem_cons_zero, List.getElem_cons_succ]
  refine wpAnyH_take (i := 13) (v := ?_) rfl (by kernel_rfl) (by kernel_rfl) (by kernel_rfl) (fun _ _ _ h => h) (Or.inl ⟨by rfl, ?_⟩) (by assumption) ?_
  rotate_left 1
  · (intro w hSw; (try dsimp only at hSw); first | (go_simp; done) | (go_simp; with_reducible rfl))
  try simp only [Act.put, List.setIfInBounds_toArray, List.set_cons_zero, List.set_cons_succ, List.getElem_toArray, List.getElem_cons_zero, List.getElem_cons_succ]
  refine wpAnyH_take (i := 14) (v := ?_) rfl (by kernel_rfl) (by kernel_rfl) (by kernel_rfl) (fun _ _ _ h => h) (Or.inl ⟨by rfl, ?_⟩) (by assumption) ?_
  rotate_left 1
  · (intro w hSw; (try dsimp only at hSw); first | (go_simp; done) | (go_simp; with_reducible rfl))
  try simp only [Act.put, List.setIfInBounds_toArray, List.set_cons_zero, List.set_cons_succ, List.getElem_toArray, List.getElem_cons_zero, List.getElem_cons_succ]
  refine wpAnyH_take (i := 15) (v := ?_) rfl (by kernel_rfl) (by kernel_rfl) (by kernel_rfl) (fun _ _ _ h => h) (Or.inl ⟨by rfl, ?_⟩) (by assumption) ?_
  rotate_left 1
  · (intro w hSw; (try dsimp only at hSw); first | (go_simp; done) | (go_simp; with_reducible rfl))
  try simp only [Act.put, List.setIfInBounds_toArray, List.set_cons_zero, List.set_cons_succ, List.getElem_toArray, List.getElem_cons_zero, List.getElem_cons_succ]
  refine wpAnyH_take (i := 16) (v := ?_) rfl (by kernel_rfl) (by kernel_rfl) (by kernel_rfl) (fun _ _ _ h => h) (Or.inl ⟨by rfl, ?_⟩) (by assumption) ?_
  rotate_left 1
  · (intro w hSw; (try dsimp only at hSw); first | (go_simp; done) | (go_simp; with_reducible rfl))
  try simp only [Act.put, List.setIfInBounds_toArray, List.set_cons_zero, List.set_cons_succ, List.getElem_toArray, List.getElem_cons_zero, List.getElem_cons_succ]
  refine wpAnyH_take (i := 17) (v := ?_) rfl (by kernel_rfl) (by kernel_rfl) (by kernel_rfl) (fun _ _ _ h => h) (Or.inl ⟨by rfl, ?_⟩) (by assumption) ?_
  rotate_left 1
  · (intro w hSw; (try dsimp only at hSw); first | (go_simp; done) | (go_simp; with_reducible rfl))
  try simp only [Act.put, List.setIfInBounds_toArray, List.set_cons_zero, List.set_cons_succ, List.getElem_toArray, List.getElem_cons_zero, List.getElem_cons_succ]
  refine wpAnyH_take (i := 18) (v := ?_) rfl (by kernel_rfl) (by kernel_rfl) (by kernel_rfl) (fun _ _ _ h => h) (Or.inl ⟨by rfl, ?_⟩) (by assumption) ?_
  rotate_left 1
  · (intro w hSw; (try dsimp only at hSw); first | (go_simp; done) | (go_simp; with_reducible rfl))
  try simp only [Act.put, List.setIfInBounds_toArray, List.set_cons_zero, List.set_cons_succ, List.getElem_toArray, List.getElem_cons_zero, List.getElem_cons_succ]
  refine wpAnyH_ready (rs := [19]) (by kernel_rfl) (by simp) ?_
  refine AllReadyH.cons rfl (fun K hK => ?_) AllReadyH.nil
  go_simp
  go_at_call 51
  refine (mz_set HD.out.mz HG.out HB.out.1 HB.out.2.1 HB.out.2.2.1 HB.out.2.2.2 A.who (S.bo + (i : Int)) HWHO.out HWI.out (HTK.out ▸ HD.out.bx i HC.out.1) HC.out.2 (fun g hg => .inr (HD.out.bl g (.inr (.inr (.inr ⟨i, HC.out.1, HTK.out ▸ hg⟩)))).1)).mono ?_
  rintro e W4 ⟨rfl, hm, hkb⟩
  have HF := Lib.hid (HD.out.call hm hkb)
  clear hm hkb
  try go_wp2_with fail
  refine hK.out _ _ ?_ (fun hHeld => ?_)
  · ((try dsimp only); first | (obtain ⟨k0, k1, _⟩ := HF.out.pa.cells; obtain ⟨_, t1, t2, t3, _⟩ := HF.out.pi.cells; have y1 := (HF.out.kept HXA.out 1).trans HX.out.2; rw [HF.out.as'] at k0; exact ⟨y1, k1, k0, t2, by have cb := HF.out.pa.boxAt HC.out.1; rw [HTK.out] at cb; exact cb⟩))
  clear hK K
  try simp only [Act.put, List.setIfInBounds_toArray, List.set_cons_zero, List.set_cons_succ, List.getElem_toArray, List.getElem_cons_zero, List.getElem_cons_succ]
  refine wpAnyH_done (by kernel_rfl) ?_ _

  have HU := Lib.hid (HF.out.under (fun j hj hja => (HS.out.1 j hj hja).trans (HR.out.fr j hj hja)) (by have h1 := HS.out.2; have h2 := hX.out; have h3 := HR.out.sz; omega))
  go_wp2_with fail
  first | go_ret | go_end0
  refine ⟨rfl, zs1, A.bx, A.tk, HZ1.out.1, fun j hj => (HZ1.out.2 j hj).imp id (fun e => by have := hX.out; omega), fun g hg => .inl hg, HU.out⟩

end
end Go.Proofs.Ytmggnalobfihnaa.Pl
