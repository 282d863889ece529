/-
  PACKAGE pool: do, by kind (Load, Store, Free).
-/
import Derived.Test.YtmggnalobfihnaaJoined10
import Derived.Deep.CutRange
import Derived.Deep.RegionHeldLaw
import Derived.BigQuiet
namespace Go.Proofs.Ytmggnalobfihnaa.Pl
open Go.RowKit Rw Pk Go.Maps Mm
set_option linter.unusedVariables false
section
variable {w w' W : World} {S : Pi} {A A' : Pa} {n a s X i : Nat} {w0 wr : World} {fs zs zs' : List Nat} {P : List Int} {D D' : List (Int × Int)} {B B' : Nat → List Batch.Ch} {T T' l : List Batch.Ch} {M M' : Mm.St} {ga gb gc k : Nat} {v : Value}
set_option maxRecDepth 1000000 in
set_option maxHeartbeats 16000000 in
theorem pldo_load (h : Pg n w0 wr fs zs a s S A P D B T M w) (hsp : M.sp A.who = false) (hG : Mm.Good ga gb gc k M) (ha : ga ≤ 65536) (hb : gb ≤ 65536) (hc : gc ≤ 65536) (hk : k ≤ 100000) (hwho : I64 A.who) (hwd : 0 ≤ S.wd ∧ S.wd ≤ 100000) :
    Calls Try.prog 35 #[.pointer (some ⟨a, 0, none⟩), .agg #[.int .i64 0, .int .i64 (i : Int)]] w (DoQ n w0 wr fs zs a s S A P D B T (lookS M A.who 0 S.wd) (loadV M A.who S.wd) w.heap.size) := by
  have HR := Lib.hid h
  obtain ⟨c0, c1, c2, c3, c12, c13, c14, c15, c16, cf⟩ := h.pa.cells
  obtain ⟨s0, s1, s2, s3, s4⟩ := h.pi.cells
  rw [h.as'] at c0
  have hal := h.pa.lt
  have hsl := h.pi.lt
  have HG := Lib.hid hG
  have HB := Lib.hid (And.intro ha (And.intro hb (And.intro hc hk)))
  have HWHO := Lib.hid hwho
  have HWI : Hid (I64 S.wd) := Lib.hid ⟨by omega, by omega⟩
  clear hwd

  clear h hG hsp ha hb hc hk hwho
  go_enter Try.func35, Try.ntmps35
  go_upto_region 1 with fail
  go_region
  go_upto_region 10 with fail
  have hn := heap_alloc_new w (.cells #[Value.int .i64 (0), .int .i64 ((i : Int))] 76)
  have hxl : w.heap.size < (w.alloc (.cells #[Value.int .i64 (0), .int .i64 ((i : Int))] 76)).drew.heap.size := (Array.getElem?_eq_some_iff.1 hn).1
  have x0 : (w.alloc (.cells #[Value.int .i64 (0), .int .i64 ((i : Int))] 76)).drew.cell? ⟨w.heap.size, 0, none⟩ = some (.int .i64 (0)) := cell_of_row _ _ _ _ _ _ hn
  have x1 : (w.alloc (.cells #[Value.int .i64 (0), .int .i64 ((i : Int))] 76)).drew.cell? ⟨w.heap.size, 1, none⟩ = some (.int .i64 ((i : Int))) := cell_of_row _ _ _ _ _ _ hn
  have hbx : Below w.heap.size w (w.alloc (.cells #[Value.int .i64 (0), .int .i64 ((i : Int))] 76)).drew := ((Below.refl _ _).alloc (Nat.le_refl _) _).drew
  obtain ⟨zs1, y1, y2, hov⟩ := HR.out.over hbx (Nat.le_refl w.heap.size) hxl
  have HO := Lib.hid hov
  have HZ1 := Lib.hid (And.intro y1 y2)
  have HS := Lib.hid (And.intro (fun j (hj : j ∈ fs) (_ : j ≠ a) => hbx.block j (blk_lt HR.out.mz j (HR.out.fz j hj))) hbx.size)
  have HX := Lib.hid (And.intro x0 x1)
  have HXA : Hid (w.heap.size ≠ a) := Lib.hid (by omega)
  have HSZ := Lib.hid hbx.size
  generalize hX : w.heap.size = X at *
  replace hX := Lib.hid hX
  generalize (w.alloc (.cells #[Value.int .i64 (0), .int .i64 ((i : Int))] 76)).drew = W at *
  clear hn hxl hbx hov y1 y2 c0 c1 c2 c3 c12 c13 c14 c15 c16 cf s0 s1 s2 s3 s4 x0 x1 hal hsl
  have HD := Lib.hid (HO.out.below (Below.refl _ _).drew)
  obtain ⟨c0, c1, c2, c3, c12, c13, c14, c15, c16, cf⟩ := HD.out.pa.cells
  obtain ⟨s0, s1, s2, s3, s4⟩ := HD.out.pi.cells
  rw [HD.out.as'] at c0
  have x0 := (HD.out.kept HXA.out 0).trans HX.out.1
  have x1 := (HD.out.kept HXA.out 1).trans HX.out.2
  refine wp_region_held_drew (S := (fun w' => w'.cell? ⟨X, 1, none⟩ = some (.int .i64 (i : Int)) ∧ w'.cell? ⟨a, 1, none⟩ = some (.int .i64 A.who) ∧ w'.cell? ⟨a, 0, none⟩ = some (.pointer (some ⟨s, 0, none⟩)) ∧ w'.cell? ⟨s, 1, none⟩ = some (.int .i64 S.wd))) (by kernel_rfl) ?_ (fun hHeld => ?_)
  · ((try dsimp only); first | (obtain ⟨k0, k1, _⟩ := HD.out.pa.cells; obtain ⟨_, t1, t2, t3, _⟩ := HD.out.pi.cells; have y1 := (HD.out.kept HXA.out 1).trans HX.out.2; rw [HD.out.as'] at k0; exact ⟨y1, k1, k0, t1⟩))
  refine wpAnyH_take (i := 0) (v := ?_) rfl (by kernel_rfl) (by kernel_rfl) (by kernel_rfl) (fun _ _ _ h => h) (Or.inl ⟨by rfl, ?_⟩) (by assumption) ?_
  rotate_left 1
  · (intro w hSw; (try dsimp only at hSw); first | (go_simp; done) | (go_simp; with_reducible rfl))
  try simp only [Act.put, List.setIfInBounds_toArray, List.set_cons_zero, List.set_cons_succ, List.getElem_toArray, List.getElem_cons_zero]
  refine wpAnyH_take (i := 1) (v := ?_) rfl (by kernel_rfl) (by kernel_rfl) (by kernel_rfl) (fun _ _ _ h => h) (Or.inl ⟨by rfl, ?_⟩) (by assumption) ?_
  rotate_left 1
  · (intro w hSw; (try dsimp only at hSw); first | (go_simp; done) | (go_simp; with_reducible rfl))
  try simp only [Act.put, List.setIfInBounds_toArray, List.set_cons_zero, List.set_cons_succ, List.getElem_toArray, List.getElem_cons_zero, List.getElem_cons_succ]
  refine wpAnyH_take (i := 2) (v := ?_) rfl (by kernel_rfl) (by kernel_rfl) (by kernel_rfl) (fun _ _ _ h => h) (Or.inl ⟨by rfl, ?_⟩) (by assumption) ?_
  rotate_left 1
  · (intro w hSw; (try dsimp only at hSw); first | (go_simp; done) | (go_simp; with_reducible rfl))
  try simp only [Act.put, List.setIfInBounds_toArray, List.set_cons_zero, List.set_cons_succ, List.getElem_toArray, List.getElem_cons_zero, List.getElem_cons_succ]
  refine wpAnyH_take (i := 3) (v := ?_) rfl (by kernel_rfl) (by kernel_rfl) (by kernel_rfl) (fun _ _ _ h => h) (Or.inl ⟨by rfl, ?_⟩) (by assumption) ?_
  rotate_left 1
  · (intro w hSw; (try dsimp only at hSw); first | (go_simp; done) | (go_simp; with_reducible rfl))
  try simp only [Act.put, List.setIfInBounds_toArray, List.set_cons_zero, List.set_cons_succ, List.getElem_toArray, List.getElem_cons_zero, List.getElem_cons_succ]
  refine wpAnyH_take (i := 4) (v := ?_) rfl (by kernel_rfl) (by kernel_rfl) (by kernel_rfl) (fun _ _ _ h => h) (Or.inl ⟨by rfl, ?_⟩) (by assumption) ?_
  rotate_left 1
  · (intro w hSw; (try dsimp only at hSw); first | (go_simp; done) | (go_simp; with_reducible rfl))
  try simp only [Act.put, List.setIfInBounds_toArray, List.set_cons_zero, List.set_cons_succ, List.getElem_toArray, List.getElem_cons_zero, List.getElem_cons_succ]
  refine wpAnyH_take (i := 5) (v := ?_) rfl (by kernel_rfl) (by kernel_rfl) (by kernel_rfl) (fun _ _ _ h => h) (Or.inl ⟨by rfl, ?_⟩) (by assumption) ?_
  rotate_left 1
  · (intro w hSw; (try dsimp only at hSw); first | (go_simp; done) | (go_simp; with_reducible rfl))
  try simp only [Act.put, List.setIfInBounds_toArray, List.set_cons_zero, List.set_cons_succ, List.getElem_toArray, List.getElem_cons_zero, List.getElem_cons_succ]
  refine wpAnyH_take (i := 6) (v := ?_) rfl (by kernel_rfl) (by kernel_rfl) (by kernel_rfl) (fun _ _ _ h => h) (Or.inl ⟨by rfl, ?_⟩) (by assumption) ?_
  rotate_left 1
  · (intro w hSw; (try dsimp only at hSw); first | (go_simp; done) | (go_simp; with_reducible rfl))
  try simp only [Act.put, List.setIfInBounds_toArray, List.set_cons_zero, List.set_cons_succ, List.getElem_toArray, List.getElem_cons_zero, List.getElem_cons_succ]
  refine wpAnyH_take (i := 7) (v := ?_) rfl (by kernel_rfl) (by kernel_rfl) (by kernel_rfl) (fun _ _ _ h => h) (Or.inl ⟨by rfl, ?_⟩) (by assumption) ?_
  rotate_left 1
  · (intro w hSw; (try dsimp only at hSw); first | (go_simp; done) | (go_simp; with_reducible rfl))
  try simp only [Act.put, List.setIfInBounds_toArray, List.set_cons_zero, List.set_cons_succ, List.getElem_toArray, List.getElem_cons_zero, List.getElem_cons_succ]
  refine wpAnyH_take (i := 8) (v := ?_) rfl (by kernel_rfl) (by kernel_rfl) (by kernel_rfl) (fun _ _ _ h => h) (Or.inl ⟨by rfl, ?_⟩) (by assumption) ?_
  rotate_left 1
  · (intro w hSw; (try dsimp only at hSw); first | (go_simp; done) | (go_simp; with_reducible rfl))
  try simp only [Act.put, List.setIfInBounds_toArray, List.set_cons_zero, List.set_cons_succ, List.getElem_toArray, List.getElem_cons_zero, List.getElem_cons_succ]
  refine wpAnyH_take (i := 9) (v := ?_) rfl (by kernel_rfl) (by kernel_rfl) (by kernel_rfl) (fun _ _ _ h => h) (Or.inl ⟨by rfl, ?_⟩) (by assumption) ?_
  rotate_left 1
  · (intro w hSw; (try dsimp only at hSw); first | (go_simp; done) | (go_simp; with_reducible rfl))
  try simp only [Act.put, List.setIfInBounds_toArray, List.set_cons_zero, List.set_cons_succ, List.getElem_toArray, List.getElem_cons_zero, List.getElem_cons_succ]
  refine wpAnyH_ready (rs := [10]) (by kernel_rfl) (by simp) ?_
  refine AllReadyH.cons rfl (fun K hK => ?_) AllReadyH.nil
  go_simp
  go_at_call 43
  refine (mz_load HD.out.mz HG.out HB.out.1 HB.out.2.1 HB.out.2.2.1 HB.out.2.2.2 A.who S.wd HWHO.out HWI.out).mono ?_
  rintro e W4 ⟨rfl, hm, hkb⟩
  have HF := Lib.hid (HD.out.call hm hkb)
  clear hm hkb
  obtain ⟨d0, d1, _, _, _, _, d14, _, _, df⟩ := HF.out.pa.cells
  try go_wp2_with fail
  refine hK.out _ _ ?_ (fun hHeld => ?_)
  · ((try dsimp only); first | (obtain ⟨k0, k1, _⟩ := HF.out.pa.cells; obtain ⟨_, t1, t2, t3, _⟩ := HF.out.pi.cells; have y1 := (HF.out.kept HXA.out 1).trans HX.out.2; rw [HF.out.as'] at k0; exact ⟨y1, k1, k0, t1⟩))
  clear hK K
  try simp only [Act.put, List.setIfInBounds_toArray, List.set_cons_zero, List.set_cons_succ, List.getElem_toArray, List.getElem_cons_zero, List.getElem_cons_succ]
  refine wpAnyH_take (i := 11) (v := ?_) rfl (by kernel_rfl) (by kernel_rfl) (by kernel_rfl) (fun _ _ _ h => h) (Or.inl ⟨by rfl, ?_⟩) (by assumption) ?_
  rotate_left 1
  · (intro w hSw; (try dsimp only at hSw); first | (go_simp; done) | (go_simp; with_reducible rfl))
  try simp only [Act.put, List.setIfInBounds_toArray, List.set_cons_zero, List.set_cons_succ, List.getElem_toArray, List.getElem_cons_zero, List.getElem_cons_succ]
  refine wpAnyH_take (i := 12) (v := ?_) rfl (by kernel_rfl) (by kernel_rfl) (by kernel_rfl) (fun _ _ _ h => h) (Or.inl ⟨by rfl, ?_⟩) (by assumption) ?_
  rotate_left 1
  · (intro w hSw; (try dsimp only at hSw); first | (go_simp; done) | (go_simp; with_reducible rfl))
  try simp only [Act.put, List.setIfInBounds_toArray, List.set_cons_zero, List.set_cons_succ, List.getElem_toArray, List.getElem_cons_zero, List.getElem_cons_succ]
  have HE := Lib.hid (HF.out.setRd (loadV M A.who S.wd))
  refine wpAnyH_ready (rs := [13]) (by kernel_rfl) (by simp) ?_
  refine AllReadyH.cons rfl (fun K hK => ?_) AllReadyH.nil
  go_simp
  skip
  try go_wp2_with fail
  refine hK.out _ _ ?_ (fun hHeld => ?_)
  · ((try dsimp only); first | (obtain ⟨k0, k1, _⟩ := HE.out.pa.cells; obtain ⟨_, t1, t2, t3, _⟩ := HE.out.pi.cells; have y1 := (HE.out.kept HXA.out 1).trans HX.out.2; rw [HE.out.as'] at k0; exact ⟨y1, k1, k0, t1⟩))
  clear hK K
  try simp only [Act.put, List.setIfInBounds_toArray, List.set_cons_zero, List.set_cons_succ, List.getElem_toArray, List.getElem_cons_zero, List.getElem_cons_succ]
  refine wpAnyH_done (by kernel_rfl) ?_ _

  have HU := Lib.hid (HE.out.under (fun j hj hja => (HS.out.1 j hj hja).trans (HR.out.fr j hj hja)) (by have h1 := HS.out.2; have h2 := hX.out; have h3 := HR.out.sz; omega))
  go_wp2_with fail
  first | go_ret | go_end0
  refine ⟨rfl, zs1, A.bx, A.tk, HZ1.out.1, fun j hj => (HZ1.out.2 j hj).imp id (fun e => by have := hX.out; omega), fun g hg => .inl hg, HU.out⟩

set_option maxRecDepth 1000000 in
set_option maxHeartbeats 16000000 in
theorem pldo_store (h : Pg n w0 wr fs zs a s S A P D B T M w) (hsp : M.sp A.who = false) (hG : Mm.Good ga gb gc k M) (ha : ga ≤ 65536) (hb : gb ≤ 65536) (hc : gc ≤ 65536) (hk : k ≤ 100000) (hwho : I64 A.who) (hwd : 0 ≤ S.wd ∧ S.wd ≤ 100000) (hrd : 0 ≤ A.rd ∧ A.rd ≤ 1000000) :
    Calls Try.prog 35 #[.pointer (some ⟨a, 0, none⟩), .agg #[.int .i64 1, .int .i64 (i : Int)]] w (DoQ n w0 wr fs zs a s S A P D B T (storeS M A.who S.wd (A.rd + 1)) (A.rd + 1) w.heap.size) := by
  have HR := Lib.hid h
  obtain ⟨c0, c1, c2, c3, c12, c13, c14, c15, c16, cf⟩ := h.pa.cells
  obtain ⟨s0, s1, s2, s3, s4⟩ := h.pi.cells
  rw [h.as'] at c0
  have hal := h.pa.lt
  have hsl := h.pi.lt
  have HG := Lib.hid hG
  have HB := Lib.hid (And.intro ha (And.intro hb (And.intro hc hk)))
  have HWHO := Lib.hid hwho
  have HWI : Hid (I64 S.wd) := Lib.hid ⟨by omega, by omega⟩
  have hw1 : IntKind.u64.wrap (A.rd + 1) = A.rd + 1 := by rw [u64_of]; omega
  clear hwd hrd

  clear h hG hsp ha hb hc hk hwho
  go_enter Try.func35, Try.ntmps35
  go_upto_region 1 with fail
  go_region
  go_upto_region 12 with fail
  have hn := heap_alloc_new w (.cells #[Value.int .i64 (1), .int .i64 ((i : Int))] 76)
  have hxl : w.heap.size < (w.alloc (.cells #[Value.int .i64 (1), .int .i64 ((i : Int))] 76)).drew.heap.size := (Array.getElem?_eq_some_iff.1 hn).1
  have x0 : (w.alloc (.cells #[Value.int .i64 (1), .int .i64 ((i : Int))] 76)).drew.cell? ⟨w.heap.size, 0, none⟩ = some (.int .i64 (1)) := cell_of_row _ _ _ _ _ _ hn
  have x1 : (w.alloc (.cells #[Value.int .i64 (1), .int .i64 ((i : Int))] 76)).drew.cell? ⟨w.heap.size, 1, none⟩ = some (.int .i64 ((i : Int))) := cell_of_row _ _ _ _ _ _ hn
  have hbx : Below w.heap.size w (w.alloc (.cells #[Value.int .i64 (1), .int .i64 ((i : Int))] 76)).drew := ((Below.refl _ _).alloc (Nat.le_refl _) _).drew
  obtain ⟨zs1, y1, y2, hov⟩ := HR.out.over hbx (Nat.le_refl w.heap.size) hxl
  have HO := Lib.hid hov
  have HZ1 := Lib.hid (And.intro y1 y2)
  have HS := Lib.hid (And.intro (fun j (hj : j ∈ fs) (_ : j ≠ a) => hbx.block j (blk_lt HR.out.mz j (HR.out.fz j hj))) hbx.size)
  have HX := Lib.hid (And.intro x0 x1)
  have HXA : Hid (w.heap.size ≠ a) := Lib.hid (by omega)
  have HSZ := Lib.hid hbx.size
  generalize hX : w.heap.size = X at *
  replace hX := Lib.hid hX
  generalize (w.alloc (.cells #[Value.int .i64 (1), .int .i64 ((i : Int))] 76)).drew = W at *
  clear hn hxl hbx hov y1 y2 c0 c1 c2 c3 c12 c13 c14 c15 c16 cf s0 s1 s2 s3 s4 x0 x1 hal hsl
  have HD := Lib.hid (HO.out.below (Below.refl _ _).drew)
  obtain ⟨c0, c1, c2, c3, c12, c13, c14, c15, c16, cf⟩ := HD.out.pa.cells
  obtain ⟨s0, s1, s2, s3, s4⟩ := HD.out.pi.cells
  rw [HD.out.as'] at c0
  have x0 := (HD.out.kept HXA.out 0).trans HX.out.1
  have x1 := (HD.out.kept HXA.out 1).trans HX.out.2
  clear c0 c1 c2 c3 c12 c13 c14 c15 c16 cf s0 s1 s2 s3 s4 x0 x1
  obtain ⟨c0, c1, c2, c3, c12, c13, c14, c15, c16, cf⟩ := HO.out.pa.cells
  rw [HO.out.as'] at c0
  have HE := Lib.hid (HO.out.setRd (A.rd + 1))
  go_upto_region 13 with fail
  clear c0 c1 c2 c3 c12 c13 c14 c15 c16 cf HD
  generalize W.setCell ⟨a, 14, none⟩ (.int .u64 (A.rd + 1)) = W2 at *
  have HD := Lib.hid (HE.out.below (Below.refl _ _).drew)
  obtain ⟨c0, c1, c2, c3, c12, c13, c14, c15, c16, cf⟩ := HD.out.pa.cells
  obtain ⟨s0, s1, s2, s3, s4⟩ := HD.out.pi.cells
  rw [HD.out.as'] at c0
  have x0 := (HD.out.kept HXA.out 0).trans HX.out.1
  have x1 := (HD.out.kept HXA.out 1).trans HX.out.2
  refine wp_region_held_drew (S := (fun w' => w'.cell? ⟨a, 1, none⟩ = some (.int .i64 A.who) ∧ w'.cell? ⟨a, 0, none⟩ = some (.pointer (some ⟨s, 0, none⟩)) ∧ w'.cell? ⟨s, 1, none⟩ = some (.int .i64 S.wd) ∧ w'.cell? ⟨a, 14, none⟩ = some (.int .u64 (A.rd + 1)))) (by kernel_rfl) ?_ (fun hHeld => ?_)
  · ((try dsimp only); first | (obtain ⟨k0, k1, _, _, _, _, k14, _⟩ := HD.out.pa.cells; obtain ⟨_, t1, _⟩ := HD.out.pi.cells; rw [HD.out.as'] at k0; exact ⟨k1, k0, t1, k14⟩))
  refine wpAnyH_take (i := 0) (v := ?_) rfl (by kernel_rfl) (by kernel_rfl) (by kernel_rfl) (fun _ _ _ h => h) (Or.inl ⟨by rfl, ?_⟩) (by assumption) ?_
  rotate_left 1
  · (intro w hSw; (try dsimp only at hSw); first | (go_simp; done) | (go_simp; with_reducible rfl))
  try simp only [Act.put, List.setIfInBounds_toArray, List.set_cons_zero, List.set_cons_succ, List.getElem_toArray, List.getElem_cons_zero]
  refine wpAnyH_take (i := 1) (v := ?_) rfl (by kernel_rfl) (by kernel_rfl) (by kernel_rfl) (fun _ _ _ h => h) (Or.inl ⟨by rfl, ?_⟩) (by assumption) ?_
  rotate_left 1
  · (intro w hSw; (try dsimp only at hSw); first | (go_simp; done) | (go_simp; with_reducible rfl))
  try simp only [Act.put, List.setIfInBounds_toArray, List.set_cons_zero, List.set_cons_succ, List.getElem_toArray, List.getElem_cons_zero, List.getElem_cons_succ]
  refine wpAnyH_take (i := 2) (v := ?_) rfl (by kernel_rfl) (by kernel_rfl) (by kernel_rfl) (fun _ _ _ h => h) (Or.inl ⟨by rfl, ?_⟩) (by assumption) ?_
  rotate_left 1
  · (intro w hSw; (try dsimp only at hSw); first | (go_simp; done) | (go_simp; with_reducible rfl))
  try simp only [Act.put, List.setIfInBounds_toArray, List.set_cons_zero, List.set_cons_succ, List.getElem_toArray, List.getElem_cons_zero, List.getElem_cons_succ]
  refine wpAnyH_take (i := 3) (v := ?_) rfl (by kernel_rfl) (by kernel_rfl) (by kernel_rfl) (fun _ _ _ h => h) (Or.inl ⟨by rfl, ?_⟩) (by assumption) ?_
  rotate_left 1
  · (intro w hSw; (try dsimp only at hSw); first | (go_simp; done) | (go_simp; with_reducible rfl))
  try simp only [Act.put, List.setIfInBounds_toArray, List.set_cons_zero, List.set_cons_succ, List.getElem_toArray, List.getElem_cons_zero, List.getElem_cons_succ]
  refine wpAnyH_take (i := 4) (v := ?_) rfl (by kernel_rfl) (by kernel_rfl) (by kernel_rfl) (fun _ _ _ h => h) (Or.inl ⟨by rfl, ?_⟩) (by assumption) ?_
  rotate_left 1
  · (intro w hSw; (try dsimp only at hSw); first | (go_simp; done) | (go_simp; with_reducible rfl))
  try simp only [Act.put, List.setIfInBounds_toArray, List.set_cons_zero, List.set_cons_succ, List.getElem_toArray, List.getElem_cons_zero, List.getElem_cons_succ]
  refine wpAnyH_take (i := 5) (v := ?_) rfl (by kernel_rfl) (by kernel_rfl) (by kernel_rfl) (fun _ _ _ h => h) (Or.inl ⟨by rfl, ?_⟩) (by assumption) ?_
  rotate_left 1
  · (intro w hSw; (try dsimp only at hSw); first | (go_simp; done) | (go_simp; with_reducible rfl))
  try simp only [Act.put, List.setIfInBounds_toArray, List.set_cons_zero, List.set_cons_succ, List.getElem_toArray, List.getElem_cons_zero, List.getElem_cons_succ]
  refine wpAnyH_take (i := 6) (v := ?_) rfl (by kernel_rfl) (by kernel_rfl) (by kernel_rfl) (fun _ _ _ h => h) (Or.inl ⟨by rfl, ?_⟩) (by assumption) ?_
  rotate_left 1
  · (intro w hSw; (try dsimp only at hSw); first | (go_simp; done) | (go_simp; with_reducible rfl))
  try simp only [Act.put, List.setIfInBounds_toArray, List.set_cons_zero, List.set_cons_succ, List.getElem_toArray, List.getElem_cons_zero, List.getElem_cons_succ]
  refine wpAnyH_take (i := 7) (v := ?_) rfl (by kernel_rfl) (by kernel_rfl) (by kernel_rfl) (fun _ _ _ h => h) (Or.inl ⟨by rfl, ?_⟩) (by assumption) ?_
  rotate_left 1
  · (intro w hSw; (try dsimp only at hSw); first | (go_simp; done) | (go_simp; with_reducible rfl))
  try simp only [Act.put, List.setIfInBounds_toArray, List.set_cons_zero, List.set_cons_succ, List.getElem_toArray, List.getElem_cons_zero, List.getElem_cons_succ]
  refine wpAnyH_take (i := 8) (v := ?_) rfl (by kernel_rfl) (by kernel_rfl) (by kernel_rfl) (fun _ _ _ h => h) (Or.inl ⟨by rfl, ?_⟩) (by assumption) ?_
  rotate_left 1
  · (intro w hSw; (try dsimp only at hSw); first | (go_simp; done) | (go_simp; with_reducible rfl))
  try simp only [Act.put, List.setIfInBounds_toArray, List.set_cons_zero, List.set_cons_succ, List.getElem_toArray, List.getElem_cons_zero, List.getElem_cons_succ]
  refine wpAnyH_take (i := 9) (v := ?_) rfl (by kernel_rfl) (by kernel_rfl) (by kernel_rfl) (fun _ _ _ h => h) (Or.inl ⟨by rfl, ?_⟩) (by assumption) ?_
  rotate_left 1
  · (intro w hSw; (try dsimp only at hSw); first | (go_simp; done) | (go_simp; with_reducible rfl))
  try simp only [Act.put, List.setIfInBounds_toArray, List.set_cons_zero, List.set_cons_succ, List.getElem_toArray, List.getElem_cons_zero, List.getElem_cons_succ]
  refine wpAnyH_take (i := 10) (v := ?_) rfl (by kernel_rfl) (by kernel_rfl) (by kernel_rfl) (fun _ _ _ h => h) (Or.inl ⟨by rfl, ?_⟩) (by assumption) ?_
  rotate_left 1
  · (intro w hSw; (try dsimp only at hSw); first | (go_simp; done) | (go_simp; with_reducible rfl))
  try simp only [Act.put, List.setIfInBounds_toArray, List.set_cons_zero, List.set_cons_succ, List.getElem_toArray, List.getElem_cons_zero, List.getElem_cons_succ]
  refine wpAnyH_take (i := 11) (v := ?_) rfl (by kernel_rfl) (by kernel_rfl) (by kernel_rfl) (fun _ _ _ h => h) (Or.inl ⟨by rfl, ?_⟩) (by assumption) ?_
  rotate_left 1
  · (intro w hSw; (try dsimp only at hSw); first | (go_simp; done) | (go_simp; with_reducible rfl))
  try simp only [Act.put, List.setIfInBounds_toArray, List.set_cons_zero, List.set_cons_succ, List.getElem_toArray, List.getElem_cons_zero, List.getElem_cons_succ]
  refine wpAnyH_take (i := 12) (v := ?_) rfl (by kernel_rfl) (by kernel_rfl) (by kernel_rfl) (fun _ _ _ h => h) (Or.inl ⟨by rfl, ?_⟩) (by assumption) ?_
  rotate_left 1
  · (intro w hSw; (try dsimp only at hSw); first | (go_simp; done) | (go_simp; with_reducible rfl))
  try simp only [Act.put, List.setIfInBounds_toArray, List.set_cons_zero, List.set_cons_succ, List.getElem_toArray, List.getElem_cons_zero, List.getElem_cons_succ]
  refine wpAnyH_ready (rs := [13]) (by kernel_rfl) (by simp) ?_
  refine AllReadyH.cons rfl (fun K hK => ?_) AllReadyH.nil
  go_simp
  go_at_call 52
  refine (mz_store HD.out.mz HG.out HB.out.1 HB.out.2.1 HB.out.2.2.1 HB.out.2.2.2 A.who S.wd (A.rd + 1) HWHO.out HWI.out).mono ?_
  rintro e W4 ⟨rfl, hm, hkb⟩
  have HF := Lib.hid (HD.out.call hm hkb)
  clear hm hkb
  try go_wp2_with fail
  refine hK.out _ _ ?_ (fun hHeld => ?_)
  · ((try dsimp only); (obtain ⟨k0, k1, _, _, _, _, k14, _⟩ := HF.out.pa.cells; obtain ⟨_, t1, _⟩ := HF.out.pi.cells; rw [HF.out.as'] at k0; exact ⟨k1, k0, t1, k14⟩))
  clear hK K
  try simp only [Act.put, List.setIfInBounds_toArray, List.set_cons_zero, List.set_cons_succ, List.getElem_toArray, List.getElem_cons_zero, List.getElem_cons_succ]
  refine wpAnyH_done (by kernel_rfl) ?_ _

  have HU := Lib.hid (HF.out.under (fun j hj hja => (HS.out.1 j hj hja).trans (HR.out.fr j hj hja)) (by have h1 := HS.out.2; have h2 := hX.out; have h3 := HR.out.sz; omega))
  go_wp2_with fail
  first | go_ret | go_end0
  refine ⟨rfl, zs1, A.bx, A.tk, HZ1.out.1, fun j hj => (HZ1.out.2 j hj).imp id (fun e => by have := hX.out; omega), fun g hg => .inl hg, HU.out⟩

set_option maxRecDepth 1000000 in
set_option maxHeartbeats 16000000 in
theorem pldo_free (h : Pg n w0 wr fs zs a s S A P D B T M w) (hsp : M.sp A.who = false) (hG : Mm.Good ga gb gc k M) (ha : ga ≤ 65536) (hb : gb ≤ 65536) (hc : gc ≤ 65536) (hk : k ≤ 100000) (hwho : I64 A.who) (hi : i < 8) (hla : 0 ≤ S.la ∧ S.la ≤ 100000) :
    Calls Try.prog 35 #[.pointer (some ⟨a, 0, none⟩), .agg #[.int .i64 5, .int .i64 (i : Int)]] w (DoQ n w0 wr fs zs a s S A P D B T (relS M A.who 5 (S.la + (i : Int))) A.rd w.heap.size) := by
  have HR := Lib.hid h
  obtain ⟨c0, c1, c2, c3, c12, c13, c14, c15, c16, cf⟩ := h.pa.cells
  obtain ⟨s0, s1, s2, s3, s4⟩ := h.pi.cells
  rw [h.as'] at c0
  have hal := h.pa.lt
  have hsl := h.pi.lt
  have HG := Lib.hid hG
  have HB := Lib.hid (And.intro ha (And.intro hb (And.intro hc hk)))
  have HWHO := Lib.hid hwho
  have HWI : Hid (I64 (S.la + (i : Int))) := Lib.hid ⟨by omega, by omega⟩
  have hw1 : IntKind.i64.wrap (S.la + (i : Int)) = (S.la + (i : Int)) := w_id HWI.out
  clear hi hla

  clear h hG hsp ha hb hc hk hwho
  go_enter Try.func35, Try.ntmps35
  go_upto_region 1 with fail
  go_region
  go_upto_region 15 with fail
  have hn := heap_alloc_new w (.cells #[Value.int .i64 (5), .int .i64 ((i : Int))] 76)
  have hxl : w.heap.size < (w.alloc (.cells #[Value.int .i64 (5), .int .i64 ((i : Int))] 76)).drew.heap.size := (Array.getElem?_eq_some_iff.1 hn).1
  have x0 : (w.alloc (.cells #[Value.int .i64 (5), .int .i64 ((i : Int))] 76)).drew.cell? ⟨w.heap.size, 0, none⟩ = some (.int .i64 (5)) := cell_of_row _ _ _ _ _ _ hn
  have x1 : (w.alloc (.cells #[Value.int .i64 (5), .int .i64 ((i : Int))] 76)).drew.cell? ⟨w.heap.size, 1, none⟩ = some (.int .i64 ((i : Int))) := cell_of_row _ _ _ _ _ _ hn
  have hbx : Below w.heap.size w (w.alloc (.cells #[Value.int .i64 (5), .int .i64 ((i : Int))] 76)).drew := ((Below.refl _ _).alloc (Nat.le_refl _) _).drew
  obtain ⟨zs1, y1, y2, hov⟩ := HR.out.over hbx (Nat.le_refl w.heap.size) hxl
  have HO := Lib.hid hov
  have HZ1 := Lib.hid (And.intro y1 y2)
  have HS := Lib.hid (And.intro (fun j (hj : j ∈ fs) (_ : j ≠ a) => hbx.block j (blk_lt HR.out.mz j (HR.out.fz j hj))) hbx.size)
  have HX := Lib.hid (And.intro x0 x1)
  have HXA : Hid (w.heap.size ≠ a) := Lib.hid (by omega)
  have HSZ := Lib.hid hbx.size
  generalize hX : w.heap.size = X at *
  replace hX := Lib.hid hX
  generalize (w.alloc (.cells #[Value.int .i64 (5), .int .i64 ((i : Int))] 76)).drew = W at *
  clear hn hxl hbx hov y1 y2 c0 c1 c2 c3 c12 c13 c14 c15 c16 cf s0 s1 s2 s3 s4 x0 x1 hal hsl
  have HD := Lib.hid (HO.out.below (Below.refl _ _).drew)
  obtain ⟨c0, c1, c2, c3, c12, c13, c14, c15, c16, cf⟩ := HD.out.pa.cells
  obtain ⟨s0, s1, s2, s3, s4⟩ := HD.out.pi.cells
  rw [HD.out.as'] at c0
  have x0 := (HD.out.kept HXA.out 0).trans HX.out.1
  have x1 := (HD.out.kept HXA.out 1).trans HX.out.2
  refine wp_region_held_drew (S := (fun w' => w'.cell? ⟨X, 1, none⟩ = some (.int .i64 (i : Int)) ∧ w'.cell? ⟨a, 1, none⟩ = some (.int .i64 A.who) ∧ w'.cell? ⟨a, 0, none⟩ = some (.pointer (some ⟨s, 0, none⟩)) ∧ w'.cell? ⟨s, 3, none⟩ = some (.int .i64 S.la))) (by kernel_rfl) ?_ (fun hHeld => ?_)
  · ((try dsimp only); first | (obtain ⟨k0, k1, _⟩ := HD.out.pa.cells; obtain ⟨_, t1, t2, t3, _⟩ := HD.out.pi.cells; have y1 := (HD.out.kept HXA.out 1).trans HX.out.2; rw [HD.out.as'] at k0; exact ⟨y1, k1, k0, t3⟩))
  refine wpAnyH_take (i := 0) (v := ?_) rfl (by kernel_rfl) (by kernel_rfl) (by kernel_rfl) (fun _ _ _ h => h) (Or.inl ⟨by rfl, ?_⟩) (by assumption) ?_
  rotate_left 1
  · (intro w hSw; (try dsimp only at hSw); first | (go_simp; done) | (go_simp; with_reducible rfl))
  try simp only [Act.put, List.setIfInBounds_toArray, List.set_cons_zero, List.set_cons_succ, List.getElem_toArray, List.getElem_cons_zero]
  refine wpAnyH_take (i := 1) (v := ?_) rfl (by kernel_rfl) (by kernel_rfl) (by kernel_rfl) (fun _ _ _ h => h) (Or.inl ⟨by rfl, ?_⟩) (by assumption) ?_
  rotate_left 1
  · (intro w hSw; (try dsimp only at hSw); first | (go_simp; done) | (go_simp; with_reducible rfl))
  try simp only [Act.put, List.setIfInBounds_toArray, List.set_cons_zero, List.set_cons_succ, List.getElem_toArray, List.getElem_cons_zero, List.getElem_cons_succ]
  refine wpAnyH_take (i := 2) (v := ?_) rfl (by kernel_rfl) (by kernel_rfl) (by kernel_rfl) (fun _ _ _ h => h) (Or.inl ⟨by rfl, ?_⟩) (by assumption) ?_
  rotate_left 1
  · (intro w hSw; (try dsimp only at hSw); first | (go_simp; done) | (go_simp; with_reducible rfl))
  try simp only [Act.put, List.setIfInBounds_toArray, List.set_cons_zero, List.set_cons_succ, List.getElem_toArray, List.getElem_cons_zero, List.getElem_cons_succ]
  refine wpAnyH_take (i := 3) (v := ?_) rfl (by kernel_rfl) (by kernel_rfl) (by kernel_rfl) (fun _ _ _ h => h) (Or.inl ⟨by rfl, ?_⟩) (by assumption) ?_
  rotate_left 1
  · (intro w hSw; (try dsimp only at hSw); first | (go_simp; done) | (go_simp; with_reducible rfl))
  try simp only [Act.put, List.setIfInBounds_toArray, List.set_cons_zero, List.set_cons_succ, List.getElem_toArray, List.getElem_cons_zero, List.getElem_cons_succ]
  refine wpAnyH_take (i := 4) (v := ?_) rfl (by kernel_rfl) (by kernel_rfl) (by kernel_rfl) (fun _ _ _ h => h) (Or.inl ⟨by rfl, ?_⟩) (by assumption) ?_
  rotate_left 1
  · (intro w hSw; (try dsimp only at hSw); first | (go_simp; done) | (go_simp; with_reducible rfl))
  try simp only [Act.put, List.setIfInBounds_toArray, List.set_cons_zero, List.set_cons_succ, List.getElem_toArray, List.getElem_cons_zero, List.getElem_cons_succ]
  refine wpAnyH_take (i := 5) (v := ?_) rfl (by kernel_rfl) (by kernel_rfl) (by kernel_rfl) (fun _ _ _ h => h) (Or.inl ⟨by rfl, ?_⟩) (by assumption) ?_
  rotate_left 1
  · (intro w hSw; (try dsimp only at hSw); first | (go_simp; done) | (go_simp; with_reducible rfl))
  try simp only [Act.put, List.setIfInBounds_toArray, List.set_cons_zero, List.set_cons_succ, List.getElem_toArray, List.getElem_cons_zero, List.getElem_cons_succ]
  refine wpAnyH_take (i := 6) (v := ?_) rfl (by kernel_rfl) (by kernel_rfl) (by kernel_rfl) (fun _ _ _ h => h) (Or.inl ⟨by rfl, ?_⟩) (by assumption) ?_
  rotate_left 1
  · (intro w hSw; (try dsimp only at hSw); first | (go_simp; done) | (go_simp; with_reducible rfl))
  try simp only [Act.put, List.setIfInBounds_toArray, List.set_cons_zero, List.set_cons_succ, List.getElem_toArray, List.getElem_cons_zero, List.getElem_cons_succ]
  refine wpAnyH_take (i := 7) (v := ?_) rfl (by kernel_rfl) (by kernel_rfl) (by kernel_rfl) (fun _ _ _ h => h) (Or.inl ⟨by rfl, ?_⟩) (by assumption) ?_
  rotate_left 1
  · (intro w hSw; (try dsimp only at hSw); first | (go_simp; done) | (go_simp; with_reducible rfl))
  try simp only [Act.put, List.setIfInBounds_toArray, List.set_cons_zero, List.set_cons_succ, List.getElem_toArray, List.getElem_cons_zero, List.getElem_cons_succ]
  refine wpAnyH_take (i := 8) (v := ?_) rfl (by kernel_rfl) (by kernel_rfl) (by kernel_rfl) (fun _ _ _ h => h) (Or.inl ⟨by rfl, ?_⟩) (by assumption) ?_
  rotate_left 1
  · (intro w hSw; (try dsimp only at hSw); first | (go_simp; done) | (go_simp; with_reducible rfl))
  try simp only [Act.put, List.setIfInBounds_toArray, List.set_cons_zero, List.set_cons_succ, List.getElem_toArray, List.getElem_cons_zero, List.getElem_cons_succ]
  refine wpAnyH_take (i := 9) (v := ?_) rfl (by kernel_rfl) (by kernel_rfl) (by kernel_rfl) (fun _ _ _ h => h) (Or.inl ⟨by rfl, ?_⟩) (by assumption) ?_
  rotate_left 1
  · (intro w hSw; (try dsimp only at hSw); first | (go_simp; done) | (go_simp; with_reducible rfl))
  try simp only [Act.put, List.setIfInBounds_toArray, List.set_cons_zero, List.set_cons_succ, List.getElem_toArray, List.getElem_cons_zero, List.getElem_cons_succ]
  refine wpAnyH_take (i := 10) (v := ?_) rfl (by kernel_rfl) (by kernel_rfl) (by kernel_rfl) (fun _ _ _ h => h) (Or.inl ⟨by rfl, ?_⟩) (by assumption) ?_
  rotate_left 1
  · (intro w hSw; (try dsimp only at hSw); first | (go_simp; done) | (go_simp; with_reducible rfl))
  try simp only [Act.put, List.setIfInBounds_toArray, List.set_cons_zero, List.set_cons_succ, List.getElem_toArray, List.getElem_cons_zero, List.getElem_cons_succ]
  refine wpAnyH_take (i := 11) (v := ?_) rfl (by kernel_rfl) (by kernel_rfl) (by kernel_rfl) (fun _ _ _ h => h) (Or.inl ⟨by rfl, ?_⟩) (by assumption) ?_
  rotate_left 1
  · (intro w hSw; (try dsimp only at hSw); first | (go_simp; done) | (go_simp; with_reducible rfl))
  try simp only [Act.put, List.setIfInBounds_toArray, List.set_cons_zero, List.set_cons_succ, List.getElem_toArray, List.getElem_cons_zero, List.getElem_cons_succ]
  refine wpAnyH_ready (rs := [12]) (by kernel_rfl) (by simp) ?_
  refine AllReadyH.cons rfl (fun K hK => ?_) AllReadyH.nil
  go_simp
  go_at_call 53
  refine (mz_free HD.out.mz HG.out HB.out.1 HB.out.2.1 HB.out.2.2.1 HB.out.2.2.2 A.who (S.la + (i : Int)) HWHO.out HWI.out).mono ?_
  rintro e W4 ⟨rfl, hm, hkb⟩
  have HF := Lib.hid (HD.out.call hm hkb)
  clear hm hkb
  try go_wp2_with fail
  refine hK.out _ _ ?_ (fun hHeld => ?_)
  · ((try dsimp only); first | (obtain ⟨k0, k1, _⟩ := HF.out.pa.cells; obtain ⟨_, t1, t2, t3, _⟩ := HF.out.pi.cells; have y1 := (HF.out.kept HXA.out 1).trans HX.out.2; rw [HF.out.as'] at k0; exact ⟨y1, k1, k0, t3⟩))
  clear hK K
  try simp only [Act.put, List.setIfInBounds_toArray, List.set_cons_zero, List.set_cons_succ, List.getElem_toArray, List.getElem_cons_zero, List.getElem_cons_succ]
  refine wpAnyH_done (by kernel_rfl) ?_ _

  have HU := Lib.hid (HF.out.under (fun j hj hja => (HS.out.1 j hj hja).trans (HR.out.fr j hj hja)) (by have h1 := HS.out.2; have h2 := hX.out; have h3 := HR.out.sz; omega))
  go_wp2_with fail
  first | go_ret | go_end0
  refine ⟨rfl, zs1, A.bx, A.tk, HZ1.out.1, fun j hj => (HZ1.out.2 j hj).imp id (fun e => by have := hX.out; omega), fun g hg => .inl hg, HU.out⟩

end
end Go.Proofs.Ytmggnalobfihnaa.Pl
