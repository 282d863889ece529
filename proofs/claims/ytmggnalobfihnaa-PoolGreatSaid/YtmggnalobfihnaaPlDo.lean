/-
  PACKAGE pool: do, by kind (Take, in vain too).
-/
import Derived.Test.YtmggnalobfihnaaJoined10
import Derived.Deep.CutRange
import Derived.Deep.RegionHeldLaw
import Derived.BigQuiet
namespace Go.Proofs.Ytmggnalobfihnaa.Pl
open Go.RowKit Rw Pk Go.Maps Mm
set_option linter.unusedVariables false
section
variable {w w' W : World} {S : Pi} {A A' : Pa} {n a s X i : Nat} {w0 wr : World} {fs zs zs' : List Nat} {P : List Int} {D D' : List (Int × Int)} {B B' : Nat → List Batch.Ch} {T T' l : List Batch.Ch} {M M' : Mm.St} {ga gb gc k : Nat} {v : Value}
set_option maxRecDepth 1000000 in
set_option maxHeartbeats 16000000 in
theorem pldo_take (h : Pg n w0 wr fs zs a s S A P D B T M w) (hsp : M.sp A.who = false) (hG : Mm.Good ga gb gc k M) (ha : ga ≤ 65536) (hb : gb ≤ 65536) (hc : gc ≤ 65536) (hk : k ≤ 100000) (hwho : I64 A.who) (hi : i < 8) (hla : 0 ≤ S.la ∧ S.la ≤ 100000) (ht : takeV M A.who (S.la + (i : Int)) = true) :
    Calls Try.prog 35 #[.pointer (some ⟨a, 0, none⟩), .agg #[.int .i64 4, .int .i64 (i : Int)]] w (DoQ n w0 wr fs zs a s S A P D B T (takeS M A.who (S.la + (i : Int))) A.rd w.heap.size) := by
  have HR := Lib.hid h
  obtain ⟨c0, c1, c2, c3, c12, c13, c14, c15, c16, cf⟩ := h.pa.cells
  obtain ⟨s0, s1, s2, s3, s4⟩ := h.pi.cells
  rw [h.as'] at c0
  have hal := h.pa.lt
  have hsl := h.pi.lt
  have HG := Lib.hid hG
  have HB := Lib.hid (And.intro ha (And.intro hb (And.intro hc hk)))
  have HWHO := Lib.hid hwho
  have HWI : Hid (I64 (S.la + (i : Int))) := Lib.hid ⟨by omega, by omega⟩
  have hw1 : IntKind.i64.wrap (S.la + (i : Int)) = (S.la + (i : Int)) := w_id HWI.out
  have HT := Lib.hid ht
  clear ht hi hla

  clear h hG hsp ha hb hc hk hwho
  go_enter Try.func35, Try.ntmps35
  go_upto_region 1 with fail
  go_region
  go_upto_region 4 with fail
  have hn := heap_alloc_new w (.cells #[Value.int .i64 (4), .int .i64 ((i : Int))] 76)
  have hxl : w.heap.size < (w.alloc (.cells #[Value.int .i64 (4), .int .i64 ((i : Int))] 76)).drew.heap.size := (Array.getElem?_eq_some_iff.1 hn).1
  have x0 : (w.alloc (.cells #[Value.int .i64 (4), .int .i64 ((i : Int))] 76)).drew.cell? ⟨w.heap.size, 0, none⟩ = some (.int .i64 (4)) := cell_of_row _ _ _ _ _ _ hn
  have x1 : (w.alloc (.cells #[Value.int .i64 (4), .int .i64 ((i : Int))] 76)).drew.cell? ⟨w.heap.size, 1, none⟩ = some (.int .i64 ((i : Int))) := cell_of_row _ _ _ _ _ _ hn
  have hbx : Below w.heap.size w (w.alloc (.cells #[Value.int .i64 (4), .int .i64 ((i : Int))] 76)).drew := ((Below.refl _ _).alloc (Nat.le_refl _) _).drew
  obtain ⟨zs1, y1, y2, hov⟩ := HR.out.over hbx (Nat.le_refl w.heap.size) hxl
  have HO := Lib.hid hov
  have HZ1 := Lib.hid (And.intro y1 y2)
  have HS := Lib.hid (And.intro (fun j (hj : j ∈ fs) (_ : j ≠ a) => hbx.block j (blk_lt HR.out.mz j (HR.out.fz j hj))) hbx.size)
  have HX := Lib.hid (And.intro x0 x1)
  have HXA : Hid (w.heap.size ≠ a) := Lib.hid (by omega)
  have HSZ := Lib.hid hbx.size
  generalize hX : w.heap.size = X at *
  replace hX := Lib.hid hX
  generalize (w.alloc (.cells #[Value.int .i64 (4), .int .i64 ((i : Int))] 76)).drew = W at *
  clear hn hxl hbx hov y1 y2 c0 c1 c2 c3 c12 c13 c14 c15 c16 cf s0 s1 s2 s3 s4 x0 x1 hal hsl
  have HD := Lib.hid (HO.out.below (Below.refl _ _).drew)
  obtain ⟨c0, c1, c2, c3, c12, c13, c14, c15, c16, cf⟩ := HD.out.pa.cells
  obtain ⟨s0, s1, s2, s3, s4⟩ := HD.out.pi.cells
  rw [HD.out.as'] at c0
  have x0 := (HD.out.kept HXA.out 0).trans HX.out.1
  have x1 := (HD.out.kept HXA.out 1).trans HX.out.2
  refine wp_region_held_drew (S := (fun w' => w'.cell? ⟨X, 1, none⟩ = some (.int .i64 (i : Int)) ∧ w'.cell? ⟨a, 1, none⟩ = some (.int .i64 A.who) ∧ w'.cell? ⟨a, 0, none⟩ = some (.pointer (some ⟨s, 0, none⟩)) ∧ w'.cell? ⟨s, 3, none⟩ = some (.int .i64 S.la))) (by kernel_rfl) ?_ (fun hHeld => ?_)
  · ((try dsimp only); first | (obtain ⟨k0, k1, _⟩ := HD.out.pa.cells; obtain ⟨_, t1, t2, t3, _⟩ := HD.out.pi.cells; have y1 := (HD.out.kept HXA.out 1).trans HX.out.2; rw [HD.out.as'] at k0; exact ⟨y1, k1, k0, t3⟩))
  refine wpAnyH_take (i := 0) (v := ?_) rfl (by kernel_rfl) (by kernel_rfl) (by kernel_rfl) (fun _ _ _ h => h) (Or.inl ⟨by rfl, ?_⟩) (by assumption) ?_
  rotate_left 1
  · (intro w hSw; (try dsimp only at hSw); first | (go_simp; done) | (go_simp; with_reducible rfl))
  try simp only [Act.put, List.setIfInBounds_toArray, List.set_cons_zero, List.set_cons_succ, List.getElem_toArray, List.getElem_cons_zero]
  refine wpAnyH_take (i := 1) (v := ?_) rfl (by kernel_rfl) (by kernel_rfl) (by kernel_rfl) (fun _ _ _ h => h) (Or.inl ⟨by rfl, ?_⟩) (by assumption) ?_
  rotate_left 1
  · (intro w hSw; (try dsimp only at hSw); first | (go_simp; done) | (go_simp; with_reducible rfl))
  try simp only [Act.put, List.setIfInBounds_toArray, List.set_cons_zero, List.set_cons_succ, List.getElem_toArray, List.getElem_cons_zero, List.getElem_cons_succ]
  refine wpAnyH_take (i := 2) (v := ?_) rfl (by kernel_rfl) (by kernel_rfl) (by kernel_rfl) (fun _ _ _ h => h) (Or.inl ⟨by rfl, ?_⟩) (by assumption) ?_
  rotate_left 1
  · (intro w hSw; (try dsimp only at hSw); first | (go_simp; done) | (go_simp; with_reducible rfl))
  try simp only [Act.put, List.setIfInBounds_toArray, List.set_cons_zero, List.set_cons_succ, List.getElem_toArray, List.getElem_cons_zero, List.getElem_cons_succ]
  refine wpAnyH_take (i := 3) (v := ?_) rfl (by kernel_rfl) (by kernel_rfl) (by kernel_rfl) (fun _ _ _ h => h) (Or.inl ⟨by rfl, ?_⟩) (by assumption) ?_
  rotate_left 1
  · (intro w hSw; (try dsimp only at hSw); first | (go_simp; done) | (go_simp; with_reducible rfl))
  try simp only [Act.put, List.setIfInBounds_toArray, List.set_cons_zero, List.set_cons_succ, List.getElem_toArray, List.getElem_cons_zero, List.getElem_cons_succ]
  refine wpAnyH_take (i := 4) (v := ?_) rfl (by kernel_rfl) (by kernel_rfl) (by kernel_rfl) (fun _ _ _ h => h) (Or.inl ⟨by rfl, ?_⟩) (by assumption) ?_
  rotate_left 1
  · (intro w hSw; (try dsimp only at hSw); first | (go_simp; done) | (go_simp; with_reducible rfl))
  try simp only [Act.put, List.setIfInBounds_toArray, List.set_cons_zero, List.set_cons_succ, List.getElem_toArray, List.getElem_cons_zero, List.getElem_cons_succ]
  refine wpAnyH_take (i := 5) (v := ?_) rfl (by kernel_rfl) (by kernel_rfl) (by kernel_rfl) (fun _ _ _ h => h) (Or.inl ⟨by rfl, ?_⟩) (by assumption) ?_
  rotate_left 1
  · (intro w hSw; (try dsimp only at hSw); first | (go_simp; done) | (go_simp; with_reducible rfl))
  try simp only [Act.put, List.setIfInBounds_toArray, List.set_cons_zero, List.set_cons_succ, List.getElem_toArray, List.getElem_cons_zero, List.getElem_cons_succ]
  refine wpAnyH_take (i := 6) (v := ?_) rfl (by kernel_rfl) (by kernel_rfl) (by kernel_rfl) (fun _ _ _ h => h) (Or.inl ⟨by rfl, ?_⟩) (by assumption) ?_
  rotate_left 1
  · (intro w hSw; (try dsimp only at hSw); first | (go_simp; done) | (go_simp; with_reducible rfl))
  try simp only [Act.put, List.setIfInBounds_toArray, List.set_cons_zero, List.set_cons_succ, List.getElem_toArray, List.getElem_cons_zero, List.getElem_cons_succ]
  refine wpAnyH_take (i := 7) (v := ?_) rfl (by kernel_rfl) (by kernel_rfl) (by kernel_rfl) (fun _ _ _ h => h) (Or.inl ⟨by rfl, ?_⟩) (by assumption) ?_
  rotate_left 1
  · (intro w hSw; (try dsimp only at hSw); first | (go_simp; done) | (go_simp; with_reducible rfl))
  try simp only [Act.put, List.setIfInBounds_toArray, List.set_cons_zero, List.set_cons_succ, List.getElem_toArray, List.getElem_cons_zero, List.getElem_cons_succ]
  refine wpAnyH_take (i := 8) (v := ?_) rfl (by kernel_rfl) (by kernel_rfl) (by kernel_rfl) (fun _ _ _ h => h) (Or.inl ⟨by rfl, ?_⟩) (by assumption) ?_
  rotate_left 1
  · (intro w hSw; (try dsimp only at hSw); first | (go_simp; done) | (go_simp; with_reducible rfl))
  try simp only [Act.put, List.setIfInBounds_toArray, List.set_cons_zero, List.set_cons_succ, List.getElem_toArray, List.getElem_cons_zero, List.getElem_cons_succ]
  refine wpAnyH_take (i := 9) (v := ?_) rfl (by kernel_rfl) (by kernel_rfl) (by kernel_rfl) (fun _ _ _ h => h) (Or.inl ⟨by rfl, ?_⟩) (by assumption) ?_
  rotate_left 1
  · (intro w hSw; (try dsimp only at hSw); first | (go_simp; done) | (go_simp; with_reducible rfl))
  try simp only [Act.put, List.setIfInBounds_toArray, List.set_cons_zero, List.set_cons_succ, List.getElem_toArray, List.getElem_cons_zero, List.getElem_cons_succ]
  refine wpAnyH_take (i := 10) (v := ?_) rfl (by kernel_rfl) (by kernel_rfl) (by kernel_rfl) (fun _ _ _ h => h) (Or.inl ⟨by rfl, ?_⟩) (by assumption) ?_
  rotate_left 1
  · (intro w hSw; (try dsimp only at hSw); first | (go_simp; done) | (go_simp; with_reducible rfl))
  try simp only [Act.put, List.setIfInBounds_toArray, List.set_cons_zero, List.set_cons_succ, List.getElem_toArray, List.getElem_cons_zero, List.getElem_cons_succ]
  refine wpAnyH_take (i := 11) (v := ?_) rfl (by kernel_rfl) (by kernel_rfl) (by kernel_rfl) (fun _ _ _ h => h) (Or.inl ⟨by rfl, ?_⟩) (by assumption) ?_
  rotate_left 1
  · (intro w hSw; (try dsimp only at hSw); first | (go_simp; done) | (go_simp; with_reducible rfl))
  try simp only [Act.put, List.setIfInBounds_toArray, List.set_cons_zero, List.set_cons_succ, List.getElem_toArray, List.getElem_cons_zero, List.getElem_cons_succ]
  refine wpAnyH_ready (rs := [12]) (by kernel_rfl) (by simp) ?_
  refine AllReadyH.cons rfl (fun K hK => ?_) AllReadyH.nil
  go_simp
  go_at_call 48
  refine (mz_take HD.out.mz HG.out HB.out.1 HB.out.2.1 HB.out.2.2.1 HB.out.2.2.2 A.who (S.la + (i : Int)) HWHO.out HWI.out).mono ?_
  rintro e W4 ⟨rfl, hm, hkb⟩
  have HF := Lib.hid (HD.out.call hm hkb)
  clear hm hkb
  rw [HT.out]
  try go_wp2_with fail
  refine hK.out _ _ ?_ (fun hHeld => ?_)
  · ((try dsimp only); first | (obtain ⟨k0, k1, _⟩ := HF.out.pa.cells; obtain ⟨_, t1, t2, t3, _⟩ := HF.out.pi.cells; have y1 := (HF.out.kept HXA.out 1).trans HX.out.2; rw [HF.out.as'] at k0; exact ⟨y1, k1, k0, t3⟩))
  clear hK K
  try simp only [Act.put, List.setIfInBounds_toArray, List.set_cons_zero, List.set_cons_succ, List.getElem_toArray, List.getElem_cons_zero, List.getElem_cons_succ]
  refine wpAnyH_take (i := 13) (v := ?_) rfl (by kernel_rfl) (by kernel_rfl) (by kernel_rfl) (fun _ _ _ h => h) (Or.inl ⟨by rfl, ?_⟩) (by assumption) ?_
  rotate_left 1
  · (intro w hSw; (try dsimp only at hSw); first | (go_simp; done) | (go_simp; with_reducible rfl))
  try simp only [Act.put, List.setIfInBounds_toArray, List.set_cons_zero, List.set_cons_succ, List.getElem_toArray, List.getElem_cons_zero, List.getElem_cons_succ]
  refine wpAnyH_take (i := 14) (v := undef) rfl (by kernel_rfl) (by kernel_rfl) (by kernel_rfl) (fun _ _ _ h => h) (Or.inr ⟨by rfl, rfl⟩) (by assumption) ?_
  try simp only [Act.put, List.setIfInBounds_toArray, List.set_cons_zero, List.set_cons_succ, List.getElem_toArray, List.getElem_cons_zero, List.getElem_cons_succ]
  refine wpAnyH_take (i := 15) (v := undef) rfl (by kernel_rfl) (by kernel_rfl) (by kernel_rfl) (fun _ _ _ h => h) (Or.inr ⟨by rfl, rfl⟩) (by assumption) ?_
  try simp only [Act.put, List.setIfInBounds_toArray, List.set_cons_zero, List.set_cons_succ, List.getElem_toArray, List.getElem_cons_zero, List.getElem_cons_succ]
  refine wpAnyH_take (i := 16) (v := undef) rfl (by kernel_rfl) (by kernel_rfl) (by kernel_rfl) (fun _ _ _ h => h) (Or.inr ⟨by rfl, rfl⟩) (by assumption) ?_
  try simp only [Act.put, List.setIfInBounds_toArray, List.set_cons_zero, List.set_cons_succ, List.getElem_toArray, List.getElem_cons_zero, List.getElem_cons_succ]
  refine wpAnyH_take (i := 17) (v := undef) rfl (by kernel_rfl) (by kernel_rfl) (by kernel_rfl) (fun _ _ _ h => h) (Or.inr ⟨by rfl, rfl⟩) (by assumption) ?_
  try simp only [Act.put, List.setIfInBounds_toArray, List.set_cons_zero, List.set_cons_succ, List.getElem_toArray, List.getElem_cons_zero, List.getElem_cons_succ]
  refine wpAnyH_take (i := 18) (v := undef) rfl (by kernel_rfl) (by kernel_rfl) (by kernel_rfl) (fun _ _ _ h => h) (Or.inr ⟨by rfl, rfl⟩) (by assumption) ?_
  try simp only [Act.put, List.setIfInBounds_toArray, List.set_cons_zero, List.set_cons_succ, List.getElem_toArray, List.getElem_cons_zero, List.getElem_cons_succ]
  refine wpAnyH_take (i := 19) (v := undef) rfl (by kernel_rfl) (by kernel_rfl) (by kernel_rfl) (fun _ _ _ h => h) (Or.inr ⟨by rfl, rfl⟩) (by assumption) ?_
  try simp only [Act.put, List.setIfInBounds_toArray, List.set_cons_zero, List.set_cons_succ, List.getElem_toArray, List.getElem_cons_zero, List.getElem_cons_succ]
  refine wpAnyH_take (i := 20) (v := undef) rfl (by kernel_rfl) (by kernel_rfl) (by kernel_rfl) (fun _ _ _ h => h) (Or.inr ⟨by rfl, rfl⟩) (by assumption) ?_
  try simp only [Act.put, List.setIfInBounds_toArray, List.set_cons_zero, List.set_cons_succ, List.getElem_toArray, List.getElem_cons_zero, List.getElem_cons_succ]
  refine wpAnyH_take (i := 21) (v := undef) rfl (by kernel_rfl) (by kernel_rfl) (by kernel_rfl) (fun _ _ _ h => h) (Or.inr ⟨by rfl, rfl⟩) (by assumption) ?_
  try simp only [Act.put, List.setIfInBounds_toArray, List.set_cons_zero, List.set_cons_succ, List.getElem_toArray, List.getElem_cons_zero, List.getElem_cons_succ]
  refine wpAnyH_take (i := 22) (v := undef) rfl (by kernel_rfl) (by kernel_rfl) (by kernel_rfl) (fun _ _ _ h => h) (Or.inr ⟨by rfl, rfl⟩) (by assumption) ?_
  try simp only [Act.put, List.setIfInBounds_toArray, List.set_cons_zero, List.set_cons_succ, List.getElem_toArray, List.getElem_cons_zero, List.getElem_cons_succ]
  refine wpAnyH_take (i := 23) (v := undef) rfl (by kernel_rfl) (by kernel_rfl) (by kernel_rfl) (fun _ _ _ h => h) (Or.inr ⟨by rfl, rfl⟩) (by assumption) ?_
  try simp only [Act.put, List.setIfInBounds_toArray, List.set_cons_zero, List.set_cons_succ, List.getElem_toArray, List.getElem_cons_zero, List.getElem_cons_succ]
  refine wpAnyH_take (i := 24) (v := ?_) rfl (by kernel_rfl) (by kernel_rfl) (by kernel_rfl) (fun _ _ _ h => h) (Or.inl ⟨by rfl, ?_⟩) (by assumption) ?_
  rotate_left 1
  · (intro w hSw; (try dsimp only at hSw); first | (go_simp; done) | (go_simp; with_reducible rfl))
  try simp only [Act.put, List.setIfInBounds_toArray, List.set_cons_zero, List.set_cons_succ, List.getElem_toArray, List.getElem_cons_zero, List.getElem_cons_succ]
  refine wpAnyH_take (i := 25) (v := ?_) rfl (by kernel_rfl) (by kernel_rfl) (by kernel_rfl) (fun _ _ _ h => h) (Or.inl ⟨by rfl, ?_⟩) (by assumption) ?_
  rotate_left 1
  · (intro w hSw; (try dsimp only at hSw); first | (go_simp; done) | (go_simp; with_reducible rfl))
  try simp only [Act.put, List.setIfInBounds_toArray, List.set_cons_zero, List.set_cons_succ, List.getElem_toArray, List.getElem_cons_zero, List.getElem_cons_succ]
  refine wpAnyH_done (by kernel_rfl) ?_ _

  have HU := Lib.hid (HF.out.under (fun j hj hja => (HS.out.1 j hj hja).trans (HR.out.fr j hj hja)) (by have h1 := HS.out.2; have h2 := hX.out; have h3 := HR.out.sz; omega))
  go_wp2_with fail
  first | go_ret | go_end0
  refine ⟨rfl, zs1, A.bx, A.tk, HZ1.out.1, fun j hj => (HZ1.out.2 j hj).imp id (fun e => by have := hX.out; omega), fun g hg => .inl hg, HU.out⟩

set_option maxRecDepth 1000000 in
set_option maxHeartbeats 16000000 in
theorem pldo_takeno (h : Pg n w0 wr fs zs a s S A P D B T M w) (hsp : M.sp A.who = false) (hG : Mm.Good ga gb gc k M) (ha : ga ≤ 65536) (hb : gb ≤ 65536) (hc : gc ≤ 65536) (hk : k ≤ 100000) (hwho : I64 A.who) (hi : i < 8) (hla : 0 ≤ S.la ∧ S.la ≤ 100000) {L : La} {j : Nat} (hj : S.la + (i : Int) = (j : Int)) (hL : M.ls[j]? = some L) (htk : L.tk = true) (hwh : 0 ≤ L.wh) (hm4 : mayB M A.who 4 (S.la + (i : Int)) = true) :
    Calls Try.prog 35 #[.pointer (some ⟨a, 0, none⟩), .agg #[.int .i64 4, .int .i64 (i : Int)]] w fun e w' => e = .returned (.bool false) ∧ ∃ zs', (∀ j ∈ zs, j ∈ zs') ∧ (∀ j ∈ zs', j ∈ zs ∨ w.heap.size ≤ j) ∧ Pg n w0 wr fs zs' a s S A P D B T (M.note ⟨A.who, 4, S.la + (i : Int), false⟩) w' := by
  have HR := Lib.hid h
  obtain ⟨c0, c1, c2, c3, c12, c13, c14, c15, c16, cf⟩ := h.pa.cells
  obtain ⟨s0, s1, s2, s3, s4⟩ := h.pi.cells
  rw [h.as'] at c0
  have hal := h.pa.lt
  have hsl := h.pi.lt
  have HG := Lib.hid hG
  have HB := Lib.hid (And.intro ha (And.intro hb (And.intro hc hk)))
  have HWHO := Lib.hid hwho
  have HWI : Hid (I64 (S.la + (i : Int))) := Lib.hid ⟨by omega, by omega⟩
  have hw1 : IntKind.i64.wrap (S.la + (i : Int)) = (S.la + (i : Int)) := w_id HWI.out
  have hlt := latA_of hL
  rw [← hj] at hlt
  have HV : Hid (takeV M A.who (S.la + (i : Int)) = false) := Lib.hid (by unfold takeV; rw [hlt, htk]; simp)
  have HV2 : Hid (takeS M A.who (S.la + (i : Int)) = M.note ⟨A.who, 4, S.la + (i : Int), false⟩) := Lib.hid (by unfold takeS; rw [if_pos hm4, hlt, if_pos htk])
  have HL := Lib.hid (And.intro hj (show (M.note ⟨A.who, 4, S.la + (i : Int), false⟩).ls[j]? = some L from hL))
  have hwh2 : decide (L.wh < 0) = false := decide_eq_false (by omega)
  have HTK := Lib.hid htk
  have HG2 : Hid (Mm.Good ga gb gc (k + 1) (M.note ⟨A.who, 4, S.la + (i : Int), false⟩)) := Lib.hid (by
    have := hG.take (who := A.who) (a := S.la + (i : Int)) hwho HWI.out
    rwa [HV2.out] at this)
  have HWH := Lib.hid hwh
  clear hlt hj hL htk hm4 hi hla hwh

  clear h hG hsp ha hb hc hk hwho
  go_enter Try.func35, Try.ntmps35
  go_upto_region 1 with fail
  go_region
  go_upto_region 4 with fail
  have hn := heap_alloc_new w (.cells #[Value.int .i64 (4), .int .i64 ((i : Int))] 76)
  have hxl : w.heap.size < (w.alloc (.cells #[Value.int .i64 (4), .int .i64 ((i : Int))] 76)).drew.heap.size := (Array.getElem?_eq_some_iff.1 hn).1
  have x0 : (w.alloc (.cells #[Value.int .i64 (4), .int .i64 ((i : Int))] 76)).drew.cell? ⟨w.heap.size, 0, none⟩ = some (.int .i64 (4)) := cell_of_row _ _ _ _ _ _ hn
  have x1 : (w.alloc (.cells #[Value.int .i64 (4), .int .i64 ((i : Int))] 76)).drew.cell? ⟨w.heap.size, 1, none⟩ = some (.int .i64 ((i : Int))) := cell_of_row _ _ _ _ _ _ hn
  have hbx : Below w.heap.size w (w.alloc (.cells #[Value.int .i64 (4), .int .i64 ((i : Int))] 76)).drew := ((Below.refl _ _).alloc (Nat.le_refl _) _).drew
  obtain ⟨zs1, y1, y2, hov⟩ := HR.out.over hbx (Nat.le_refl w.heap.size) hxl
  have HO := Lib.hid hov
  have HZ1 := Lib.hid (And.intro y1 y2)
  have HS := Lib.hid (And.intro (fun j (hj : j ∈ fs) (_ : j ≠ a) => hbx.block j (blk_lt HR.out.mz j (HR.out.fz j hj))) hbx.size)
  have HX := Lib.hid (And.intro x0 x1)
  have HXA : Hid (w.heap.size ≠ a) := Lib.hid (by omega)
  have HSZ := Lib.hid hbx.size
  generalize hX : w.heap.size = X at *
  replace hX := Lib.hid hX
  generalize (w.alloc (.cells #[Value.int .i64 (4), .int .i64 ((i : Int))] 76)).drew = W at *
  clear hn hxl hbx hov y1 y2 c0 c1 c2 c3 c12 c13 c14 c15 c16 cf s0 s1 s2 s3 s4 x0 x1 hal hsl
  have HD := Lib.hid (HO.out.below (Below.refl _ _).drew)
  obtain ⟨c0, c1, c2, c3, c12, c13, c14, c15, c16, cf⟩ := HD.out.pa.cells
  obtain ⟨s0, s1, s2, s3, s4⟩ := HD.out.pi.cells
  rw [HD.out.as'] at c0
  have x0 := (HD.out.kept HXA.out 0).trans HX.out.1
  have x1 := (HD.out.kept HXA.out 1).trans HX.out.2
  refine wp_region_held_drew (S := (fun w' => w'.cell? ⟨X, 1, none⟩ = some (.int .i64 (i : Int)) ∧ w'.cell? ⟨a, 1, none⟩ = some (.int .i64 A.who) ∧ w'.cell? ⟨a, 0, none⟩ = some (.pointer (some ⟨s, 0, none⟩)) ∧ w'.cell? ⟨s, 3, none⟩ = some (.int .i64 S.la))) (by kernel_rfl) ?_ (fun hHeld => ?_)
  · ((try dsimp only); first | (obtain ⟨k0, k1, _⟩ := HD.out.pa.cells; obtain ⟨_, t1, t2, t3, _⟩ := HD.out.pi.cells; have y1 := (HD.out.kept HXA.out 1).trans HX.out.2; rw [HD.out.as'] at k0; exact ⟨y1, k1, k0, t3⟩))
  refine wpAnyH_take (i := 0) (v := ?_) rfl (by kernel_rfl) (by kernel_rfl) (by kernel_rfl) (fun _ _ _ h => h) (Or.inl ⟨by rfl, ?_⟩) (by assumption) ?_
  rotate_left 1
  · (intro w hSw; (try dsimp only at hSw); first | (go_simp; done) | (go_simp; with_reducible rfl))
  try simp only [Act.put, List.setIfInBounds_toArray, List.set_cons_zero, List.set_cons_succ, List.getElem_toArray, List.getElem_cons_zero]
  refine wpAnyH_take (i := 1) (v := ?_) rfl (by kernel_rfl) (by kernel_rfl) (by kernel_rfl) (fun _ _ _ h => h) (Or.inl ⟨by rfl, ?_⟩) (by assumption) ?_
  rotate_left 1
  · (intro w hSw; (try dsimp only at hSw); first | (go_simp; done) | (go_simp; with_reducible rfl))
  try simp only [Act.put, List.setIfInBounds_toArray, List.set_cons_zero, List.set_cons_succ, List.getElem_toArray, List.getElem_cons_zero, List.getElem_cons_succ]
  refine wpAnyH_take (i := 2) (v := ?_) rfl (by kernel_rfl) (by kernel_rfl) (by kernel_rfl) (fun _ _ _ h => h) (Or.inl ⟨by rfl, ?_⟩) (by assumption) ?_
  rotate_left 1
  · (intro w hSw; (try dsimp only at hSw); first | (go_simp; done) | (go_simp; with_reducible rfl))
  try simp only [Act.put, List.setIfInBounds_toArray, List.set_cons_zero, List.set_cons_succ, List.getElem_toArray, List.getElem_cons_zero, List.getElem_cons_succ]
  refine wpAnyH_take (i := 3) (v := ?_) rfl (by kernel_rfl) (by kernel_rfl) (by kernel_rfl) (fun _ _ _ h => h) (Or.inl ⟨by rfl, ?_⟩) (by assumption) ?_
  rotate_left 1
  · (intro w hSw; (try dsimp only at hSw); first | (go_simp; done) | (go_simp; with_reducible rfl))
  try simp only [Act.put, List.setIfInBounds_toArray, List.set_cons_zero, List.set_cons_succ, List.getElem_toArray, List.getElem_cons_zero, List.getElem_cons_succ]
  refine wpAnyH_take (i := 4) (v := ?_) rfl (by kernel_rfl) (by kernel_rfl) (by kernel_rfl) (fun _ _ _ h => h) (Or.inl ⟨by rfl, ?_⟩) (by assumption) ?_
  rotate_left 1
  · (intro w hSw; (try dsimp only at hSw); first | (go_simp; done) | (go_simp; with_reducible rfl))
  try simp only [Act.put, List.setIfInBounds_toArray, List.set_cons_zero, List.set_cons_succ, List.getElem_toArray, List.getElem_cons_zero, List.getElem_cons_succ]
  refine wpAnyH_take (i := 5) (v := ?_) rfl (by kernel_rfl) (by kernel_rfl) (by kernel_rfl) (fun _ _ _ h => h) (Or.inl ⟨by rfl, ?_⟩) (by assumption) ?_
  rotate_left 1
  · (intro w hSw; (try dsimp only at hSw); first | (go_simp; done) | (go_simp; with_reducible rfl))
  try simp only [Act.put, List.setIfInBounds_toArray, List.set_cons_zero, List.set_cons_succ, List.getElem_toArray, List.getElem_cons_zero, List.getElem_cons_succ]
  refine wpAnyH_take (i := 6) (v := ?_) rfl (by kernel_rfl) (by kernel_rfl) (by kernel_rfl) (fun _ _ _ h => h) (Or.inl ⟨by rfl, ?_⟩) (by assumption) ?_
  rotate_left 1
  · (intro w hSw; (try dsimp only at hSw); first | (go_simp; done) | (go_simp; with_reducible rfl))
  try simp only [Act.put, List.setIfInBounds_toArray, List.set_cons_zero, List.set_cons_succ, List.getElem_toArray, List.getElem_cons_zero, List.getElem_cons_succ]
  refine wpAnyH_take (i := 7) (v := ?_) rfl (by kernel_rfl) (by kernel_rfl) (by kernel_rfl) (fun _ _ _ h => h) (Or.inl ⟨by rfl, ?_⟩) (by assumption) ?_
  rotate_left 1
  · (intro w hSw; (try dsimp only at hSw); first | (go_simp; done) | (go_simp; with_reducible rfl))
  try simp only [Act.put, List.setIfInBounds_toArray, List.set_cons_zero, List.set_cons_succ, List.getElem_toArray, List.getElem_cons_zero, List.getElem_cons_succ]
  refine wpAnyH_take (i := 8) (v := ?_) rfl (by kernel_rfl) (by kernel_rfl) (by kernel_rfl) (fun _ _ _ h => h) (Or.inl ⟨by rfl, ?_⟩) (by assumption) ?_
  rotate_left 1
  · (intro w hSw; (try dsimp only at hSw); first | (go_simp; done) | (go_simp; with_reducible rfl))
  try simp only [Act.put, List.setIfInBounds_toArray, List.set_cons_zero, List.set_cons_succ, List.getElem_toArray, List.getElem_cons_zero, List.getElem_cons_succ]
  refine wpAnyH_take (i := 9) (v := ?_) rfl (by kernel_rfl) (by kernel_rfl) (by kernel_rfl) (fun _ _ _ h => h) (Or.inl ⟨by rfl, ?_⟩) (by assumption) ?_
  rotate_left 1
  · (intro w hSw; (try dsimp only at hSw); first | (go_simp; done) | (go_simp; with_reducible rfl))
  try simp only [Act.put, List.setIfInBounds_toArray, List.set_cons_zero, List.set_cons_succ, List.getElem_toArray, List.getElem_cons_zero, List.getElem_cons_succ]
  refine wpAnyH_take (i := 10) (v := ?_) rfl (by kernel_rfl) (by kernel_rfl) (by kernel_rfl) (fun _ _ _ h => h) (Or.inl ⟨by rfl, ?_⟩) (by assumption) ?_
  rotate_left 1
  · (intro w hSw; (try dsimp only at hSw); first | (go_simp; done) | (go_simp; with_reducible rfl))
  try simp only [Act.put, List.setIfInBounds_toArray, List.set_cons_zero, List.set_cons_succ, List.getElem_toArray, List.getElem_cons_zero, List.getElem_cons_succ]
  refine wpAnyH_take (i := 11) (v := ?_) rfl (by kernel_rfl) (by kernel_rfl) (by kernel_rfl) (fun _ _ _ h => h) (Or.inl ⟨by rfl, ?_⟩) (by assumption) ?_
  rotate_left 1
  · (intro w hSw; (try dsimp only at hSw); first | (go_simp; done) | (go_simp; with_reducible rfl))
  try simp only [Act.put, List.setIfInBounds_toArray, List.set_cons_zero, List.set_cons_succ, List.getElem_toArray, List.getElem_cons_zero, List.getElem_cons_succ]
  refine wpAnyH_ready (rs := [12]) (by kernel_rfl) (by simp) ?_
  refine AllReadyH.cons rfl (fun K hK => ?_) AllReadyH.nil
  go_simp
  go_at_call 48
  refine (mz_take HD.out.mz HG.out HB.out.1 HB.out.2.1 HB.out.2.2.1 HB.out.2.2.2 A.who (S.la + (i : Int)) HWHO.out HWI.out).mono ?_
  rintro e W4 ⟨rfl, hm, hkb⟩
  have HF := Lib.hid (HD.out.call hm hkb)
  clear hm hkb
  rw [HV.out]
  rw [HV2.out] at HF
  try go_wp2_with fail
  refine hK.out _ _ ?_ (fun hHeld => ?_)
  · ((try dsimp only); first | (obtain ⟨k0, k1, _⟩ := HF.out.pa.cells; obtain ⟨_, t1, t2, t3, _⟩ := HF.out.pi.cells; have y1 := (HF.out.kept HXA.out 1).trans HX.out.2; rw [HF.out.as'] at k0; exact ⟨y1, k1, k0, t3⟩))
  clear hK K
  try simp only [Act.put, List.setIfInBounds_toArray, List.set_cons_zero, List.set_cons_succ, List.getElem_toArray, List.getElem_cons_zero, List.getElem_cons_succ]
  refine wpAnyH_take (i := 13) (v := ?_) rfl (by kernel_rfl) (by kernel_rfl) (by kernel_rfl) (fun _ _ _ h => h) (Or.inl ⟨by rfl, ?_⟩) (by assumption) ?_
  rotate_left 1
  · (intro w hSw; (try dsimp only at hSw); first | (go_simp; done) | (go_simp; with_reducible rfl))
  try simp only [Act.put, List.setIfInBounds_toArray, List.set_cons_zero, List.set_cons_succ, List.getElem_toArray, List.getElem_cons_zero, List.getElem_cons_succ]
  refine wpAnyH_take (i := 14) (v := ?_) rfl (by kernel_rfl) (by kernel_rfl) (by kernel_rfl) (fun _ _ _ h => h) (Or.inl ⟨by rfl, ?_⟩) (by assumption) ?_
  rotate_left 1
  · (intro w hSw; (try dsimp only at hSw); first | (go_simp; done) | (go_simp; with_reducible rfl))
  try simp only [Act.put, List.setIfInBounds_toArray, List.set_cons_zero, List.set_cons_succ, List.getElem_toArray, List.getElem_cons_zero, List.getElem_cons_succ]
  refine wpAnyH_take (i := 15) (v := ?_) rfl (by kernel_rfl) (by kernel_rfl) (by kernel_rfl) (fun _ _ _ h => h) (Or.inl ⟨by rfl, ?_⟩) (by assumption) ?_
  rotate_left 1
  · (intro w hSw; (try dsimp only at hSw); first | (go_simp; done) | (go_simp; with_reducible rfl))
  try simp only [Act.put, List.setIfInBounds_toArray, List.set_cons_zero, List.set_cons_succ, List.getElem_toArray, List.getElem_cons_zero, List.getElem_cons_succ]
  refine wpAnyH_take (i := 16) (v := ?_) rfl (by kernel_rfl) (by kernel_rfl) (by kernel_rfl) (fun _ _ _ h => h) (Or.inl ⟨by rfl, ?_⟩) (by assumption) ?_
  rotate_left 1
  · (intro w hSw; (try dsimp only at hSw); first | (go_simp; done) | (go_simp; with_reducible rfl))
  try simp only [Act.put, List.setIfInBounds_toArray, List.set_cons_zero, List.set_cons_succ, List.getElem_toArray, List.getElem_cons_zero, List.getElem_cons_succ]
  refine wpAnyH_take (i := 17) (v := ?_) rfl (by kernel_rfl) (by kernel_rfl) (by kernel_rfl) (fun _ _ _ h => h) (Or.inl ⟨by rfl, ?_⟩) (by assumption) ?_
  rotate_left 1
  · (intro w hSw; (try dsimp only at hSw); first | (go_simp; done) | (go_simp; with_reducible rfl))
  try simp only [Act.put, List.setIfInBounds_toArray, List.set_cons_zero, List.set_cons_succ, List.getElem_toArray, List.getElem_cons_zero, List.getElem_cons_succ]
  refine wpAnyH_take (i := 18) (v := ?_) rfl (by kernel_rfl) (by kernel_rfl) (by kernel_rfl) (fun _ _ _ h => h) (Or.inl ⟨by rfl, ?_⟩) (by assumption) ?_
  rotate_left 1
  · (intro w hSw; (try dsimp only at hSw); first | (go_simp; done) | (go_simp; with_reducible rfl))
  try simp only [Act.put, List.setIfInBounds_toArray, List.set_cons_zero, List.set_cons_succ, List.getElem_toArray, List.getElem_cons_zero, List.getElem_cons_succ]
  refine wpAnyH_take (i := 19) (v := ?_) rfl (by kernel_rfl) (by kernel_rfl) (by kernel_rfl) (fun _ _ _ h => h) (Or.inl ⟨by rfl, ?_⟩) (by assumption) ?_
  rotate_left 1
  · (intro w hSw; (try dsimp only at hSw); first | (go_simp; done) | (go_simp; with_reducible rfl))
  try simp only [Act.put, List.setIfInBounds_toArray, List.set_cons_zero, List.set_cons_succ, List.getElem_toArray, List.getElem_cons_zero, List.getElem_cons_succ]
  refine wpAnyH_take (i := 20) (v := ?_) rfl (by kernel_rfl) (by kernel_rfl) (by kernel_rfl) (fun _ _ _ h => h) (Or.inl ⟨by rfl, ?_⟩) (by assumption) ?_
  rotate_left 1
  · (intro w hSw; (try dsimp only at hSw); first | (go_simp; done) | (go_simp; with_reducible rfl))
  try simp only [Act.put, List.setIfInBounds_toArray, List.set_cons_zero, List.set_cons_succ, List.getElem_toArray, List.getElem_cons_zero, List.getElem_cons_succ]
  refine wpAnyH_take (i := 21) (v := ?_) rfl (by kernel_rfl) (by kernel_rfl) (by kernel_rfl) (fun _ _ _ h => h) (Or.inl ⟨by rfl, ?_⟩) (by assumption) ?_
  rotate_left 1
  · (intro w hSw; (try dsimp only at hSw); first | (go_simp; done) | (go_simp; with_reducible rfl))
  try simp only [Act.put, List.setIfInBounds_toArray, List.set_cons_zero, List.set_cons_succ, List.getElem_toArray, List.getElem_cons_zero, List.getElem_cons_succ]
  refine wpAnyH_ready (rs := [22]) (by kernel_rfl) (by simp) ?_
  refine AllReadyH.cons rfl (fun K hK => ?_) AllReadyH.nil
  go_simp
  go_at_call 28
  obtain ⟨τ, hma, _⟩ := HF.out.mz
  rw [HL.out.1]
  refine (holder_any hma (HG2.out.bnd HB.out.1 HB.out.2.1 HB.out.2.2.1 (by have := HB.out.2.2.2; omega)).1.1 j HL.out.2).mono ?_
  rw [HTK.out]
  rintro e W5 ⟨rfl, rfl⟩
  clear hma
  try go_wp2_with fail
  refine hK.out _ _ ?_ (fun hHeld => ?_)
  · ((try dsimp only); first | (obtain ⟨k0, k1, _⟩ := HF.out.pa.cells; obtain ⟨_, t1, t2, t3, _⟩ := HF.out.pi.cells; have y1 := (HF.out.kept HXA.out 1).trans HX.out.2; rw [HF.out.as'] at k0; exact ⟨y1, k1, k0, t3⟩))
  clear hK K
  try simp only [Act.put, List.setIfInBounds_toArray, List.set_cons_zero, List.set_cons_succ, List.getElem_toArray, List.getElem_cons_zero, List.getElem_cons_succ]
  refine wpAnyH_take (i := 23) (v := ?_) rfl (by kernel_rfl) (by kernel_rfl) (by kernel_rfl) (fun _ _ _ h => h) (Or.inl ⟨by rfl, ?_⟩) (by assumption) ?_
  rotate_left 1
  · (intro w hSw; (try dsimp only at hSw); first | (go_simp; done) | (go_simp; with_reducible rfl))
  try simp only [Act.put, List.setIfInBounds_toArray, List.set_cons_zero, List.set_cons_succ, List.getElem_toArray, List.getElem_cons_zero, List.getElem_cons_succ]
  refine wpAnyH_take (i := 24) (v := ?_) rfl (by kernel_rfl) (by kernel_rfl) (by kernel_rfl) (fun _ _ _ h => h) (Or.inl ⟨by rfl, ?_⟩) (by assumption) ?_
  rotate_left 1
  · (intro w hSw; (try dsimp only at hSw); first | (go_simp; done) | (go_simp; with_reducible rfl))
  try simp only [Act.put, List.setIfInBounds_toArray, List.set_cons_zero, List.set_cons_succ, List.getElem_toArray, List.getElem_cons_zero, List.getElem_cons_succ]
  refine wpAnyH_take (i := 25) (v := ?_) rfl (by kernel_rfl) (by kernel_rfl) (by kernel_rfl) (fun _ _ _ h => h) (Or.inl ⟨by rfl, ?_⟩) (by assumption) ?_
  rotate_left 1
  · (intro w hSw; (try dsimp only at hSw); first | (go_simp; done) | (go_simp; with_reducible rfl))
  try simp only [Act.put, List.setIfInBounds_toArray, List.set_cons_zero, List.set_cons_succ, List.getElem_toArray, List.getElem_cons_zero, List.getElem_cons_succ]
  refine wpAnyH_done (by kernel_rfl) ?_ _

  have HU := Lib.hid (HF.out.under (fun j hj hja => (HS.out.1 j hj hja).trans (HR.out.fr j hj hja)) (by have h1 := HS.out.2; have h2 := hX.out; have h3 := HR.out.sz; omega))
  go_wp2_with fail
  first | go_ret | go_end0
  exact ⟨rfl, zs1, HZ1.out.1, fun j hj => (HZ1.out.2 j hj).imp id (fun e => by have := hX.out; omega), HU.out⟩

end
end Go.Proofs.Ytmggnalobfihnaa.Pl
