/-
  YtlkljeedlkbkgaaGreatDoorClRefNever
  YtlkljeedlkbkgaaGreatDoorClRefLets
  YtlkljeedlkbkgaaGreatDoorClRefAll
-/
import Derived.Test.YtlkljeedlkbkgaaGreatDoorJoined22
import Derived.Test.YtlkljeedlkbkgaaGreatDoorJoined11
import Derived.Test.YtlkljeedlkbkgaaGreatDoorJoined23
import Derived.BigQuiet
import Derived.Test.YtlkljeedlkbkgaaGreatDoorJoined14
import Derived.Test.YtlkljeedlkbkgaaGreatDoorJoined13
import Derived.Test.YtlkljeedlkbkgaaGreatDoorJoined8
import Derived.Test.YtlkljeedlkbkgaaGreatDoorJoined4
import Derived.Deep.RegionHeldLaw
namespace Go.Proofs.YtlkljeedlkbkgaaGreatDoor.Cl
open Go.RowKit Gr Go.Proofs.YtlkljeedlkbkgaaGreatDoor.Fault
set_option linter.unusedVariables false
set_option maxRecDepth 1000000 in
set_option maxHeartbeats 8000000 in
theorem refadvance_never {w : World} {vh vb : Value} {H : List Ed} {B : List Batch.Ch} (id : Int) (hH : Sl w vh H) (hB : Batch.Sl w vb B) (hr : Rise H) (hyes : hasB H id = true) :
    Calls Tryz.prog 33 #[.agg #[vh, vb], .int .i64 id, .int .u64 18446744073709551615] w fun e w' => e = .returned (.tuple #[.agg #[vh, vb], .slice none 0 0, .slice none 0 0, .int .i64 1]) ∧ Below w.heap.size w w' := by
  have HH := Lib.hid hH
  have HN := Lib.hid (refIdx_yes hyes)
  have HRR := Lib.hid hr
  obtain ⟨ah, ch, e1, _⟩ := hH
  obtain ⟨ab, cb, e2, _⟩ := hB
  subst e1 e2
  obtain ⟨w0, hw0⟩ : ∃ w0, w0 = (w.alloc (.cells #[.slice ah H.length ch, .slice ab B.length cb] 29)).alloc (.cells #[.slice none 0 0, .slice none 0 0] 29) := ⟨_, rfl⟩
  have hb0 : Below w.heap.size w w0 := by rw [hw0]; exact ((Below.refl _ _).alloc (Nat.le_refl _) _).alloc (by simp) _
  have hs0 : w0.heap.size = w.heap.size + 1 + 1 := by rw [hw0]; simp
  have hx0 : w0.heap[w.heap.size]? = some (.cells #[.slice ah H.length ch, .slice ab B.length cb] 29 (0, 0)) := by rw [hw0, heap_alloc_old _ _ (by simp)]; exact heap_alloc_new w _
  have hy0 : w0.heap[w.heap.size + 1]? = some (.cells #[.slice none 0 0, .slice none 0 0] 29 (0, 0)) := by
    rw [hw0]; have := heap_alloc_new (w.alloc (.cells #[.slice ah H.length ch, .slice ab B.length cb] 29)) (.cells #[.slice none 0 0, .slice none 0 0] 29); simpa using this
  have HX := Lib.hid hx0
  have HY := Lib.hid hy0
  have HB := Lib.hid hb0
  have HS := Lib.hid hs0
  obtain ⟨x0, x1, _⟩ := pair_cells hx0
  clear hb0 hx0 hy0 hs0 hyes hr
  go_enter Tryz.func33, Tryz.ntmps33
  go_upto_region 1 with fail
  rw [← hw0]
  clear hw0
  go_wp2_with fail
  go_at_call 12
  refine (reffind_any id (HH.out.below HB.out) HRR.out).mono ?_
  rw [HN.out]
  rintro e w1 ⟨rfl, hb⟩
  replace HX := Lib.hid ((hb.block _ (by have := HS.out; omega)).trans HX.out)
  replace HY := Lib.hid ((hb.block _ (by have := HS.out; omega)).trans HY.out)
  replace HB := Lib.hid (HB.out.trans (hb.mono HB.out.size))
  clear hb x0 x1
  have hi0 : (0 : Int) ≤ (idx H id : Int) := Int.natCast_nonneg _
  generalize idx H id = ix at *
  have HR := Lib.hid (pair_cells (heap_setCell_same _ (w.heap.size + 1) 1 _ _ (.slice ab B.length cb) (heap_setCell_same w1 (w.heap.size + 1) 0 _ _ (.slice ah H.length ch) HY.out)))
  have HBE := Lib.hid ((HB.out.setCell (p := ⟨w.heap.size + 1, 0, none⟩) (Nat.le_succ _) (.slice ah H.length ch)).setCell (p := ⟨w.heap.size + 1, 1, none⟩) (Nat.le_succ _) (.slice ab B.length cb))
  obtain ⟨x0, x1, _⟩ := pair_cells HX.out
  obtain ⟨y0, y1, yf⟩ := pair_cells HY.out
  have yf0 := yf 0
  have yf1 := yf 1
  clear yf
  go_wp2_with fail
  obtain ⟨r0, r1, _⟩ := HR.out
  refine bodyPost_ret (v := .tuple #[.agg #[.slice ah H.length ch, .slice ab B.length cb], .slice none 0 0, .slice none 0 0, .int .i64 1]) (by simp [results, Tryz.results33, go_sem, r0, r1]) rfl ⟨rfl, HBE.out⟩
end Go.Proofs.YtlkljeedlkbkgaaGreatDoor.Cl
namespace Go.Proofs.YtlkljeedlkbkgaaGreatDoor.Cl
open Go.RowKit Gr
set_option linter.unusedVariables false
theorem letsB_yes {M : Nat → Nat → Int} {m : Nat} {A : List Batch.Ch} {c x : Batch.Ch} (hx : x ∈ A) (h : letB M m c x = true) : letsB M m A c = true := letsB_iff.2 ⟨x, hx, h⟩
set_option maxRecDepth 1000000 in
set_option maxHeartbeats 16000000 in
theorem reflets_any {w : World} {vA vp : Value} {A : List Batch.Ch} {c : Batch.Ch} {m base j : Nat} {M : Nat → Nat → Int} (hA : Batch.Sl w vA A) (hA0 : ∀ x ∈ A, 0 ≤ x.p) (hM : Mat w base vp m M) (hMU : MU M m) (hm : m ≤ 64) (hcw : c.Wf) (hj : c.p = (j : Int)) (hjm : j < m) :
    Calls Tryz.prog 76 #[vA, vp, c.agg] w fun e w' => e = .returned (.bool (letsB M m A c)) ∧ Below w.heap.size w w' := by
  have HA := Lib.hid hA
  have HA0 := Lib.hid hA0
  have HU := Lib.hid hMU
  have HCW := Lib.hid hcw
  obtain ⟨ao, cap, rfl, hcell, hlc, hcm, _⟩ := hA
  have HC := Lib.hid hcell
  have hlm : A.length ≤ 9223372036854775807 := by omega
  obtain ⟨g, r, rfl, hmf⟩ := hM
  have HMF := Lib.hid hmf
  obtain ⟨cp, ct, cd⟩ := c
  simp only at hj
  subst hj
  obtain ⟨w1, hw1⟩ : ∃ w1, w1 = w.alloc (.cells #[.int .i64 (j : Int), .int .u64 ct, .int .i64 cd] 67) := ⟨_, rfl⟩
  have hb1 : Below w.heap.size w w1 := by rw [hw1]; exact (Below.refl _ _).alloc (Nat.le_refl _) _
  have hs1 : w1.heap.size = w.heap.size + 1 := by rw [hw1]; simp
  have hz1 : w1.heap[w.heap.size]? = some (.cells #[.int .i64 (j : Int), .int .u64 ct, .int .i64 cd] 67 (0, 0)) := by rw [hw1]; exact heap_alloc_new w _
  have HB1 := Lib.hid hb1
  have HS1 := Lib.hid hs1
  have HZ1 := Lib.hid hz1
  have HW1 := Lib.hid hw1
  clear hA0 hMU hcw hcell hlc hcm hmf hb1 hs1 hz1 hw1
  go_enter Tryz.func76, Tryz.ntmps76
  go_upto_region 2 with fail
  rw [← HW1.out]
  have HB0 : Hid (Below w1.heap.size w1 w1) := Lib.hid (Below.refl _ _)
  go_loopg [7] A.length (fun k t wr => ∃ i : Nat, i + k = A.length ∧ t = .int .i64 (i : Int) ∧ Hid (∀ y ∈ A.take i, letB M m ⟨(j : Int), ct, cd⟩ y = false) ∧ Hid (Below w1.heap.size w1 wr))
  case atStart => exact ⟨0, by omega, rfl, Lib.hid (by simp), HB0⟩
  case round =>
    obtain ⟨i, hik, rfl, HN, HB⟩ := hrel
    have HIK := Lib.hid hik
    have hi0 : (0 : Int) ≤ (i : Int) := Int.natCast_nonneg _
    clear hik HB0
    by_cases hlt : i < A.length
    · have hlt' : (i : Int) < (A.length : Int) := by omega
      obtain ⟨x, hx, hxm⟩ := Batch.at_of hlt
      obtain ⟨bb, off, rfl, hcc⟩ := HC.out.resolve_left (fun h => by rw [h.2] at hlt; simp at hlt)
      have HBW := Lib.hid (HB1.out.trans (HB.out.mono (by have := HS1.out; omega)))
      have q := hcc i _ hx
      have hbl := q.lt
      obtain ⟨c0, c1, c2⟩ := q.below HBW.out hbl
      have HX := Lib.hid hx
      have HLT := Lib.hid hlt
      have hp0 := HA0.out x hxm
      have HXW := Lib.hid (HA.out.wf x hxm)
      have hz := (HB.out.block _ (by have := HS1.out; omega)).trans HZ1.out
      obtain ⟨z0, z1, z2, _⟩ := trip_cells hz
      clear hcc q hlt hz hxm hbl hx
      by_cases hxp : x.p < (m : Int)
      · obtain ⟨xp, xt, xd⟩ := x
        simp only at c0 c1 c2 hp0 hxp
        obtain ⟨ii, rfl⟩ : ∃ ii : Nat, xp = (ii : Int) := ⟨xp.toNat, by omega⟩
        have him : ii < m := by omega
        have HLB := Lib.hid (letB_at (M := M) (m := m) (c := ⟨(j : Int), ct, cd⟩) (x := ⟨(ii : Int), xt, xd⟩) (i := ii) (j := j) rfl rfl him)
        have hmf := HMF.out.below HBW.out
        have t0 := hmf.top.cell him
        have r0 := (hmf.row ii him).cell hjm
        obtain ⟨mij, hmij⟩ : ∃ z, z = M ii j := ⟨_, rfl⟩
        have hu := HU.out ii j him hjm
        rw [← hmij] at r0 hu HLB
        have hii0 : (0 : Int) ≤ (ii : Int) := Int.natCast_nonneg _
        have hj0 : (0 : Int) ≤ (j : Int) := Int.natCast_nonneg _
        have hjm2 : (j : Int) < (m : Int) := by omega
        obtain ⟨rb, hrb⟩ : ∃ z, z = Stamp.reachB xt mij ct := ⟨_, rfl⟩
        have HSM := Lib.hid (fun W => (Stamp.refReaches_any xt mij ct ⟨HXW.out.t0, HXW.out.t1⟩ hu ⟨HCW.out.t0, HCW.out.t1⟩ W).mono fun e w' ⟨h1, h2⟩ => show e = Ending.returned (.bool rb) ∧ w' = W from ⟨by rw [hrb]; exact h1, h2.symm⟩)
        have HRB := Lib.hid hrb
        clear hmf hmij hrb hu
        go_wp2_with fail
        go_quiet ((go_at_call 112; exact Calls.quiet_of_same (HSM.out _)))
        cases rb with
        | true =>
          have HR := Lib.hid (letsB_yes (M := M) (m := m) (c := ⟨(j : Int), ct, cd⟩) (List.mem_of_getElem? HX.out) (HLB.out.trans HRB.out.symm))
          go_wp2_with fail
          go_ret
          exact ⟨by rw [HR.out]; rfl, below_drewN HBW.out _⟩
        | false =>
          have HR := Lib.hid (show ∀ y ∈ A.take (i + 1), letB M m ⟨(j : Int), ct, cd⟩ y = false from fun y hy => by
            rw [Batch.take_succ' HX.out] at hy
            rcases List.mem_append.1 hy with hy | hy
            · exact HN.out y hy
            · simp at hy; subst hy; exact HLB.out.trans HRB.out.symm)
          have HBQ := Lib.hid (below_drewN HB.out nq)
          go_wp2_with fail
          go_roundg (gk - 1)
          case measure => have := HIK.out; have := HLT.out; omega
          case rel => exact ⟨i + 1, by have := HIK.out; have := HLT.out; omega, by go_num, HR, HBQ⟩
      · have HLB := Lib.hid (letB_far (M := M) (m := m) (c := ⟨(j : Int), ct, cd⟩) (x := x) (by omega))
        have h3 : decide (x.p < (m : Int)) = false := decide_eq_false hxp
        obtain ⟨xp, xt, xd⟩ := x
        simp only at c0 c1 c2 h3
        clear hxp
        have HR := Lib.hid (show ∀ y ∈ A.take (i + 1), letB M m ⟨(j : Int), ct, cd⟩ y = false from fun y hy => by
          rw [Batch.take_succ' HX.out] at hy
          rcases List.mem_append.1 hy with hy | hy
          · exact HN.out y hy
          · simp at hy; subst hy; exact HLB.out)
        go_wp2_with fail
        go_quiet (fail)
        have HBQ := Lib.hid (below_drewN HB.out nq)
        go_wp2_with fail
        go_roundg (gk - 1)
        case measure => have := HIK.out; have := HLT.out; omega
        case rel => exact ⟨i + 1, by have := HIK.out; have := HLT.out; omega, by go_num, HR, HBQ⟩
    · have h3 : decide ((i : Int) < (A.length : Int)) = false := decide_eq_false (by omega)
      have HR := Lib.hid (lets_no (M := M) (m := m) (A := A) (c := ⟨(j : Int), ct, cd⟩) (fun y hy => HN.out y (by rw [List.take_of_length_le (by omega)]; exact hy)))
      go_wp2_with fail
      go_ret
      exact ⟨by rw [HR.out]; rfl, HB1.out.trans (HB.out.mono (by have := HS1.out; omega))⟩
end Go.Proofs.YtlkljeedlkbkgaaGreatDoor.Cl
namespace Go.Proofs.YtlkljeedlkbkgaaGreatDoor.Cl
open Go.RowKit Gr
set_option linter.unusedVariables false
set_option maxRecDepth 1000000 in
set_option maxHeartbeats 8000000 in
theorem refall_any {w : World} {vh vb : Value} {H : List Ed} {B : List Batch.Ch} (hH : Sl w vh H) (hB : Batch.Sl w vb B) (hP : HoldP B) (hl : H.length ≤ 1000) (hlb : B.length ≤ 10000) :
    Calls Tryz.prog 43 #[.agg #[vh, vb]] w fun e w' => ∃ v, e = .returned v ∧ Batch.Own w' w.heap.size 67 v (allL H B) ∧ Below w.heap.size w w' := by
  obtain ⟨i0, hi, hz0, hz1, hz2⟩ := info_parts Batch.infoRf2
  have HHW := Lib.hid hH.wf
  have HBW := Lib.hid hB.wf
  have HPB := Lib.hid hP
  have HL := Lib.hid (And.intro hl hlb)
  have HSB := Lib.hid hB
  obtain ⟨ab, capb, e1, _⟩ := hB
  subst e1
  obtain ⟨ao, cap, rfl, hcell, hc1, hc2, _⟩ := hH
  have HC := Lib.hid hcell
  have hlen : H.length ≤ 9223372036854775807 := by omega
  obtain ⟨w0, hw0⟩ : ∃ w0, w0 = w.alloc (.cells #[.slice ao H.length cap, .slice ab B.length capb] 29) := ⟨_, rfl⟩
  have hb0 : Below w.heap.size w w0 := by rw [hw0]; exact (Below.refl _ _).alloc (Nat.le_refl _) _
  have hx0 : w0.heap[w.heap.size]? = some (.cells #[.slice ao H.length cap, .slice ab B.length capb] 29 (0, 0)) := by rw [hw0]; exact heap_alloc_new w _
  obtain ⟨x0, x1, _⟩ := pair_cells hx0
  have HX := Lib.hid hx0
  have HB0 := Lib.hid hb0
  clear hcell hc1 hc2 hb0 hx0
  go_enter Tryz.func43, Tryz.ntmps43
  go_upto_region 2 with fail
  rw [← hw0]
  clear hw0
  go_wp2_with fail
  clear x0 x1
  go_loopg [3, 4, 5, 6] H.length (fun k s3 s4 s5 s6 wr => ∃ (i : Nat) (ao3 : Option Addr) (n3 c3 : Nat), i + k = H.length ∧ s4 = .int .i64 i ∧ s3 = .slice ao3 n3 c3 ∧ Batch.Sl wr s3 (allL (H.take i) B) ∧ Below w0.heap.size w0 wr)
  case atStart => exact ⟨0, _, _, _, by omega, rfl, rfl, by rw [List.take_zero, all_nil HBW.out HPB.out.bag]; exact HSB.out.below HB0.out, Below.refl _ _⟩
  case round =>
    obtain ⟨i, ao3, n3, c3, hik, rfl, rfl, hs3, hbr⟩ := hrel
    have HIK := Lib.hid hik
    have HS3 := Lib.hid hs3
    have HBR := Lib.hid hbr
    obtain ⟨x0, x1, _⟩ := pair_cells ((hbr.block _ (Array.getElem?_eq_some_iff.1 HX.out).1).trans HX.out)
    have hi0 : (0 : Int) ≤ (i : Int) := Int.natCast_nonneg _
    clear hik hs3 hbr
    by_cases hlt : i < H.length
    · obtain ⟨x, hx, hxm⟩ := Gr.at_of hlt
      obtain ⟨b, off, rfl, hcc⟩ := HC.out.resolve_left (fun h => by rw [h.2] at hx; simp at hx)
      have HLT := Lib.hid hlt
      have hi1 : (i : Int) < (H.length : Int) := by omega
      have HST := Lib.hid (all_step HHW.out HBW.out HPB.out hx (by have := HL.out; omega))
      have HNW := Lib.hid (all_wf (H := H.take (i + 1)) (B := B) (fun y hy => HHW.out y (List.mem_of_mem_take hy)) HBW.out)
      have HCW := Lib.hid (hc_wf (HHW.out x hxm))
      have HLL := Lib.hid (show (allL (H.take i) B).length + [hc x].length ≤ 100000 by
        have h1 := all_length (H := H.take i) (B := B)
        have h2 : (H.take i).length ≤ H.length := by rw [List.length_take]; omega
        have h3 := HL.out
        simp only [List.length_cons, List.length_nil]
        omega)
      have HSS := Lib.hid (show ∀ W, Below wr.heap.size wr W → (W.cell? ⟨w.heap.size, 0, none⟩ = some (.slice (some ⟨b, off, none⟩) H.length cap) ∧ W.cell? ⟨b, off + i * 3 + 1, none⟩ = some (.int .i64 x.t) ∧ W.cell? ⟨b, off + i * 3 + 2, none⟩ = some (.int .u64 x.a)) from fun W h => by
        have hw : Below w.heap.size w W := (HB0.out.trans (HBR.out.mono HB0.out.size)).trans (h.mono (HB0.out.trans (HBR.out.mono HB0.out.size)).size)
        have q := hcc _ x hx
        obtain ⟨_, c1, c2⟩ := q.below hw q.lt
        obtain ⟨z0, _⟩ := pair_cells ((h.block _ (Array.getElem?_eq_some_iff.1 ((HBR.out.block _ (Array.getElem?_eq_some_iff.1 HX.out).1).trans HX.out)).1).trans ((HBR.out.block _ (Array.getElem?_eq_some_iff.1 HX.out).1).trans HX.out))
        exact ⟨z0, c1, c2⟩)
      obtain ⟨xf, xt, xa⟩ := x
      simp only at HSS
      clear hx hxm hcc hlt
      go_wp2_with fail
      refine wp_region_held_drew (S := (fun w' => w'.cell? ⟨w.heap.size, 0, none⟩ = some (.slice (some ⟨b, off, none⟩) H.length cap) ∧ w'.cell? ⟨b, off + i * 3 + 1, none⟩ = some (.int .i64 xt) ∧ w'.cell? ⟨b, off + i * 3 + 2, none⟩ = some (.int .u64 xa))) (by kernel_rfl) ?_ (fun hHeld => ?_)
      · ((try dsimp only); exact HSS.out _ ((Below.refl _ _).drew))
      refine wpAnyH_take (i := 0) (v := ?_) rfl (by kernel_rfl) (by kernel_rfl) (by kernel_rfl) (fun _ _ _ h => h) (Or.inl ⟨by rfl, ?_⟩) (by assumption) ?_
      rotate_left 1
      · (intro w hSw; (try dsimp only at hSw); first | (go_simp; done) | (go_simp; with_reducible rfl))
      try simp only [Act.put, List.setIfInBounds_toArray, List.set_cons_zero, List.set_cons_succ, List.getElem_toArray, List.getElem_cons_zero]
      refine wpAnyH_take (i := 1) (v := ?_) rfl (by kernel_rfl) (by kernel_rfl) (by kernel_rfl) (fun _ _ _ h => h) (Or.inl ⟨by rfl, ?_⟩) (by assumption) ?_
      rotate_left 1
      · (intro w hSw; (try dsimp only at hSw); first | (go_simp; done) | (go_simp; with_reducible rfl))
      try simp only [Act.put, List.setIfInBounds_toArray, List.set_cons_zero, List.set_cons_succ, List.getElem_toArray, List.getElem_cons_zero, List.getElem_cons_succ]
      refine wpAnyH_take (i := 2) (v := ?_) rfl (by kernel_rfl) (by kernel_rfl) (by kernel_rfl) (fun _ _ _ h => h) (Or.inl ⟨by rfl, ?_⟩) (by assumption) ?_
      rotate_left 1
      · (intro w hSw; (try dsimp only at hSw); first | (go_simp; done) | (go_simp; with_reducible rfl))
      try simp only [Act.put, List.setIfInBounds_toArray, List.set_cons_zero, List.set_cons_succ, List.getElem_toArray, List.getElem_cons_zero, List.getElem_cons_succ]
      refine wpAnyH_take (i := 3) (v := ?_) rfl (by kernel_rfl) (by kernel_rfl) (by kernel_rfl) (fun _ _ _ h => h) (Or.inl ⟨by rfl, ?_⟩) (by assumption) ?_
      rotate_left 1
      · (intro w hSw; (try dsimp only at hSw); first | (go_simp; done) | (go_simp; with_reducible rfl))
      try simp only [Act.put, List.setIfInBounds_toArray, List.set_cons_zero, List.set_cons_succ, List.getElem_toArray, List.getElem_cons_zero, List.getElem_cons_succ]
      refine wpAnyH_take (i := 4) (v := ?_) rfl (by kernel_rfl) (by kernel_rfl) (by kernel_rfl) (fun _ _ _ h => h) (Or.inl ⟨by rfl, ?_⟩) (by assumption) ?_
      rotate_left 1
      · (intro w hSw; (try dsimp only at hSw); first | (go_simp; done) | (go_simp; with_reducible rfl))
      try simp only [Act.put, List.setIfInBounds_toArray, List.set_cons_zero, List.set_cons_succ, List.getElem_toArray, List.getElem_cons_zero, List.getElem_cons_succ]
      refine wpAnyH_take (i := 5) (v := ?_) rfl (by kernel_rfl) (by kernel_rfl) (by kernel_rfl) (fun _ _ _ h => h) (Or.inl ⟨by rfl, ?_⟩) (by assumption) ?_
      rotate_left 1
      · (intro w hSw; (try dsimp only at hSw); first | (go_simp; done) | (go_simp; with_reducible rfl))
      try simp only [Act.put, List.setIfInBounds_toArray, List.set_cons_zero, List.set_cons_succ, List.getElem_toArray, List.getElem_cons_zero, List.getElem_cons_succ]
      refine wpAnyH_take (i := 6) (v := ?_) rfl (by kernel_rfl) (by kernel_rfl) (by kernel_rfl) (fun _ _ _ h => h) (Or.inl ⟨by rfl, ?_⟩) (by assumption) ?_
      rotate_left 1
      · (intro w hSw; (try dsimp only at hSw); first | (go_simp; done) | (go_simp; with_reducible rfl))
      try simp only [Act.put, List.setIfInBounds_toArray, List.set_cons_zero, List.set_cons_succ, List.getElem_toArray, List.getElem_cons_zero, List.getElem_cons_succ]
      refine wpAnyH_take (i := 7) (v := ?_) rfl (by kernel_rfl) (by kernel_rfl) (by kernel_rfl) (fun _ _ _ h => h) (Or.inl ⟨by rfl, ?_⟩) (by assumption) ?_
      rotate_left 1
      · (intro w hSw; (try dsimp only at hSw); first | (go_simp; done) | (go_simp; with_reducible rfl))
      try simp only [Act.put, List.setIfInBounds_toArray, List.set_cons_zero, List.set_cons_succ, List.getElem_toArray, List.getElem_cons_zero, List.getElem_cons_succ]
      refine wpAnyH_take (i := 8) (v := ?_) rfl (by kernel_rfl) (by kernel_rfl) (by kernel_rfl) (fun _ _ _ h => h) (Or.inl ⟨by rfl, ?_⟩) (by assumption) ?_
      rotate_left 1
      · (intro w hSw; (try dsimp only at hSw); first | (go_simp; done) | (go_simp; with_reducible rfl))
      try simp only [Act.put, List.setIfInBounds_toArray, List.set_cons_zero, List.set_cons_succ, List.getElem_toArray, List.getElem_cons_zero, List.getElem_cons_succ]
      refine wpAnyH_take (i := 9) (v := ?_) rfl (by kernel_rfl) (by kernel_rfl) (by kernel_rfl) (fun _ _ _ h => h) (Or.inl ⟨by rfl, ?_⟩) (by assumption) ?_
      rotate_left 1
      · (intro w hSw; (try dsimp only at hSw); first | (go_simp; done) | (go_simp; with_reducible rfl))
      try simp only [Act.put, List.setIfInBounds_toArray, List.set_cons_zero, List.set_cons_succ, List.getElem_toArray, List.getElem_cons_zero, List.getElem_cons_succ]
      refine wpAnyH_take (i := 10) (v := ?_) rfl (by kernel_rfl) (by kernel_rfl) (by kernel_rfl) (fun _ _ _ h => h) (Or.inl ⟨by rfl, ?_⟩) (by assumption) ?_
      rotate_left 1
      · (intro w hSw; (try dsimp only at hSw); first | (go_simp; done) | (go_simp; with_reducible rfl))
      try simp only [Act.put, List.setIfInBounds_toArray, List.set_cons_zero, List.set_cons_succ, List.getElem_toArray, List.getElem_cons_zero, List.getElem_cons_succ]
      refine wpAnyH_take (i := 11) (v := ?_) rfl (by kernel_rfl) (by kernel_rfl) (by kernel_rfl) (fun _ _ _ h => h) (Or.inl ⟨by rfl, ?_⟩) (by assumption) ?_
      rotate_left 1
      · (intro w hSw; (try dsimp only at hSw); first | (go_simp; done) | (go_simp; with_reducible rfl))
      try simp only [Act.put, List.setIfInBounds_toArray, List.set_cons_zero, List.set_cons_succ, List.getElem_toArray, List.getElem_cons_zero, List.getElem_cons_succ]
      refine wpAnyH_take (i := 12) (v := ?_) rfl (by kernel_rfl) (by kernel_rfl) (by kernel_rfl) (fun _ _ _ h => h) (Or.inl ⟨by rfl, ?_⟩) (by assumption) ?_
      rotate_left 1
      · (intro w hSw; (try dsimp only at hSw); first | (go_simp; done) | (go_simp; with_reducible rfl))
      try simp only [Act.put, List.setIfInBounds_toArray, List.set_cons_zero, List.set_cons_succ, List.getElem_toArray, List.getElem_cons_zero, List.getElem_cons_succ]
      refine wpAnyH_take (i := 13) (v := ?_) rfl (by kernel_rfl) (by kernel_rfl) (by kernel_rfl) (fun _ _ _ h => h) (Or.inl ⟨by rfl, ?_⟩) (by assumption) ?_
      rotate_left 1
      · (intro w hSw; (try dsimp only at hSw); first | (go_simp; done) | (go_simp; with_reducible rfl))
      try simp only [Act.put, List.setIfInBounds_toArray, List.set_cons_zero, List.set_cons_succ, List.getElem_toArray, List.getElem_cons_zero, List.getElem_cons_succ]
      refine wpAnyH_ready (rs := [14]) (by kernel_rfl) (by simp) ?_
      refine AllReadyH.cons rfl (fun K hK => ?_) AllReadyH.nil
      go_simp
      skip
      try go_wp2_with fail
      refine hK.out _ _ ?_ (fun hHeld => ?_)
      · ((try dsimp only); exact HSS.out _ (((Below.refl _ _).alloc (Nat.le_refl _) _).drew))
      clear hK K
      try simp only [Act.put, List.setIfInBounds_toArray, List.set_cons_zero, List.set_cons_succ, List.getElem_toArray, List.getElem_cons_zero, List.getElem_cons_succ]
      obtain ⟨wa, hwa⟩ : ∃ wa, wa = (wr.alloc (.cells #[.int .i64 xt, .int .u64 xa, .int .i64 1] 67)).drew := ⟨_, rfl⟩
      have hba : Below wr.heap.size wr wa := by rw [hwa]; exact ((Below.refl _ _).alloc (Nat.le_refl _) _).drew
      have HSL := Lib.hid (show Batch.Sl wa (.slice (some ⟨wr.heap.size, 0, none⟩) 1 1) [hc ⟨xf, xt, xa⟩] by rw [hwa]; exact Batch.Sl.below (ch_new wr xt xa 1 67 HCW.out) ((Below.refl _ _).drew))
      have HSO := Lib.hid (HS3.out.below hba)
      have HKA := Lib.hid hba
      clear hba
      rw [← hwa]
      clear hwa
      refine wpAnyH_ready (rs := [15]) (by kernel_rfl) (by simp) ?_
      refine AllReadyH.cons rfl (fun K hK => ?_) AllReadyH.nil
      go_simp
      go_at_call 84
      refine (Batch.refmerge_any HSO.out HSL.out HLL.out).mono ?_
      rintro e wk ⟨vk, rfl, hown, hcb⟩
      rw [HST.out.1]
      rw [HST.out.2] at hown
      have HNS := Lib.hid (hown.sl HNW.out)
      have HKB := Lib.hid (HKA.out.trans (hcb.mono HKA.out.size))
      clear hown hcb HSL HSO HKA
      try go_wp2_with fail
      refine hK.out _ _ ?_ (fun hHeld => ?_)
      · ((try dsimp only); exact HSS.out _ HKB.out)
      clear hK K
      try simp only [Act.put, List.setIfInBounds_toArray, List.set_cons_zero, List.set_cons_succ, List.getElem_toArray, List.getElem_cons_zero, List.getElem_cons_succ]
      refine wpAnyH_take (i := 16) (v := ?_) rfl (by kernel_rfl) (by kernel_rfl) (by kernel_rfl) (fun _ _ _ h => h) (Or.inl ⟨by rfl, ?_⟩) (by assumption) ?_
      rotate_left 1
      · (intro w hSw; (try dsimp only at hSw); first | (go_simp; done) | (go_simp; with_reducible rfl))
      try simp only [Act.put, List.setIfInBounds_toArray, List.set_cons_zero, List.set_cons_succ, List.getElem_toArray, List.getElem_cons_zero, List.getElem_cons_succ]
      refine wpAnyH_take (i := 17) (v := ?_) rfl (by kernel_rfl) (by kernel_rfl) (by kernel_rfl) (fun _ _ _ h => h) (Or.inl ⟨by rfl, ?_⟩) (by assumption) ?_
      rotate_left 1
      · (intro w hSw; (try dsimp only at hSw); first | (go_simp; done) | (go_simp; with_reducible rfl))
      try simp only [Act.put, List.setIfInBounds_toArray, List.set_cons_zero, List.set_cons_succ, List.getElem_toArray, List.getElem_cons_zero, List.getElem_cons_succ]
      refine wpAnyH_take (i := 18) (v := ?_) rfl (by kernel_rfl) (by kernel_rfl) (by kernel_rfl) (fun _ _ _ h => h) (Or.inl ⟨by rfl, ?_⟩) (by assumption) ?_
      rotate_left 1
      · (intro w hSw; (try dsimp only at hSw); first | (go_simp; done) | (go_simp; with_reducible rfl))
      try simp only [Act.put, List.setIfInBounds_toArray, List.set_cons_zero, List.set_cons_succ, List.getElem_toArray, List.getElem_cons_zero, List.getElem_cons_succ]
      refine wpAnyH_take (i := 19) (v := ?_) rfl (by kernel_rfl) (by kernel_rfl) (by kernel_rfl) (fun _ _ _ h => h) (Or.inl ⟨by rfl, ?_⟩) (by assumption) ?_
      rotate_left 1
      · (intro w hSw; (try dsimp only at hSw); first | (go_simp; done) | (go_simp; with_reducible rfl))
      try simp only [Act.put, List.setIfInBounds_toArray, List.set_cons_zero, List.set_cons_succ, List.getElem_toArray, List.getElem_cons_zero, List.getElem_cons_succ]
      refine wpAnyH_take (i := 20) (v := ?_) rfl (by kernel_rfl) (by kernel_rfl) (by kernel_rfl) (fun _ _ _ h => h) (Or.inl ⟨by rfl, ?_⟩) (by assumption) ?_
      rotate_left 1
      · (intro w hSw; (try dsimp only at hSw); first | (go_simp; done) | (go_simp; with_reducible rfl))
      try simp only [Act.put, List.setIfInBounds_toArray, List.set_cons_zero, List.set_cons_succ, List.getElem_toArray, List.getElem_cons_zero, List.getElem_cons_succ]
      refine wpAnyH_done (by kernel_rfl) ?_ _
      go_wp2_with fail
      obtain ⟨aN, cN, eN, _⟩ := HNS.out
      subst eN
      go_roundg (gk - 1)
      case measure => have := HIK.out; have := HLT.out; omega
      case rel => exact ⟨i + 1, _, _, _, by have := HIK.out; have := HLT.out; omega, by go_num, rfl, HNS.out, HBR.out.trans (HKB.out.mono HBR.out.size)⟩
    · have hd1 : decide ((i : Int) < (H.length : Int)) = false := decide_eq_false (by omega)
      have hd2 : decide (i < H.length) = false := decide_eq_false hlt
      have hti : H.take i = H := List.take_of_length_le (by omega)
      have HLA := Lib.hid (show (allL H B).length ≤ 11000 by have := all_length (H := H) (B := B); have := HL.out; omega)
      have HSA := Lib.hid (show Batch.Sl wr (.slice ao3 n3 c3) (allL H B) by have h := HS3.out; rw [hti] at h; exact h)
      clear HS3 hti
      obtain ⟨L, hL⟩ : ∃ L, L = allL H B := ⟨_, rfl⟩
      rw [← hL] at HSA HLA
      have HLQ := Lib.hid hL
      clear hL
      obtain ⟨ao4, c4, e4, _⟩ := HSA.out
      simp only [Value.slice.injEq] at e4
      obtain ⟨rfl, rfl, rfl⟩ := e4
      have hbw := Lib.hid (HB0.out.trans (HBR.out.mono HB0.out.size))
      have h0 := Batch.own0 wr 67
      have hB0 : Below wr.heap.size wr (wr.alloc (.cells #[] 67)) := (Below.refl _ _).alloc (Nat.le_refl _) _
      have HAr := Lib.hid (HSA.out.below hB0).src.2
      have HB9 := Lib.hid hB0
      have hs0 : wr.heap.size ≤ (wr.alloc (.cells #[] 67)).heap.size := hB0.size
      clear hB0
      go_wp2_with (
        (at_builtin
         refine Batch.wpList_append_any _ rfl (.tmp 36) (.tmp 37) _ _ rfl wr.heap.size 67 67 i0 (.agg #[.int .i64 0, .int .u64 0, .int .i64 0]) 3 24 Tryz.underlying27 Tryz.underlying27 hi hz0 hz1 hz2 rfl (by decide) _ 0 [] rfl h0 ao3 L.length c3 (Batch.cellsL L) rfl (Batch.cellsL_length _) HAr.out (Batch.cellsL_one _) (by have := HLA.out; unfold maxLen; omega) (by have := HLA.out; omega) hs0 ?_
         intro v1 w1 hown1 hg1 hat1
         have hbw1 : Below wr.heap.size wr w1 := HB9.out.grown hg1 hs0 (fun k e => (h0.lt k e).1)
         have HB1 := Lib.hid hbw1
         have hO1 : Batch.Own w1 wr.heap.size 67 v1 L := by
           unfold Batch.Own
           rw [Nat.zero_add, List.nil_append] at hown1
           exact hown1
         have HO1 := Lib.hid (hO1.mono hbw.out.size)
         clear hg1 hat1 hbw1 h0 hown1 hs0 hO1))
      go_ret
      exact ⟨v1, rfl, by rw [← HLQ.out]; exact HO1.out, hbw.out.trans (HB1.out.mono hbw.out.size)⟩
end Go.Proofs.YtlkljeedlkbkgaaGreatDoor.Cl
