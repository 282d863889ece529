/-
  YtlkljeedlkbkgaaGreatDoorClRefBack
  YtlkljeedlkbkgaaGreatDoorClRefAdv
-/
import Derived.Test.YtlkljeedlkbkgaaGreatDoorJoined24
import Derived.Test.YtlkljeedlkbkgaaGreatDoorJoined12
import Derived.Test.YtlkljeedlkbkgaaGreatDoorJoined25
import Derived.BigQuiet
import Derived.Test.YtlkljeedlkbkgaaGreatDoorClWith
import Derived.Test.YtlkljeedlkbkgaaGreatDoorJoined8
import Derived.Deep.RegionHeldLaw
namespace Go.Proofs.YtlkljeedlkbkgaaGreatDoor.Cl
open Go.RowKit Gr Go.Proofs.YtlkljeedlkbkgaaGreatDoor.Fault
set_option linter.unusedVariables false
set_option maxRecDepth 1000000 in
set_option maxHeartbeats 8000000 in
theorem refadvance_back {w : World} {vh vb : Value} {H : List Ed} {B : List Batch.Ch} {x : Ed} (id t : Int) (hH : Sl w vh H) (hB : Batch.Sl w vb B) (hr : Rise H) (hyes : hasB H id = true) (hx : H[idx H id]? = some x) (ht : t ≠ 18446744073709551615) (hlt : t < x.a) :
    Calls Tryz.prog 33 #[.agg #[vh, vb], .int .i64 id, .int .u64 t] w fun e w' => e = .returned (.tuple #[.agg #[vh, vb], .slice none 0 0, .slice none 0 0, .int .i64 6]) ∧ Below w.heap.size w w' := by
  have HH := Lib.hid hH
  have HXX := Lib.hid hx
  have HTT := Lib.hid (And.intro ht hlt)
  have HN := Lib.hid (refIdx_yes hyes)
  have HRR := Lib.hid hr
  obtain ⟨ah, ch, e1, _⟩ := hH
  obtain ⟨ab, cb, e2, _⟩ := hB
  subst e1 e2
  obtain ⟨w0, hw0⟩ : ∃ w0, w0 = (w.alloc (.cells #[.slice ah H.length ch, .slice ab B.length cb] 29)).alloc (.cells #[.slice none 0 0, .slice none 0 0] 29) := ⟨_, rfl⟩
  have hb0 : Below w.heap.size w w0 := by rw [hw0]; exact ((Below.refl _ _).alloc (Nat.le_refl _) _).alloc (by simp) _
  have hs0 : w0.heap.size = w.heap.size + 1 + 1 := by rw [hw0]; simp
  have hx0 : w0.heap[w.heap.size]? = some (.cells #[.slice ah H.length ch, .slice ab B.length cb] 29 (0, 0)) := by rw [hw0, heap_alloc_old _ _ (by simp)]; exact heap_alloc_new w _
  have hy0 : w0.heap[w.heap.size + 1]? = some (.cells #[.slice none 0 0, .slice none 0 0] 29 (0, 0)) := by
    rw [hw0]; have := heap_alloc_new (w.alloc (.cells #[.slice ah H.length ch, .slice ab B.length cb] 29)) (.cells #[.slice none 0 0, .slice none 0 0] 29); simpa using this
  have HX := Lib.hid hx0
  have HY := Lib.hid hy0
  have HB := Lib.hid hb0
  have HS := Lib.hid hs0
  obtain ⟨x0, x1, _⟩ := pair_cells hx0
  clear hb0 hx0 hy0 hs0 hyes hr hx ht hlt
  go_enter Tryz.func33, Tryz.ntmps33
  go_upto_region 1 with fail
  rw [← hw0]
  clear hw0
  go_wp2_with fail
  go_at_call 12
  refine (reffind_any id (HH.out.below HB.out) HRR.out).mono ?_
  rw [HN.out]
  rintro e w1 ⟨rfl, hb⟩
  replace HX := Lib.hid ((hb.block _ (by have := HS.out; omega)).trans HX.out)
  replace HY := Lib.hid ((hb.block _ (by have := HS.out; omega)).trans HY.out)
  replace HB := Lib.hid (HB.out.trans (hb.mono HB.out.size))
  clear hb x0 x1
  have hi0 : (0 : Int) ≤ (idx H id : Int) := Int.natCast_nonneg _
  obtain ⟨ix, hix⟩ : ∃ ix, ix = idx H id := ⟨_, rfl⟩
  rw [← hix] at HXX hi0
  rw [← hix]
  clear hix
  have hil := (List.getElem?_eq_some_iff.1 HXX.out).1
  have hi1 : (ix : Int) < (H.length : Int) := by omega
  obtain ⟨qo, qc, qe, qcell, _⟩ := HH.out.below HB.out
  simp only [Value.slice.injEq] at qe
  obtain ⟨rfl, _, rfl⟩ := qe
  obtain ⟨qb, qf, rfl, qcc⟩ := qcell.resolve_left (fun h => by rw [h.2] at hil; simp at hil)
  obtain ⟨c0, c1, c2⟩ := qcc _ x HXX.out
  have htn : (t == 18446744073709551615) = false := by rw [beq_eq_false_iff_ne]; exact HTT.out.1
  have htl : decide (t < x.a) = true := decide_eq_true HTT.out.2
  obtain ⟨xf, xt, xa⟩ := x
  simp only at c0 c1 c2 htl
  clear qcell qcc hil
  obtain ⟨x0, x1, _⟩ := pair_cells HX.out
  obtain ⟨w2, hw2⟩ : ∃ w2, w2 = w1.alloc (.cells #[.int .i64 xf, .int .i64 xt, .int .u64 xa] 50) := ⟨_, rfl⟩
  have hb : Below w1.heap.size w1 w2 := by rw [hw2]; exact (Below.refl _ _).alloc (Nat.le_refl _) _
  have hm := trip_cells (show w2.heap[w1.heap.size]? = some (.cells #[.int .i64 xf, .int .i64 xt, .int .u64 xa] 50 (0, 0)) by rw [hw2]; exact heap_alloc_new w1 _)
  have HM := Lib.hid hm
  clear hm
  go_upto_region 8 with fail
  rw [← hw2]
  clear hw2 x0 x1 c0 c1 c2
  replace HX := Lib.hid ((hb.block _ (Array.getElem?_eq_some_iff.1 HX.out).1).trans HX.out)
  replace HY := Lib.hid ((hb.block _ (Array.getElem?_eq_some_iff.1 HY.out).1).trans HY.out)
  replace HB := Lib.hid (HB.out.trans (hb.mono HB.out.size))
  have HR := Lib.hid (pair_cells (heap_setCell_same _ (w.heap.size + 1) 1 _ _ (.slice ab B.length cb) (heap_setCell_same w2 (w.heap.size + 1) 0 _ _ (.slice (some ⟨qb, qf, none⟩) H.length ch) HY.out)))
  have HBE := Lib.hid ((HB.out.setCell (p := ⟨w.heap.size + 1, 0, none⟩) (Nat.le_succ _) (.slice (some ⟨qb, qf, none⟩) H.length ch)).setCell (p := ⟨w.heap.size + 1, 1, none⟩) (Nat.le_succ _) (.slice ab B.length cb))
  clear hb
  obtain ⟨m0, m1, m2, _⟩ := HM.out
  obtain ⟨x0, x1, _⟩ := pair_cells HX.out
  obtain ⟨y0, y1, yf⟩ := pair_cells HY.out
  have yf0 := yf 0
  have yf1 := yf 1
  clear yf
  go_wp2_with fail
  obtain ⟨r0, r1, _⟩ := HR.out
  refine bodyPost_ret (v := .tuple #[.agg #[.slice (some ⟨qb, qf, none⟩) H.length ch, .slice ab B.length cb], .slice none 0 0, .slice none 0 0, .int .i64 6]) (by simp [results, Tryz.results33, go_sem, r0, r1]) rfl ⟨rfl, HBE.out⟩
end Go.Proofs.YtlkljeedlkbkgaaGreatDoor.Cl
namespace Go.Proofs.YtlkljeedlkbkgaaGreatDoor.Cl
open Go.RowKit Gr Go.Proofs.YtlkljeedlkbkgaaGreatDoor.Fault
set_option linter.unusedVariables false
set_option linter.unusedSimpArgs false
theorem six_cells {w : World} {G : Nat} {a b c d e f : Value} {T : TypeId} (h : w.heap[G]? = some (.cells #[a, b, c, d, e, f] T (0, 0))) : w.cell? ⟨G, 0, none⟩ = some a ∧ w.cell? ⟨G, 1, none⟩ = some b ∧ w.cell? ⟨G, 2, none⟩ = some c ∧ w.cell? ⟨G, 3, none⟩ = some d ∧ w.cell? ⟨G, 4, none⟩ = some e ∧ w.cell? ⟨G, 5, none⟩ = some f := by
  refine ⟨?_, ?_, ?_, ?_, ?_, ?_⟩ <;> simp [World.cell?, h]
theorem ch_two (w : World) (p t d p' t' d' : Int) (T : TypeId) (hw : (⟨p, t, d⟩ : Batch.Ch).Wf) (hw' : (⟨p', t', d'⟩ : Batch.Ch).Wf) : Batch.Sl (w.alloc (.cells #[.int .i64 p, .int .u64 t, .int .i64 d, .int .i64 p', .int .u64 t', .int .i64 d'] T)) (.slice (some ⟨w.heap.size, 0, none⟩) 2 2) [⟨p, t, d⟩, ⟨p', t', d'⟩] := by
  have h := heap_alloc_new w (.cells #[.int .i64 p, .int .u64 t, .int .i64 d, .int .i64 p', .int .u64 t', .int .i64 d'] T)
  refine ⟨_, _, rfl, .inr ⟨w.heap.size, 0, rfl, fun i x hx => ?_⟩, Nat.le_refl _, by decide, fun x hx => by
    simp at hx
    rcases hx with rfl | rfl
    · exact hw
    · exact hw'⟩
  match i with
  | 0 =>
    simp at hx
    subst hx
    obtain ⟨c0, c1, c2, _⟩ := six_cells h
    exact ⟨c0, c1, c2⟩
  | 1 =>
    simp at hx
    subst hx
    obtain ⟨_, _, _, c0, c1, c2⟩ := six_cells h
    exact ⟨c0, c1, c2⟩
  | k + 2 => simp at hx
set_option maxRecDepth 1000000 in
set_option maxHeartbeats 8000000 in
theorem refadvance_ok {w : World} {vh vb : Value} {H : List Ed} {B : List Batch.Ch} {x : Ed} (id t : Int) (hH : Sl w vh H) (hB : Batch.Sl w vb B) (hr : Rise H) (hl : H.length ≤ 10000) (hyes : hasB H id = true) (hx : H[idx H id]? = some x) (ht : t ≠ 18446744073709551615) (hlt : ¬ t < x.a) (ht0 : 0 ≤ t) (ht1 : t ≤ 18446744073709551615) :
    Calls Tryz.prog 33 #[.agg #[vh, vb], .int .i64 id, .int .u64 t] w fun e w' => ∃ vh' v, e = .returned (.tuple #[.agg #[vh', vb], v, .slice none 0 0, .int .i64 0]) ∧ Own w' w.heap.size 50 vh' (withL H ⟨x.f, x.t, t⟩) ∧ Batch.Own w' w.heap.size 67 v (Batch.packR [⟨x.t, x.a, -1⟩, ⟨x.t, t, 1⟩]) ∧ Below w.heap.size w w' := by
  have HH := Lib.hid hH
  have HXX := Lib.hid hx
  have HTT := Lib.hid (And.intro ht hlt)
  have HT2 := Lib.hid (And.intro ht0 ht1)
  have HN := Lib.hid (refIdx_yes hyes)
  have HRR := Lib.hid hr
  have HXW := Lib.hid (hH.wf x (List.mem_of_getElem? hx))
  obtain ⟨L, hL⟩ : ∃ L, L = withL H ⟨x.f, x.t, t⟩ := ⟨_, rfl⟩
  have HWI := Lib.hid (fun W (hW : Below w.heap.size w W) => refwith_any (h := ⟨x.f, x.t, t⟩) (hH.below hW) hr hl)
  rw [← hL] at HWI
  rw [← hL]
  clear hL
  have HPK := Lib.hid (fun W v (hW : Batch.Rd W v [⟨x.t, x.a, -1⟩, ⟨x.t, t, 1⟩]) => Batch.refpack_any hW)
  generalize Batch.packR [⟨x.t, x.a, -1⟩, ⟨x.t, t, 1⟩] = PR at HPK ⊢
  generalize Batch.packE [⟨x.t, x.a, -1⟩, ⟨x.t, t, 1⟩] = PE at HPK
  obtain ⟨ah, ch, e1, _⟩ := hH
  obtain ⟨ab, cb, e2, _⟩ := hB
  subst e1 e2
  obtain ⟨w0, hw0⟩ : ∃ w0, w0 = (w.alloc (.cells #[.slice ah H.length ch, .slice ab B.length cb] 29)).alloc (.cells #[.slice none 0 0, .slice none 0 0] 29) := ⟨_, rfl⟩
  have hb0 : Below w.heap.size w w0 := by rw [hw0]; exact ((Below.refl _ _).alloc (Nat.le_refl _) _).alloc (by simp) _
  have hs0 : w0.heap.size = w.heap.size + 1 + 1 := by rw [hw0]; simp
  have hx0 : w0.heap[w.heap.size]? = some (.cells #[.slice ah H.length ch, .slice ab B.length cb] 29 (0, 0)) := by rw [hw0, heap_alloc_old _ _ (by simp)]; exact heap_alloc_new w _
  have hy0 : w0.heap[w.heap.size + 1]? = some (.cells #[.slice none 0 0, .slice none 0 0] 29 (0, 0)) := by
    rw [hw0]; have := heap_alloc_new (w.alloc (.cells #[.slice ah H.length ch, .slice ab B.length cb] 29)) (.cells #[.slice none 0 0, .slice none 0 0] 29); simpa using this
  have HX := Lib.hid hx0
  have HY := Lib.hid hy0
  have HB := Lib.hid hb0
  have HS := Lib.hid hs0
  obtain ⟨x0, x1, _⟩ := pair_cells hx0
  clear hb0 hx0 hy0 hs0 hyes hr hx ht hlt ht0 ht1 hl
  go_enter Tryz.func33, Tryz.ntmps33
  go_upto_region 1 with fail
  rw [← hw0]
  clear hw0
  go_wp2_with fail
  go_at_call 12
  refine (reffind_any id (HH.out.below HB.out) HRR.out).mono ?_
  rw [HN.out]
  rintro e w1 ⟨rfl, hb⟩
  replace HX := Lib.hid ((hb.block _ (by have := HS.out; omega)).trans HX.out)
  replace HY := Lib.hid ((hb.block _ (by have := HS.out; omega)).trans HY.out)
  replace HB := Lib.hid (HB.out.trans (hb.mono HB.out.size))
  clear hb x0 x1
  have hi0 : (0 : Int) ≤ (idx H id : Int) := Int.natCast_nonneg _
  obtain ⟨ix, hix⟩ : ∃ ix, ix = idx H id := ⟨_, rfl⟩
  rw [← hix] at HXX hi0
  rw [← hix]
  have HIX := Lib.hid hix
  clear hix
  have hil := (List.getElem?_eq_some_iff.1 HXX.out).1
  have hi1 : (ix : Int) < (H.length : Int) := by omega
  obtain ⟨qo, qc, qe, qcell, _⟩ := HH.out.below HB.out
  simp only [Value.slice.injEq] at qe
  obtain ⟨rfl, _, rfl⟩ := qe
  obtain ⟨qb, qf, rfl, qcc⟩ := qcell.resolve_left (fun h => by rw [h.2] at hil; simp at hil)
  obtain ⟨c0, c1, c2⟩ := qcc _ x HXX.out
  have htn : (t == 18446744073709551615) = false := by rw [beq_eq_false_iff_ne]; exact HTT.out.1
  have htl : decide (t < x.a) = false := decide_eq_false (by have := HTT.out.2; omega)
  obtain ⟨xf, xt, xa⟩ := x
  simp only at c0 c1 c2 htl
  clear qcell qcc hil
  obtain ⟨x0, x1, _⟩ := pair_cells HX.out
  obtain ⟨M, hM⟩ : ∃ M, M = w1.heap.size := ⟨_, rfl⟩
  obtain ⟨w2, hw2⟩ : ∃ w2, w2 = w1.alloc (.cells #[.int .i64 xf, .int .i64 xt, .int .u64 xa] 50) := ⟨_, rfl⟩
  have hb : Below w1.heap.size w1 w2 := by rw [hw2]; exact (Below.refl _ _).alloc (Nat.le_refl _) _
  have HM := Lib.hid (show w2.heap[M]? = some (.cells #[.int .i64 xf, .int .i64 xt, .int .u64 xa] 50 (0, 0)) by rw [hw2, hM]; exact heap_alloc_new w1 _)
  have HMS := Lib.hid (show w.heap.size + 1 < M by rw [hM]; exact (Array.getElem?_eq_some_iff.1 HY.out).1)
  go_upto_region 8 with fail
  rw [← hw2, ← hM]
  clear hw2 hM x0 x1 c0 c1 c2
  replace HX := Lib.hid ((hb.block _ (Array.getElem?_eq_some_iff.1 HX.out).1).trans HX.out)
  replace HY := Lib.hid ((hb.block _ (Array.getElem?_eq_some_iff.1 HY.out).1).trans HY.out)
  replace HB := Lib.hid (HB.out.trans (hb.mono HB.out.size))
  clear hb
  obtain ⟨w3, hw3⟩ : ∃ w3, w3 = w2.alloc (.cells #[.int .i64 xt, .int .u64 xa, .int .i64 (-1), .int .i64 xt, .int .u64 t, .int .i64 1] 67) := ⟨_, rfl⟩
  have hb : Below w2.heap.size w2 w3 := by rw [hw3]; exact (Below.refl _ _).alloc (Nat.le_refl _) _
  have HM23 := Lib.hid (show M < w3.heap.size from Nat.lt_of_lt_of_le (Array.getElem?_eq_some_iff.1 HM.out).1 hb.size)
  have HP2 := Lib.hid (show Batch.Sl w3 (.slice (some ⟨w2.heap.size, 0, none⟩) 2 2) [⟨xt, xa, -1⟩, ⟨xt, t, 1⟩] by
    rw [hw3]; exact ch_two w2 _ _ _ _ _ _ _ ⟨HXW.out.t0, HXW.out.t1, HXW.out.a0, HXW.out.a1, by dsimp only; decide, by dsimp only; decide⟩ ⟨HXW.out.t0, HXW.out.t1, HT2.out.1, HT2.out.2, by dsimp only; decide, by dsimp only; decide⟩)
  obtain ⟨m0, m1, m2, _⟩ := trip_cells HM.out
  go_wp2_with fail
  go_at_call 75
  rw [← hw3]
  clear hw3
  refine (HPK.out _ _ HP2.out.rd).mono ?_
  rintro e w4 ⟨vp, rfl, hop, hb2⟩
  obtain ⟨ap, cp, rfl⟩ := formB hop
  replace hb := hb.trans (hb2.mono hb.size)
  have HM3 := Lib.hid (Array.getElem?_eq_some_iff.1 HM.out).1
  replace HX := Lib.hid ((hb.block _ (Array.getElem?_eq_some_iff.1 HX.out).1).trans HX.out)
  replace HY := Lib.hid ((hb.block _ (Array.getElem?_eq_some_iff.1 HY.out).1).trans HY.out)
  replace HM := Lib.hid ((hb.block _ HM3.out).trans HM.out)
  replace HB := Lib.hid (HB.out.trans (hb.mono HB.out.size))
  obtain ⟨w5, hw5⟩ : ∃ w5, w5 = w4.setCell ⟨M, 2, none⟩ (.int .u64 t) := ⟨_, rfl⟩
  have hb5 : Below M w4 w5 := by rw [hw5]; exact (Below.refl _ _).setCell (p := ⟨M, 2, none⟩) (Nat.le_refl _) _
  have hs25 := hb2.size
  have HOP := Lib.hid (show Batch.Own w5 w3.heap.size 67 (.slice ap PR.length cp) PR by
    have h1 := World.ownsRow.lt hop
    rw [hw5]; exact ownsRow_setCell_other hop (fun e => by have h := (h1 _ e).1; have := HM23.out; dsimp only at h; omega) _)
  have HM5 := Lib.hid (show w5.heap[M]? = some (.cells #[.int .i64 xf, .int .i64 xt, .int .u64 t] 50 (0, 0)) by rw [hw5]; exact heap_setCell_same w4 M 2 _ _ _ HM.out)
  replace HX := Lib.hid ((hb5.block _ (by have := HMS.out; omega)).trans HX.out)
  replace HY := Lib.hid ((hb5.block _ (by have := HMS.out; omega)).trans HY.out)
  replace HB := Lib.hid (HB.out.trans (hb5.mono (by have := HMS.out; omega)))
  clear hb hb2 hb5 hop hs25 m0 m1 m2
  obtain ⟨m0, m1, m2, mf⟩ := trip_cells HM.out
  have mf2 := mf 2
  clear mf
  go_upto_region 12 with fail
  rw [← hw5]
  clear hw5 m0 m1 m2 mf2 HM
  obtain ⟨m0, m1, m2, _⟩ := trip_cells HM5.out
  obtain ⟨x0, x1, _⟩ := pair_cells HX.out
  have hms := HMS.out
  have hlM := (Array.getElem?_eq_some_iff.1 HM5.out).1
  have hn1 : ¬ M = w.heap.size + 1 := by omega
  have hn3 : ¬ w.heap.size + 1 = M := by omega
  have hn2 : ¬ w.heap.size = w.heap.size + 1 := by omega
  have hlw1 : w.heap.size + 1 < w5.heap.size := by omega
  go_region_held3 (fun w' => w'.cell? ⟨w.heap.size, 0, none⟩ = some (.slice (some ⟨qb, qf, none⟩) H.length ch) ∧ w'.cell? ⟨w.heap.size, 1, none⟩ = some (.slice ab B.length cb) ∧ w'.cell? ⟨M, 0, none⟩ = some (.int .i64 xf) ∧ w'.cell? ⟨M, 1, none⟩ = some (.int .i64 xt) ∧ w'.cell? ⟨M, 2, none⟩ = some (.int .u64 t))
    (first
      | go_keep
      | (go_split_ands
         refine ⟨?_, ?_, ?_, ?_, ?_⟩ <;> (rw [hcb.cell (by simp; omega)]; assumption)))
    ((go_at_call 22; refine (HWI.out _ (below_drewN HB.out 1)).mono ?_; rintro e w6 ⟨vw, rfl, how, hcb⟩; obtain ⟨aw, cw, rfl⟩ := formH how; obtain ⟨y0, y1, yf⟩ := pair_cells ((hcb.block (w.heap.size + 1) (by simp; omega)).trans HY.out); have yf0 := yf 0; have yf1 := yf 1; clear yf))
  go_wp2_with fail
  have hb56 : Below w5.heap.size w5 w6 := (below_drewN (Below.refl w5.heap.size w5) 1).trans hcb
  obtain ⟨r0, r1, _⟩ := pair_cells (heap_setCell_same _ (w.heap.size + 1) 1 _ _ (.slice ab B.length cb) (heap_setCell_same w6 (w.heap.size + 1) 0 _ _ (.slice aw L.length cw) ((hb56.block _ hlw1).trans HY.out)))
  refine bodyPost_ret (v := .tuple #[.agg #[.slice aw L.length cw, .slice ab B.length cb], .slice ap PR.length cp, .slice none 0 0, .int .i64 0]) (by simp [results, Tryz.results33, go_sem, r0, r1]) rfl ⟨_, _, rfl, ?_, ?_, ?_⟩
  · have h2 := World.ownsRow.lt how
    exact Own.mono (ownsRow_setCell_other (ownsRow_setCell_other how (fun e => by have h := (h2 _ e).1; simp at h; omega) _) (fun e => by have h := (h2 _ e).1; simp at h; omega) _) (by simp; omega)
  · have h1 := HOP.out.below hb56
    have h2 := World.ownsRow.lt h1
    have h3 := HM23.out
    exact Batch.Own.mono (ownsRow_setCell_other (ownsRow_setCell_other h1 (fun e => by have h := (h2 _ e).1; dsimp only at h; omega) _) (fun e => by have h := (h2 _ e).1; dsimp only at h; omega) _) (by omega)
  · exact ((HB.out.trans (hb56.mono HB.out.size)).setCell (p := ⟨w.heap.size + 1, 0, none⟩) (Nat.le_succ _) _).setCell (p := ⟨w.heap.size + 1, 1, none⟩) (Nat.le_succ _) _
end Go.Proofs.YtlkljeedlkbkgaaGreatDoor.Cl
