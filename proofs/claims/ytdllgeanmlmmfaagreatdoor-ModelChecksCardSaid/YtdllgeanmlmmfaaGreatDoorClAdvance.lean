/-
  PACKAGE claim: Advance.
-/
import Derived.Test.YtdllgeanmlmmfaaGreatDoorJoined12
import Derived.Test.YtdllgeanmlmmfaaGreatDoorJoined26
import Derived.Deep.Cut
namespace Go.Proofs.YtdllgeanmlmmfaaGreatDoor.Cl
open Go.RowKit Gr
set_option linter.unusedVariables false

theorem cellsH_setA {H : List Ed} {i : Nat} {x : Ed} (h : H[i]? = some x) (a : Int) : Gr.cellsL (H.set i ⟨x.f, x.t, a⟩) = (Gr.cellsL H).set (i * 3 + 2) (.int .u64 a) := by
  have e : ∀ (z : Ed) q, Gr.cellsL (z :: q) = .int .i64 z.f :: .int .i64 z.t :: .int .u64 z.a :: Gr.cellsL q := fun _ _ => rfl
  induction H generalizing i with
  | nil => simp at h
  | cons z r ih =>
    cases i with
    | zero => simp at h; subst h; rfl
    | succ k =>
      rw [List.set_cons_succ, e, e, ih (by simpa using h), show (k + 1) * 3 + 2 = k * 3 + 2 + 1 + 1 + 1 by omega]
      rfl
theorem own_setA {w : World} {base g n cap : Nat} {T : TypeId} {H : List Ed} (h : Own w base T (.slice (some ⟨g, 0, none⟩) n cap) H) {i : Nat} {x : Ed} (hx : H[i]? = some x) (a : Int) :
    Own (w.setCell ⟨g, i * 3 + 2, none⟩ (.int .u64 a)) base T (.slice (some ⟨g, 0, none⟩) n cap) (H.set i ⟨x.f, x.t, a⟩) := by
  have hl := (List.getElem?_eq_some_iff.1 hx).1
  unfold Own
  rw [cellsH_setA hx, List.length_set]
  exact Rw.row_set h (by omega) _
/-- An Own, as it reads. -/
structure OwnAt (w : World) (vh vb : Value) (H : List Ed) (B : List Batch.Ch) : Prop where
  hands : Sl w vh H
  held : Batch.Sl w vb B
theorem OwnAt.below {w w' : World} {vh vb : Value} {H : List Ed} {B : List Batch.Ch} (h : OwnAt w vh vb H B) (hb : Below w.heap.size w w') : OwnAt w' vh vb H B := ⟨h.hands.below hb, h.held.below hb⟩
/-- The start of a call that answers an Own: its argument's box, its answer's. -/
theorem start2 (w : World) (vh vb : Value) {w0 : World} (hw0 : w0 = (w.alloc (.cells #[vh, vb] 60)).alloc (.cells #[.slice none 0 0, .slice none 0 0] 60)) :
    Below w.heap.size w w0 ∧ w0.heap.size = w.heap.size + 1 + 1 ∧ w0.heap[w.heap.size]? = some (.cells #[vh, vb] 60 (0, 0)) ∧ w0.heap[w.heap.size + 1]? = some (.cells #[.slice none 0 0, .slice none 0 0] 60 (0, 0)) := by
  refine ⟨by rw [hw0]; exact ((Below.refl _ _).alloc (Nat.le_refl _) _).alloc (by simp) _, by rw [hw0]; simp, ?_, ?_⟩
  · rw [hw0, heap_alloc_old _ _ (by simp)]; exact heap_alloc_new w _
  · rw [hw0]; have := heap_alloc_new (w.alloc (.cells #[vh, vb] 60)) (.cells #[.slice none 0 0, .slice none 0 0] 60); simpa using this

/-- An error at one place, where the call's answer is laid behind it. -/
theorem err_set {w : World} {ve : Value} {s : ByteArray} {n k : Int} {g : Nat} {ao : Option Addr} {len cap : Nat} (h : ErrIs w ve ([(s, n)], k)) (hg : w.cell? ⟨g, 0, none⟩ = some (.slice ao len cap)) (u u' : Value) : ErrIs ((w.setCell ⟨g, 0, none⟩ u).setCell ⟨g, 1, none⟩ u') ve ([(s, n)], k) := by
  rcases h with h | ⟨h1, h2, h3⟩
  · exact absurd h.2.1 (by simp)
  · obtain ⟨blk, v, rfl, c0, c1, c2, hv⟩ := h2
    have hne : blk ≠ g := fun e => by
      subst e
      have hv' : v = Fault.errnoV k := hv
      rw [hv'] at c0
      rw [c0] at hg
      simp [Fault.errnoV] at hg
    have hk : ∀ o, ((w.setCell ⟨g, 0, none⟩ u).setCell ⟨g, 1, none⟩ u').cell? ⟨blk, o, none⟩ = w.cell? ⟨blk, o, none⟩ := fun o => by
      have hb : ((w.setCell ⟨g, 0, none⟩ u).setCell ⟨g, 1, none⟩ u').heap[blk]? = w.heap[blk]? := by
        rw [Go.Deep.blk_setCell_other _ _ _ _ hne, Go.Deep.blk_setCell_other _ _ _ _ hne]
      unfold World.cell?
      rw [hb]
    exact .inr ⟨h1, ⟨blk, v, rfl, (hk _).trans c0, (hk _).trans c1, (hk _).trans c2, hv⟩, h3⟩
set_option maxRecDepth 1000000 in
set_option maxHeartbeats 8000000 in
theorem advance_stale {w : World} {vh vb : Value} {H : List Ed} {B : List Batch.Ch} (h t : Int) (ho : OwnAt w vh vb H B) (hr : Rise H) (hl : H.length ≤ 100000) (hh : hasB H h = false) :
    Calls Tryz.prog 73 #[.agg #[vh, vb], .int .i64 h, .int .u64 t] w fun e w' => ∃ ve, e = .returned (.tuple #[.agg #[vh, vb], .slice none 0 0, ve]) ∧ ErrIs w' ve ([(handleS, h)], 7) ∧ Below w.heap.size w w' := by
  have HP := Lib.hid (fun W hW => place_any (w := W) (v := vh) (vb := vb) h hW hr hl)
  have HH := Lib.hid hh
  have HOW := Lib.hid ho
  obtain ⟨ao, cap, rfl, _⟩ := ho.hands
  obtain ⟨ab, capb, rfl, _⟩ := ho.held
  obtain ⟨w0, hw0⟩ : ∃ w0, w0 = (w.alloc (.cells #[.slice ao H.length cap, .slice ab B.length capb] 60)).alloc (.cells #[.slice none 0 0, .slice none 0 0] 60) := ⟨_, rfl⟩
  obtain ⟨hb0, hs0, hx0, hy0⟩ := start2 w _ _ hw0
  have HX := Lib.hid hx0
  have HY := Lib.hid hy0
  have HB0 := Lib.hid hb0
  have HS0 := Lib.hid hs0
  clear hb0 hs0 hx0 hy0 hr hh ho
  go_enter Tryz.func73, Tryz.ntmps73
  go_wp2_with fail
  go_at_call 100
  rw [← hw0]
  clear hw0
  refine (HP.out w0 (HOW.out.hands.below HB0.out)).mono ?_
  rw [HH.out]
  rintro e w1 ⟨rfl, hb⟩
  have hlt0 : w.heap.size < w0.heap.size := by have := HS0.out; omega
  have hlt1 : w.heap.size + 1 < w0.heap.size := by have := HS0.out; omega
  have HX1 := Lib.hid ((hb.block _ hlt0).trans HX.out)
  have HY1 := Lib.hid ((hb.block _ hlt1).trans HY.out)
  have HB1 := Lib.hid (HB0.out.trans (hb.mono HB0.out.size))
  have hs1 := hb.size
  have hlx : w.heap.size < w1.heap.size := by omega
  have hly : w.heap.size + 1 < w1.heap.size := by omega
  obtain ⟨x0, x1, _⟩ := pair_cells HX1.out
  clear hb hlt0 hlt1 hs1
  go_upto_region 3 with fail
  go_region_held3 (fun w' => w'.cell? ⟨w.heap.size, 0, none⟩ = some (.slice ao H.length cap) ∧ w'.cell? ⟨w.heap.size, 1, none⟩ = some (.slice ab B.length capb))
    (first
      | go_keep
      | (go_split_ands
         refine ⟨?_, ?_⟩ <;> (rw [hcb.cell (by simp; omega)]; assumption)))
    ((go_at_call 101; refine (stale_any h _).mono ?_; rintro e w2 ⟨ve, rfl, hve, hcb⟩; obtain ⟨y0, y1, yf⟩ := pair_cells ((hcb.block (w.heap.size + 1) (by simp; omega)).trans HY1.out); have yf0 := yf 0; have yf1 := yf 1; clear yf))
  go_wp2_with fail
  have hb12 : Below w1.heap.size w1 w2 := (below_drewN (Below.refl w1.heap.size w1) 1).trans hcb
  obtain ⟨r0, r1, _⟩ := pair_cells (heap_setCell_same _ (w.heap.size + 1) 1 _ _ (.slice ab B.length capb) (heap_setCell_same w2 (w.heap.size + 1) 0 _ _ (.slice ao H.length cap) ((hb12.block _ hly).trans HY1.out)))
  refine bodyPost_ret (v := .tuple #[.agg #[.slice ao H.length cap, .slice ab B.length capb], .slice none 0 0, ve]) (by simp [results, Tryz.results73, go_sem, r0, r1]) rfl ⟨_, rfl, ?_, ?_⟩
  · exact err_set hve y0 _ _
  · exact ((HB1.out.trans (hb12.mono HB1.out.size)).setCell (p := ⟨w.heap.size + 1, 0, none⟩) (Nat.le_succ _) _).setCell (p := ⟨w.heap.size + 1, 1, none⟩) (Nat.le_succ _) _
set_option maxRecDepth 1000000 in
set_option maxHeartbeats 8000000 in
theorem advance_arg {w : World} {vh vb : Value} {H : List Ed} {B : List Batch.Ch} {x : Ed} (h t : Int) (ho : OwnAt w vh vb H B) (hr : Rise H) (hl : H.length ≤ 100000) (hlb : B.length ≤ 100000) (hh : hasB H h = true) (hx : H[idx H h]? = some x) (ht : t = 18446744073709551615) :
    Calls Tryz.prog 73 #[.agg #[vh, vb], .int .i64 h, .int .u64 t] w fun e w' => e = .returned (.tuple #[.agg #[vh, vb], .slice none 0 0, Fault.errnoV 1]) ∧ Below w.heap.size w w' := by
  have HP := Lib.hid (fun W hW => place_any (w := W) (v := vh) (vb := vb) h hW hr hl)
  have HH := Lib.hid hh
  have HOW := Lib.hid ho
  have HXM := Lib.hid hx
  have hxw := ho.hands.wf x (List.mem_of_getElem? hx)
  have HXW := Lib.hid hxw
  have hil := (List.getElem?_eq_some_iff.1 hx).1
  obtain ⟨i, hi⟩ : ∃ i, i = idx H h := ⟨_, rfl⟩
  rw [← hi] at hil HXM
  have HI := Lib.hid hi
  have hi0 : (0 : Int) ≤ (i : Int) := Int.natCast_nonneg _
  have hi1 : (i : Int) < (H.length : Int) := by omega
  obtain ⟨ao, cap, rfl, hcell, _⟩ := ho.hands
  obtain ⟨ab, capb, rfl, _⟩ := ho.held
  obtain ⟨b, off, rfl, hcc⟩ := hcell.resolve_left (fun h => by rw [h.2] at hx; simp at hx)
  have q := hcc _ x HXM.out
  have hbl := q.lt
  have HQ := Lib.hid q
  obtain ⟨w0, hw0⟩ : ∃ w0, w0 = (w.alloc (.cells #[.slice (some ⟨b, off, none⟩) H.length cap, .slice ab B.length capb] 60)).alloc (.cells #[.slice none 0 0, .slice none 0 0] 60) := ⟨_, rfl⟩
  obtain ⟨hb0, hs0, hx0, hy0⟩ := start2 w _ _ hw0
  have HX := Lib.hid hx0
  have HY := Lib.hid hy0
  have HB0 := Lib.hid hb0
  have HS0 := Lib.hid hs0
  obtain ⟨xf, xt, xa⟩ := x
  clear hb0 hs0 hx0 hy0 hr hh ho hx hcell hcc q hi hxw
  have htt : (t == 18446744073709551615) = true := by rw [ht]; rfl
  clear ht
  go_enter Tryz.func73, Tryz.ntmps73
  go_wp2_with fail
  go_at_call 100
  rw [← hw0]
  clear hw0
  refine (HP.out w0 (HOW.out.hands.below HB0.out)).mono ?_
  rw [← HI.out, HH.out]
  rintro e w1 ⟨rfl, hb⟩
  have hlt0 : w.heap.size < w0.heap.size := by have := HS0.out; omega
  have hlt1 : w.heap.size + 1 < w0.heap.size := by have := HS0.out; omega
  have HX1 := Lib.hid ((hb.block _ hlt0).trans HX.out)
  have HY1 := Lib.hid ((hb.block _ hlt1).trans HY.out)
  have HB1 := Lib.hid (HB0.out.trans (hb.mono HB0.out.size))
  have hs1 := hb.size
  have hlx : w.heap.size < w1.heap.size := by omega
  have hly : w.heap.size + 1 < w1.heap.size := by omega
  obtain ⟨x0, x1, _⟩ := pair_cells HX1.out
  obtain ⟨c0, c1, c2⟩ := HQ.out.below HB1.out hbl
  simp only at c0 c1 c2
  clear hb hlt0 hlt1 hs1
  obtain ⟨y0, y1, yf⟩ := pair_cells HY1.out
  have yf0 := yf 0
  have yf1 := yf 1
  clear yf
  have HR := Lib.hid (pair_cells (heap_setCell_same _ (w.heap.size + 1) 1 _ _ (.slice ab B.length capb) (heap_setCell_same w1 (w.heap.size + 1) 0 _ _ (.slice (some ⟨b, off, none⟩) H.length cap) HY1.out)))
  go_wp2_with fail
  obtain ⟨r0, r1, _⟩ := HR.out
  refine bodyPost_ret (v := .tuple #[.agg #[.slice (some ⟨b, off, none⟩) H.length cap, .slice ab B.length capb], .slice none 0 0, Fault.errnoV 1]) (by simp [results, Tryz.results73, go_sem, r0, r1]) rfl ⟨rfl, ?_⟩
  exact (HB1.out.setCell (p := ⟨w.heap.size + 1, 0, none⟩) (Nat.le_succ _) _).setCell (p := ⟨w.heap.size + 1, 1, none⟩) (Nat.le_succ _) _
set_option maxRecDepth 1000000 in
set_option maxHeartbeats 8000000 in
theorem advance_back {w : World} {vh vb : Value} {H : List Ed} {B : List Batch.Ch} {x : Ed} (h t : Int) (ho : OwnAt w vh vb H B) (hr : Rise H) (hl : H.length ≤ 100000) (hlb : B.length ≤ 100000) (hh : hasB H h = true) (hx : H[idx H h]? = some x) (ht : t ≠ 18446744073709551615) (hta : t < x.a) :
    Calls Tryz.prog 73 #[.agg #[vh, vb], .int .i64 h, .int .u64 t] w fun e w' => e = .returned (.tuple #[.agg #[vh, vb], .slice none 0 0, Fault.errnoV 6]) ∧ Below w.heap.size w w' := by
  have HP := Lib.hid (fun W hW => place_any (w := W) (v := vh) (vb := vb) h hW hr hl)
  have HH := Lib.hid hh
  have HOW := Lib.hid ho
  have HXM := Lib.hid hx
  have hxw := ho.hands.wf x (List.mem_of_getElem? hx)
  have HXW := Lib.hid hxw
  have hil := (List.getElem?_eq_some_iff.1 hx).1
  obtain ⟨i, hi⟩ : ∃ i, i = idx H h := ⟨_, rfl⟩
  rw [← hi] at hil HXM
  have HI := Lib.hid hi
  have hi0 : (0 : Int) ≤ (i : Int) := Int.natCast_nonneg _
  have hi1 : (i : Int) < (H.length : Int) := by omega
  obtain ⟨ao, cap, rfl, hcell, _⟩ := ho.hands
  obtain ⟨ab, capb, rfl, _⟩ := ho.held
  obtain ⟨b, off, rfl, hcc⟩ := hcell.resolve_left (fun h => by rw [h.2] at hx; simp at hx)
  have q := hcc _ x HXM.out
  have hbl := q.lt
  have HQ := Lib.hid q
  obtain ⟨w0, hw0⟩ : ∃ w0, w0 = (w.alloc (.cells #[.slice (some ⟨b, off, none⟩) H.length cap, .slice ab B.length capb] 60)).alloc (.cells #[.slice none 0 0, .slice none 0 0] 60) := ⟨_, rfl⟩
  obtain ⟨hb0, hs0, hx0, hy0⟩ := start2 w _ _ hw0
  have HX := Lib.hid hx0
  have HY := Lib.hid hy0
  have HB0 := Lib.hid hb0
  have HS0 := Lib.hid hs0
  obtain ⟨xf, xt, xa⟩ := x
  clear hb0 hs0 hx0 hy0 hr hh ho hx hcell hcc q hi hxw
  have htt : (t == 18446744073709551615) = false := by rw [beq_eq_false_iff_ne]; exact ht
  simp only at hta
  clear ht
  go_enter Tryz.func73, Tryz.ntmps73
  go_wp2_with fail
  go_at_call 100
  rw [← hw0]
  clear hw0
  refine (HP.out w0 (HOW.out.hands.below HB0.out)).mono ?_
  rw [← HI.out, HH.out]
  rintro e w1 ⟨rfl, hb⟩
  have hlt0 : w.heap.size < w0.heap.size := by have := HS0.out; omega
  have hlt1 : w.heap.size + 1 < w0.heap.size := by have := HS0.out; omega
  have HX1 := Lib.hid ((hb.block _ hlt0).trans HX.out)
  have HY1 := Lib.hid ((hb.block _ hlt1).trans HY.out)
  have HB1 := Lib.hid (HB0.out.trans (hb.mono HB0.out.size))
  have hs1 := hb.size
  have hlx : w.heap.size < w1.heap.size := by omega
  have hly : w.heap.size + 1 < w1.heap.size := by omega
  obtain ⟨x0, x1, _⟩ := pair_cells HX1.out
  obtain ⟨c0, c1, c2⟩ := HQ.out.below HB1.out hbl
  simp only at c0 c1 c2
  clear hb hlt0 hlt1 hs1
  obtain ⟨y0, y1, yf⟩ := pair_cells HY1.out
  have yf0 := yf 0
  have yf1 := yf 1
  clear yf
  have HR := Lib.hid (pair_cells (heap_setCell_same _ (w.heap.size + 1) 1 _ _ (.slice ab B.length capb) (heap_setCell_same w1 (w.heap.size + 1) 0 _ _ (.slice (some ⟨b, off, none⟩) H.length cap) HY1.out)))
  go_wp2_with fail
  obtain ⟨r0, r1, _⟩ := HR.out
  refine bodyPost_ret (v := .tuple #[.agg #[.slice (some ⟨b, off, none⟩) H.length cap, .slice ab B.length capb], .slice none 0 0, Fault.errnoV 6]) (by simp [results, Tryz.results73, go_sem, r0, r1]) rfl ⟨rfl, ?_⟩
  exact (HB1.out.setCell (p := ⟨w.heap.size + 1, 0, none⟩) (Nat.le_succ _) _).setCell (p := ⟨w.heap.size + 1, 1, none⟩) (Nat.le_succ _) _
set_option maxRecDepth 1000000 in
set_option maxHeartbeats 8000000 in
theorem advance_ok {w : World} {vh vb : Value} {H : List Ed} {B : List Batch.Ch} {x : Ed} (h t : Int) (ho : OwnAt w vh vb H B) (hr : Rise H) (hl : H.length ≤ 100000) (hlb : B.length ≤ 100000) (hh : hasB H h = true) (hx : H[idx H h]? = some x) (ht : t ≠ 18446744073709551615) (hta : ¬ t < x.a) (ht0 : 0 ≤ t) (ht1 : t ≤ 18446744073709551615) :
    Calls Tryz.prog 73 #[.agg #[vh, vb], .int .i64 h, .int .u64 t] w fun e w' => ∃ vh' vb' v, e = .returned (.tuple #[.agg #[vh', vb'], v, .nilIface]) ∧ Own w' w.heap.size 107 vh' (H.set (idx H h) ⟨x.f, x.t, t⟩) ∧ Batch.Own w' w.heap.size 103 vb' B ∧ Batch.Own w' w.heap.size 103 v (Batch.sumsR ([⟨x.t, t, 1⟩] ++ [⟨x.t, x.a, -1⟩])) ∧ Below w.heap.size w w' := by
  have HP := Lib.hid (fun W hW => place_any (w := W) (v := vh) (vb := vb) h hW hr hl)
  have HH := Lib.hid hh
  have HOW := Lib.hid ho
  have HXM := Lib.hid hx
  have hxw := ho.hands.wf x (List.mem_of_getElem? hx)
  have HXW := Lib.hid hxw
  have hil := (List.getElem?_eq_some_iff.1 hx).1
  obtain ⟨i, hi⟩ : ∃ i, i = idx H h := ⟨_, rfl⟩
  rw [← hi] at hil HXM
  have HI := Lib.hid hi
  have hi0 : (0 : Int) ≤ (i : Int) := Int.natCast_nonneg _
  have hi1 : (i : Int) < (H.length : Int) := by omega
  obtain ⟨ao, cap, rfl, hcell, _⟩ := ho.hands
  obtain ⟨ab, capb, rfl, _⟩ := ho.held
  obtain ⟨b, off, rfl, hcc⟩ := hcell.resolve_left (fun h => by rw [h.2] at hx; simp at hx)
  have q := hcc _ x HXM.out
  have hbl := q.lt
  have HQ := Lib.hid q
  obtain ⟨w0, hw0⟩ : ∃ w0, w0 = (w.alloc (.cells #[.slice (some ⟨b, off, none⟩) H.length cap, .slice ab B.length capb] 60)).alloc (.cells #[.slice none 0 0, .slice none 0 0] 60) := ⟨_, rfl⟩
  obtain ⟨hb0, hs0, hx0, hy0⟩ := start2 w _ _ hw0
  have HX := Lib.hid hx0
  have HY := Lib.hid hy0
  have HB0 := Lib.hid hb0
  have HS0 := Lib.hid hs0
  obtain ⟨xf, xt, xa⟩ := x
  clear hb0 hs0 hx0 hy0 hr hh ho hx hcell hcc q hi hxw
  have htt : (t == 18446744073709551615) = false := by rw [beq_eq_false_iff_ne]; exact ht
  simp only at hta
  clear ht
  have hca := fun W => counts_adv (w := W) (x := ⟨xf, xt, xa⟩) t HXW.out ht0 ht1
  dsimp only at hca ⊢
  generalize Batch.sumsR ([⟨xt, t, 1⟩] ++ [⟨xt, xa, -1⟩]) = L1 at hca ⊢
  have HCA := Lib.hid hca
  clear hca
  go_enter Tryz.func73, Tryz.ntmps73
  go_wp2_with fail
  go_at_call 100
  rw [← hw0]
  clear hw0
  refine (HP.out w0 (HOW.out.hands.below HB0.out)).mono ?_
  rw [← HI.out, HH.out]
  rintro e w1 ⟨rfl, hb⟩
  have hlt0 : w.heap.size < w0.heap.size := by have := HS0.out; omega
  have hlt1 : w.heap.size + 1 < w0.heap.size := by have := HS0.out; omega
  have HX1 := Lib.hid ((hb.block _ hlt0).trans HX.out)
  have HY1 := Lib.hid ((hb.block _ hlt1).trans HY.out)
  have HB1 := Lib.hid (HB0.out.trans (hb.mono HB0.out.size))
  have hs1 := hb.size
  have hlx : w.heap.size < w1.heap.size := by omega
  have hly : w.heap.size + 1 < w1.heap.size := by omega
  obtain ⟨x0, x1, _⟩ := pair_cells HX1.out
  obtain ⟨c0, c1, c2⟩ := HQ.out.below HB1.out hbl
  simp only at c0 c1 c2
  clear hb hlt0 hlt1 hs1
  go_wp2_with fail
  go_at_call 102
  refine (clones_any (HOW.out.hands.below HB1.out) (HOW.out.held.below HB1.out) hl hlb).mono ?_
  rintro e w2 ⟨vh2, vb2, mm, rfl, hoh, hfar, hmm, hob, hb⟩
  obtain ⟨ga, ca, rfl, hga, hga2, _⟩ := hoh.form.resolve_left (fun e => by rw [e.1] at hil; simp at hil)
  obtain ⟨a2, c2', rfl⟩ := formB hob
  have HOH := Lib.hid hoh
  have HOB := Lib.hid hob
  have HB2 := Lib.hid (HB1.out.trans (hb.mono HB1.out.size))
  have HX2 := Lib.hid ((hb.block _ hlx).trans HX1.out)
  have HY2 := Lib.hid ((hb.block _ hly).trans HY1.out)
  have hs2 := hb.size
  obtain ⟨k0, k1, k2⟩ := hoh.at HXM.out
  have kf := hoh.free (i * 3 + 2)
  simp only at k2
  obtain ⟨w3, hw3⟩ : ∃ w3, w3 = (w2.setCell ⟨ga, i * 3 + 2, none⟩ (.int .u64 t)).alloc (.cells #[.slice (some ⟨ga, 0, none⟩) H.length ca, .slice a2 B.length c2'] 60) := ⟨_, rfl⟩
  have hgw : w1.heap.size ≤ ga := hga
  have hgm : ga < mm := hfar ga rfl
  have hsz : (w2.setCell ⟨ga, i * 3 + 2, none⟩ (.int .u64 t)).heap.size = w2.heap.size := by simp [World.setCell]
  have hs3 : w3.heap.size = w2.heap.size + 1 := by rw [hw3]; simp [World.setCell]
  have hb23 : Below w1.heap.size w2 w3 := by rw [hw3]; exact ((Below.refl _ _).setCell (p := ⟨ga, i * 3 + 2, none⟩) hgw _).alloc (by rw [hsz]; exact hs2) _
  have HN3 := Lib.hid (show w3.heap[w2.heap.size]? = some (.cells #[.slice (some ⟨ga, 0, none⟩) H.length ca, .slice a2 B.length c2'] 60 (0, 0)) by
    rw [hw3, ← hsz]; exact heap_alloc_new _ _)
  have HX3 := Lib.hid ((hb23.block _ hlx).trans HX2.out)
  have HY3 := Lib.hid ((hb23.block _ hly).trans HY2.out)
  have HOH3 := Lib.hid (show Own w3 w1.heap.size 107 (.slice (some ⟨ga, 0, none⟩) H.length ca) (H.set i ⟨xf, xt, t⟩) by
    rw [hw3]; exact World.ownsRow.alloc (own_setA hoh HXM.out t) _)
  have HOB3 := Lib.hid (show Batch.Own w3 mm 103 (.slice a2 B.length c2') B by
    have h1 := World.ownsRow.lt hob
    rw [hw3]; exact World.ownsRow.alloc (ownsRow_setCell_other hob (fun e => by have h := (h1 _ e).1; dsimp only at h; omega) _) _)
  have HB3 := Lib.hid (HB2.out.trans (hb23.mono HB1.out.size))
  have hbl1 : b < w1.heap.size := by have := HB1.out.size; omega
  obtain ⟨d0, d1, d2⟩ := (HQ.out.below HB3.out hbl)
  simp only at d0 d1 d2
  obtain ⟨n0, n1, _⟩ := pair_cells HN3.out
  obtain ⟨z0, z1, _⟩ := pair_cells HX3.out
  go_upto_region 10 with fail
  rw [← hw3]
  clear hw3 k0 k1 k2 kf hoh hob hb x0 x1 c0 c1 c2 hsz
  have hlw2 : w2.heap.size < w3.heap.size := by omega
  have hlw0 : w.heap.size < w3.heap.size := by omega
  have hlw1 : w.heap.size + 1 < w3.heap.size := by omega
  have hlwb : b < w3.heap.size := by omega
  have hn1 : ¬ b = w.heap.size + 1 := by omega
  have hn2 : ¬ w2.heap.size = w.heap.size + 1 := by omega
  have hn3 : ¬ w.heap.size + 1 = b := by omega
  have hn4 : ¬ w.heap.size + 1 = w2.heap.size := by omega
  clear hs3
  go_region_held3 (fun w' => w'.cell? ⟨w2.heap.size, 0, none⟩ = some (.slice (some ⟨ga, 0, none⟩) H.length ca) ∧ w'.cell? ⟨w2.heap.size, 1, none⟩ = some (.slice a2 B.length c2') ∧ w'.cell? ⟨w.heap.size, 0, none⟩ = some (.slice (some ⟨b, off, none⟩) H.length cap) ∧ w'.cell? ⟨b, off + i * 3, none⟩ = some (.int .i64 xf) ∧ w'.cell? ⟨b, off + i * 3 + 1, none⟩ = some (.int .i64 xt) ∧ w'.cell? ⟨b, off + i * 3 + 2, none⟩ = some (.int .u64 xa))
    (first
      | go_keep
      | (go_split_ands
         refine ⟨?_, ?_, ?_, ?_, ?_, ?_⟩ <;> (rw [hcb.cell (by simp; omega)]; assumption)))
    ((go_at_call 103; refine (HCA.out _).mono ?_; rintro e w4 ⟨v, rfl, hv, hcb⟩; obtain ⟨a4, c4, rfl⟩ := formB hv; obtain ⟨y0, y1, yf⟩ := pair_cells ((hcb.block (w.heap.size + 1) (by simp; omega)).trans HY3.out); have yf0 := yf 0; have yf1 := yf 1; clear yf))
  go_wp2_with fail
  have hb34 : Below w3.heap.size w3 w4 := (below_drewN (Below.refl w3.heap.size w3) 1).trans hcb
  obtain ⟨r0, r1, _⟩ := pair_cells (heap_setCell_same _ (w.heap.size + 1) 1 _ _ (.slice a2 B.length c2') (heap_setCell_same w4 (w.heap.size + 1) 0 _ _ (.slice (some ⟨ga, 0, none⟩) H.length ca) ((hb34.block _ hlw1).trans HY3.out)))
  refine bodyPost_ret (v := .tuple #[.agg #[.slice (some ⟨ga, 0, none⟩) H.length ca, .slice a2 B.length c2'], .slice a4 L1.length c4, .nilIface]) (by simp [results, Tryz.results73, go_sem, r0, r1]) rfl ⟨_, _, _, rfl, ?_, ?_, ?_, ?_⟩
  · rw [← HI.out]
    have h1 := HOH3.out.below hb34
    have h2 := World.ownsRow.lt h1
    exact Own.mono (ownsRow_setCell_other (ownsRow_setCell_other h1 (fun e => by have h := (h2 _ e).1; dsimp only at h; omega) _) (fun e => by have h := (h2 _ e).1; dsimp only at h; omega) _) (by omega)
  · have h1 := HOB3.out.below hb34
    have h2 := World.ownsRow.lt h1
    exact Batch.Own.mono (ownsRow_setCell_other (ownsRow_setCell_other h1 (fun e => by have h := (h2 _ e).1; dsimp only at h; omega) _) (fun e => by have h := (h2 _ e).1; dsimp only at h; omega) _) (by omega)
  · have h2 := World.ownsRow.lt hv
    exact Batch.Own.mono (ownsRow_setCell_other (ownsRow_setCell_other hv (fun e => by have h := (h2 _ e).1; simp at h; omega) _) (fun e => by have h := (h2 _ e).1; simp at h; omega) _) (by simp; omega)
  · exact ((HB3.out.trans (hb34.mono (by omega))).setCell (p := ⟨w.heap.size + 1, 0, none⟩) (Nat.le_succ _) _).setCell (p := ⟨w.heap.size + 1, 1, none⟩) (Nat.le_succ _) _
end Go.Proofs.YtdllgeanmlmmfaaGreatDoor.Cl
