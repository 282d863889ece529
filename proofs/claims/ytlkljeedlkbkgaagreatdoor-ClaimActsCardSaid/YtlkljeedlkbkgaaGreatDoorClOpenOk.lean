/-
  YtlkljeedlkbkgaaGreatDoorClOpenOk
-/
import Derived.Test.YtlkljeedlkbkgaaGreatDoorClInsert
import Derived.Test.YtlkljeedlkbkgaaGreatDoorJoined24
namespace Go.Proofs.YtlkljeedlkbkgaaGreatDoor.Cl
open Go.RowKit Gr
set_option linter.unusedVariables false
set_option linter.unusedSimpArgs false
set_option maxRecDepth 1000000 in
set_option maxHeartbeats 8000000 in
theorem open_stale {w : World} {vh vb : Value} {H : List Ed} {B : List Batch.Ch} (h id : Int) (ho : OwnAt w vh vb H B) (hr : Rise H) (hl : H.length ≤ 100000) (hh : hasB H h = false) :
    Calls Tryz.prog 31 #[.agg #[vh, vb], .int .i64 h, .int .i64 id] w fun e w' => ∃ ve, e = .returned (.tuple #[.agg #[vh, vb], .slice none 0 0, ve]) ∧ ErrIs w' ve ([(handleS, h)], 7) ∧ Below w.heap.size w w' := by
  have HP := Lib.hid (fun W hW => find_no (w := W) (v := vh) (vb := vb) h hW hr hl hh)
  have HOW := Lib.hid ho
  obtain ⟨ao, cap, rfl, _⟩ := ho.hands
  obtain ⟨ab, capb, rfl, _⟩ := ho.held
  obtain ⟨w0, hw0⟩ : ∃ w0, w0 = (w.alloc (.cells #[.slice ao H.length cap, .slice ab B.length capb] 47)).alloc (.cells #[.slice none 0 0, .slice none 0 0] 47) := ⟨_, rfl⟩
  obtain ⟨hb0, hs0, hx0, hy0⟩ := start2 w _ _ hw0
  have HX := Lib.hid hx0
  have HY := Lib.hid hy0
  have HB0 := Lib.hid hb0
  have HS0 := Lib.hid hs0
  clear hb0 hs0 hx0 hy0 hr hh ho
  go_enter Tryz.func31, Tryz.ntmps31
  go_wp2_with fail
  go_at_call 10
  rw [← hw0]
  clear hw0
  refine (HP.out w0 (HOW.out.hands.below HB0.out)).mono ?_
  rintro e w1 ⟨rfl, hb⟩
  have hlt0 : w.heap.size < w0.heap.size := by have := HS0.out; omega
  have hlt1 : w.heap.size + 1 < w0.heap.size := by have := HS0.out; omega
  obtain ⟨w2, hw2⟩ : ∃ w2, w2 = w1.alloc (.cells #[.int .i64 0, .int .i64 0, .int .u64 0] 40) := ⟨_, rfl⟩
  have hb2 : Below w1.heap.size w1 w2 := by rw [hw2]; exact (Below.refl _ _).alloc (Nat.le_refl _) _
  replace hb := hb.trans (hb2.mono hb.size)
  have HX1 := Lib.hid ((hb.block _ hlt0).trans HX.out)
  have HY1 := Lib.hid ((hb.block _ hlt1).trans HY.out)
  have HB1 := Lib.hid (HB0.out.trans (hb.mono HB0.out.size))
  have hs1 := hb.size
  have hlx : w.heap.size < w2.heap.size := by omega
  have hly : w.heap.size + 1 < w2.heap.size := by omega
  obtain ⟨x0, x1, _⟩ := pair_cells HX1.out
  clear hb hlt0 hlt1 hs1 hb2
  go_upto_region 3 with fail
  rw [← hw2]
  clear hw2
  go_region_held3 (fun w' => w'.cell? ⟨w.heap.size, 0, none⟩ = some (.slice ao H.length cap) ∧ w'.cell? ⟨w.heap.size, 1, none⟩ = some (.slice ab B.length capb))
    (first
      | go_keep
      | (go_split_ands
         refine ⟨?_, ?_⟩ <;> (rw [hcb.cell (by simp; omega)]; assumption)))
    ((go_at_call 61; refine (stale_any h _).mono ?_; rintro e w3 ⟨ve, rfl, hve, hcb⟩; obtain ⟨y0, y1, yf⟩ := pair_cells ((hcb.block (w.heap.size + 1) (by simp; omega)).trans HY1.out); have yf0 := yf 0; have yf1 := yf 1; clear yf))
  go_wp2_with fail
  have hb12 : Below w2.heap.size w2 w3 := (below_drewN (Below.refl w2.heap.size w2) 1).trans hcb
  obtain ⟨r0, r1, _⟩ := pair_cells (heap_setCell_same _ (w.heap.size + 1) 1 _ _ (.slice ab B.length capb) (heap_setCell_same w3 (w.heap.size + 1) 0 _ _ (.slice ao H.length cap) ((hb12.block _ hly).trans HY1.out)))
  refine bodyPost_ret (v := .tuple #[.agg #[.slice ao H.length cap, .slice ab B.length capb], .slice none 0 0, ve]) (by simp [results, Tryz.results31, go_sem, r0, r1]) rfl ⟨_, rfl, ?_, ?_⟩
  · exact err_set hve y0 _ _
  · exact ((HB1.out.trans (hb12.mono HB1.out.size)).setCell (p := ⟨w.heap.size + 1, 0, none⟩) (Nat.le_succ _) _).setCell (p := ⟨w.heap.size + 1, 1, none⟩) (Nat.le_succ _) _
set_option maxRecDepth 1000000 in
set_option maxHeartbeats 8000000 in
theorem open_arg {w : World} {vh vb : Value} {H : List Ed} {B : List Batch.Ch} {x : Ed} (h id : Int) (ho : OwnAt w vh vb H B) (hr : Rise H) (hl : H.length ≤ 100000) (hh : hasB H h = true) (hx : H[idx H h]? = some x) (hid : hasB H id = true ∨ id < 0) :
    Calls Tryz.prog 31 #[.agg #[vh, vb], .int .i64 h, .int .i64 id] w fun e w' => e = .returned (.tuple #[.agg #[vh, vb], .slice none 0 0, Fault.errnoV 1]) ∧ Below w.heap.size w w' := by
  have HP := Lib.hid (fun W hW => find_yes (w := W) (v := vh) (vb := vb) h hW hr hl hh hx)
  have HP2 := Lib.hid (fun W hW => place_any (w := W) (v := vh) (vb := vb) id hW hr hl)
  have HOW := Lib.hid ho
  have HID := Lib.hid hid
  obtain ⟨ao, cap, rfl, _⟩ := ho.hands
  obtain ⟨ab, capb, rfl, _⟩ := ho.held
  obtain ⟨w0, hw0⟩ : ∃ w0, w0 = (w.alloc (.cells #[.slice ao H.length cap, .slice ab B.length capb] 47)).alloc (.cells #[.slice none 0 0, .slice none 0 0] 47) := ⟨_, rfl⟩
  obtain ⟨hb0, hs0, hx0, hy0⟩ := start2 w _ _ hw0
  have HX := Lib.hid hx0
  have HY := Lib.hid hy0
  have HB0 := Lib.hid hb0
  have HS0 := Lib.hid hs0
  obtain ⟨xf, xt, xa⟩ := x
  clear hb0 hs0 hx0 hy0 hr hh ho hx hid
  go_enter Tryz.func31, Tryz.ntmps31
  go_wp2_with fail
  go_at_call 10
  rw [← hw0]
  clear hw0
  refine (HP.out w0 (HOW.out.hands.below HB0.out)).mono ?_
  rintro e w1 ⟨rfl, hb⟩
  have hlt0 : w.heap.size < w0.heap.size := by have := HS0.out; omega
  have hlt1 : w.heap.size + 1 < w0.heap.size := by have := HS0.out; omega
  obtain ⟨w2, hw2⟩ : ∃ w2, w2 = w1.alloc (.cells #[.int .i64 xf, .int .i64 xt, .int .u64 xa] 40) := ⟨_, rfl⟩
  have hb2 : Below w1.heap.size w1 w2 := by rw [hw2]; exact (Below.refl _ _).alloc (Nat.le_refl _) _
  replace hb := hb.trans (hb2.mono hb.size)
  have HX1 := Lib.hid ((hb.block _ hlt0).trans HX.out)
  have HY1 := Lib.hid ((hb.block _ hlt1).trans HY.out)
  have HB1 := Lib.hid (HB0.out.trans (hb.mono HB0.out.size))
  have hs1 := hb.size
  obtain ⟨x0, x1, _⟩ := pair_cells HX1.out
  clear hb hlt0 hlt1 hs1 hb2
  go_upto_region 4 with fail
  rw [← hw2]
  clear hw2
  go_wp2_with fail
  go_at_call 44
  refine (HP2.out w2 (HOW.out.hands.below HB1.out)).mono ?_
  rintro e w3 ⟨rfl, hb⟩
  replace HX1 := Lib.hid ((hb.block _ (Array.getElem?_eq_some_iff.1 HX1.out).1).trans HX1.out)
  replace HY1 := Lib.hid ((hb.block _ (Array.getElem?_eq_some_iff.1 HY1.out).1).trans HY1.out)
  replace HB1 := Lib.hid (HB1.out.trans (hb.mono HB1.out.size))
  clear hb x0 x1
  have HR := Lib.hid (pair_cells (heap_setCell_same _ (w.heap.size + 1) 1 _ _ (.slice ab B.length capb) (heap_setCell_same w3 (w.heap.size + 1) 0 _ _ (.slice ao H.length cap) HY1.out)))
  have HBE := Lib.hid ((HB1.out.setCell (p := ⟨w.heap.size + 1, 0, none⟩) (Nat.le_succ _) (.slice ao H.length cap)).setCell (p := ⟨w.heap.size + 1, 1, none⟩) (Nat.le_succ _) (.slice ab B.length capb))
  obtain ⟨x0, x1, _⟩ := pair_cells HX1.out
  obtain ⟨y0, y1, yf⟩ := pair_cells HY1.out
  have yf0 := yf 0
  have yf1 := yf 1
  clear yf
  cases hbk : hasB H id with
  | true =>
    go_wp2_with fail
    obtain ⟨r0, r1, _⟩ := HR.out
    exact bodyPost_ret (v := .tuple #[.agg #[.slice ao H.length cap, .slice ab B.length capb], .slice none 0 0, Fault.errnoV 1]) (by simp [results, Tryz.results31, go_sem, r0, r1]) rfl ⟨rfl, HBE.out⟩
  | false =>
    have hneg : decide (id < 0) = true := decide_eq_true (HID.out.resolve_left (fun e => by rw [hbk] at e; cases e))
    go_wp2_with fail
    obtain ⟨r0, r1, _⟩ := HR.out
    exact bodyPost_ret (v := .tuple #[.agg #[.slice ao H.length cap, .slice ab B.length capb], .slice none 0 0, Fault.errnoV 1]) (by simp [results, Tryz.results31, go_sem, r0, r1]) rfl ⟨rfl, HBE.out⟩
set_option maxRecDepth 1000000 in
set_option maxHeartbeats 8000000 in
theorem open_ok {w : World} {vh vb : Value} {H : List Ed} {B : List Batch.Ch} {x : Ed} (h id : Int) (ho : OwnAt w vh vb H B) (hr : Rise H) (hl : H.length ≤ 10000) (hlb : B.length ≤ 10000) (hh : hasB H h = true) (hx : H[idx H h]? = some x) (hid : hasB H id = false) (h0 : ¬ id < 0) :
    Calls Tryz.prog 31 #[.agg #[vh, vb], .int .i64 h, .int .i64 id] w fun e w' => ∃ vh' vb' v, e = .returned (.tuple #[.agg #[vh', vb'], v, .nilIface]) ∧ Own w' w.heap.size 40 vh' (withL H ⟨id, x.t, x.a⟩) ∧ Batch.Own w' w.heap.size 72 vb' B ∧ Batch.Own w' w.heap.size 72 v (Batch.sumsR ([⟨x.t, x.a, 1⟩] ++ [])) ∧ Below w.heap.size w w' := by
  have HP := Lib.hid (fun W hW => find_yes (w := W) (v := vh) (vb := vb) h hW hr (by omega) hh hx)
  have HP2 := Lib.hid (fun W hW => place_any (w := W) (v := vh) (vb := vb) id hW hr (by omega))
  have HWL := Lib.hid (with_no (h := ⟨id, x.t, x.a⟩) hr hid)
  have HOW := Lib.hid ho
  have HL := Lib.hid (And.intro hl hlb)
  have hxw := ho.hands.wf x (List.mem_of_getElem? hx)
  have HXW := Lib.hid hxw
  have hil := (List.getElem?_eq_some_iff.1 hx).1
  have HIL := Lib.hid (show H ≠ [] from fun e => by rw [e] at hil; simp at hil)
  obtain ⟨i, hi⟩ : ∃ i, i = idx H id := ⟨_, rfl⟩
  have HI := Lib.hid hi
  have hile : i ≤ H.length := by rw [hi]; exact idx_le id
  have HILE := Lib.hid hile
  have hi0 : (0 : Int) ≤ (i : Int) := Int.natCast_nonneg _
  have HBK := Lib.hid hid
  obtain ⟨ao, cap, rfl, _⟩ := ho.hands
  obtain ⟨ab, capb, rfl, _⟩ := ho.held
  obtain ⟨w0, hw0⟩ : ∃ w0, w0 = (w.alloc (.cells #[.slice ao H.length cap, .slice ab B.length capb] 47)).alloc (.cells #[.slice none 0 0, .slice none 0 0] 47) := ⟨_, rfl⟩
  obtain ⟨hb0, hs0, hx0, hy0⟩ := start2 w _ _ hw0
  have HX := Lib.hid hx0
  have HY := Lib.hid hy0
  have HB0 := Lib.hid hb0
  have HS0 := Lib.hid hs0
  obtain ⟨xf, xt, xa⟩ := x
  have hneg : decide (id < 0) = false := decide_eq_false h0
  clear hb0 hs0 hx0 hy0 hr hh ho hx hid h0 hi hile hil
  have hca := fun W => counts_open (w := W) (x := ⟨xf, xt, xa⟩) xa hxw hxw.a0 hxw.a1
  dsimp only at hca ⊢
  clear hxw
  generalize Batch.sumsR ([⟨xt, xa, 1⟩] ++ []) = L1 at hca ⊢
  have HCA := Lib.hid hca
  clear hca
  go_enter Tryz.func31, Tryz.ntmps31
  go_wp2_with fail
  go_at_call 10
  rw [← hw0]
  clear hw0
  refine (HP.out w0 (HOW.out.hands.below HB0.out)).mono ?_
  rintro e w1 ⟨rfl, hb⟩
  have hlt0 : w.heap.size < w0.heap.size := by have := HS0.out; omega
  have hlt1 : w.heap.size + 1 < w0.heap.size := by have := HS0.out; omega
  obtain ⟨w2, hw2⟩ : ∃ w2, w2 = w1.alloc (.cells #[.int .i64 xf, .int .i64 xt, .int .u64 xa] 40) := ⟨_, rfl⟩
  have hb2 : Below w1.heap.size w1 w2 := by rw [hw2]; exact (Below.refl _ _).alloc (Nat.le_refl _) _
  have hm : w2.heap[w1.heap.size]? = some (.cells #[.int .i64 xf, .int .i64 xt, .int .u64 xa] 40 (0, 0)) := by rw [hw2]; exact heap_alloc_new w1 _
  have hs01 := hb.size
  obtain ⟨M, hM⟩ : ∃ M, M = w1.heap.size := ⟨_, rfl⟩
  rw [← hM] at hm
  have HM := Lib.hid hm
  have HMS := Lib.hid (show w.heap.size + 1 < M by have := HS0.out; omega)
  replace hb := hb.trans (hb2.mono hb.size)
  have HX1 := Lib.hid ((hb.block _ hlt0).trans HX.out)
  have HY1 := Lib.hid ((hb.block _ hlt1).trans HY.out)
  have HB1 := Lib.hid (HB0.out.trans (hb.mono HB0.out.size))
  obtain ⟨x0, x1, _⟩ := pair_cells HX1.out
  clear hb hlt0 hlt1 hb2 hm hs01
  go_upto_region 4 with fail
  rw [← hw2]
  clear hw2
  go_wp2_with fail
  go_at_call 44
  refine (HP2.out w2 (HOW.out.hands.below HB1.out)).mono ?_
  rw [← HI.out, HBK.out]
  rintro e w3 ⟨rfl, hb⟩
  replace HX1 := Lib.hid ((hb.block _ (Array.getElem?_eq_some_iff.1 HX1.out).1).trans HX1.out)
  replace HY1 := Lib.hid ((hb.block _ (Array.getElem?_eq_some_iff.1 HY1.out).1).trans HY1.out)
  replace HM := Lib.hid ((hb.block _ (Array.getElem?_eq_some_iff.1 HM.out).1).trans HM.out)
  replace HB1 := Lib.hid (HB1.out.trans (hb.mono HB1.out.size))
  have hs23 := hb.size
  clear hb x0 x1
  rw [← hM]
  have HM3 := Lib.hid (Array.getElem?_eq_some_iff.1 HM.out).1
  clear hM hs23
  obtain ⟨x0, x1, _⟩ := pair_cells HX1.out
  go_wp2_with fail
  go_at_call 62
  refine (clones_any (HOW.out.hands.below HB1.out) (HOW.out.held.below HB1.out) (by have := HL.out.1; omega) (by have := HL.out.2; omega)).mono ?_
  rintro e w4 ⟨vh2, vb2, mm, rfl, hoh, hfar, hmm, hob, hb⟩
  obtain ⟨ga, ca, rfl, hga, hga2, _⟩ := hoh.form.resolve_left (fun e => HIL.out e.1)
  obtain ⟨a2, c2', rfl⟩ := formB hob
  have hs34 := hb.size
  have hm4 := (hb.block _ HM3.out).trans HM.out
  have hx4 := (hb.block _ (Array.getElem?_eq_some_iff.1 HX1.out).1).trans HX1.out
  have hy4 := (hb.block _ (Array.getElem?_eq_some_iff.1 HY1.out).1).trans HY1.out
  have HB4 := Lib.hid (HB1.out.trans (hb.mono HB1.out.size))
  have hgm : ga < mm := hfar ga rfl
  obtain ⟨G, hG⟩ : ∃ G, G = w4.heap.size := ⟨_, rfl⟩
  have HOL := Lib.hid (show ∀ k, (Value.slice a2 B.length c2').ownBlock = some k → mm ≤ k ∧ k < G from fun k e => by rw [hG]; exact World.ownsRow.lt hob k e)
  obtain ⟨w5, hw5⟩ : ∃ w5, w5 = (w4.alloc (.cells #[.slice (some ⟨ga, 0, none⟩) H.length ca, .slice a2 B.length c2'] 47)).alloc (.cells #[.int .i64 id, .int .i64 xt, .int .u64 xa] 40) := ⟨_, rfl⟩
  have hs5 : w5.heap.size = G + 1 + 1 := by rw [hw5, hG]; simp
  have hb45 : Below w4.heap.size w4 w5 := by rw [hw5]; exact ((Below.refl _ _).alloc (Nat.le_refl _) _).alloc (by simp) _
  have hn5 : w5.heap[G]? = some (.cells #[.slice (some ⟨ga, 0, none⟩) H.length ca, .slice a2 B.length c2'] 47 (0, 0)) := by rw [hw5, heap_alloc_old _ _ (by simp [hG]), hG]; exact heap_alloc_new w4 _
  have hv5 : w5.heap[G + 1]? = some (.cells #[.int .i64 id, .int .i64 xt, .int .u64 xa] 40 (0, 0)) := by
    have h := heap_alloc_new (w4.alloc (.cells #[.slice (some ⟨ga, 0, none⟩) H.length ca, .slice a2 B.length c2'] 47)) (.cells #[.int .i64 id, .int .i64 xt, .int .u64 xa] 40)
    rw [hw5, hG]; simpa using h
  have hoh5 : Own w5 w3.heap.size 40 (.slice (some ⟨ga, 0, none⟩) H.length ca) H := hoh.below hb45
  have hob5 : Batch.Own w5 mm 72 (.slice a2 B.length c2') B := hob.below hb45
  have hgG : ga < G := by rw [hG]; exact hga2
  have HIN := Lib.hid (insert_any (x := ⟨id, xt, xa⟩) hoh5 HILE.out HL.out.1 (show G + 1 ≠ ga by omega) (by omega) hv5)
  have HOB5 := Lib.hid hob5
  have HN5 := Lib.hid hn5
  have HS5 := Lib.hid (And.intro hs5 (And.intro hgG (And.intro hgm (show w3.heap.size ≤ ga ∧ w3.heap.size ≤ G from ⟨hga, by omega⟩))))
  have HM5 := Lib.hid ((hb45.block _ (by have := HM3.out; omega)).trans hm4)
  have HX5 := Lib.hid ((hb45.block _ (by have := HMS.out; have := HM3.out; omega)).trans hx4)
  have HY5 := Lib.hid ((hb45.block _ (by have := HMS.out; have := HM3.out; omega)).trans hy4)
  have HB5 := Lib.hid (HB4.out.trans (hb45.mono HB4.out.size))
  obtain ⟨m0, m1, m2, _⟩ := trip_cells hm4
  have hMw : M < w4.heap.size := by have := HM3.out; omega
  clear hoh hob hb hm4 hx4 hy4 hs5 hb45 hn5 hv5 hoh5 hob5 hgG hgm hfar hmm x0 x1 hga hga2 hs34
  go_wp2_with fail
  go_at_call 73
  rw [← hw5, ← hG]
  clear hw5
  refine HIN.out.mono ?_
  clear hG
  rintro e w6 ⟨v6, rfl, ⟨kd, cd, rfl, hkd⟩, hoi, hon⟩
  obtain ⟨L, hLL⟩ : ∃ L, L = H.take i ++ (⟨id, xt, xa⟩ : Ed) :: H.drop i := ⟨_, rfl⟩
  rw [← hLL] at hoi
  rw [← hLL]
  have HLL := Lib.hid hLL
  clear hLL
  obtain ⟨hs5, hgG, hgm, hg3, hg3'⟩ := HS5.out
  have hb56 := hon.1 w3.heap.size hg3
  have hs56 := hb56.size
  have hN6 := (hon.2 G (by omega) (by omega)).trans HN5.out
  have hob6 := own_only HOB5.out (fun k e => hon.2 k (by have := (World.ownsRow.lt HOB5.out k e).1; omega) (World.ownsRow.lt HOB5.out k e).2)
  obtain ⟨w7, hw7⟩ : ∃ w7, w7 = w6.setCell ⟨G, 0, none⟩ (.slice (some ⟨kd, 0, none⟩) L.length cd) := ⟨_, rfl⟩
  have hs7 : w7.heap.size = w6.heap.size := by rw [hw7]; simp [World.setCell]
  have hb67 : Below w3.heap.size w6 w7 := by rw [hw7]; exact (Below.refl _ _).setCell (p := ⟨G, 0, none⟩) hg3' _
  have hb57 := hb56.trans hb67
  have hn7 : w7.heap[G]? = some (.cells #[.slice (some ⟨kd, 0, none⟩) L.length cd, .slice a2 B.length c2'] 47 (0, 0)) := by rw [hw7]; exact heap_setCell_same w6 G 0 _ _ _ hN6
  have hm7 := (hb57.block _ HM3.out).trans HM5.out
  have hx7 := (hb57.block _ (by have := HMS.out; have := HM3.out; omega)).trans HX5.out
  have hy7 := (hb57.block _ (by have := HMS.out; have := HM3.out; omega)).trans HY5.out
  have HOH7 := Lib.hid (show Own w7 w3.heap.size 40 (.slice (some ⟨kd, 0, none⟩) L.length cd) L by
    rw [hw7]; exact ownsRow_setCell_other hoi (fun e => by simp [Value.ownBlock] at e; omega) _)
  have HOB7 := Lib.hid (show Batch.Own w7 mm 72 (.slice a2 B.length c2') B by
    rw [hw7]; exact ownsRow_setCell_other hob6 (fun e => by have := (HOL.out _ e).2; dsimp only at this; omega) _)
  have HB7 := Lib.hid (HB5.out.trans (hb57.mono (by have := HMS.out; have := HM3.out; omega)))
  obtain ⟨g0, g1, gf⟩ := pair_cells hN6
  have gf0 := gf 0
  have HN7 := Lib.hid hn7
  have HM7 := Lib.hid hm7
  have HX7 := Lib.hid hx7
  have HY7 := Lib.hid hy7
  have HSZ := Lib.hid (show w.heap.size + 1 < M ∧ M < w3.heap.size ∧ w3.heap.size ≤ G ∧ G + 1 < w7.heap.size ∧ w3.heap.size ≤ mm from ⟨HMS.out, HM3.out, hg3', by omega, by omega⟩)
  clear hoi hon hb56 hs56 hN6 hob6 hb67 hb57 hn7 hm7 hx7 hy7 gf hkd hs7 hs5 hgG hgm hg3 hg3'
  go_upto_region 9 with fail
  rw [← hw7]
  clear hw7 g0 g1 gf0 m0 m1 m2
  obtain ⟨n0, n1, _⟩ := pair_cells HN7.out
  obtain ⟨m0, m1, m2, _⟩ := trip_cells HM7.out
  obtain ⟨hz1, hz2, hz3, hz4, hz5⟩ := HSZ.out
  have hlw2 : G < w7.heap.size := by omega
  have hlwM : M < w7.heap.size := by omega
  have hlw1 : w.heap.size + 1 < w7.heap.size := by omega
  have hn1 : ¬ M = w.heap.size + 1 := by omega
  have hn2 : ¬ G = w.heap.size + 1 := by omega
  have hn3 : ¬ w.heap.size + 1 = M := by omega
  have hn4 : ¬ w.heap.size + 1 = G := by omega
  clear hMw
  go_region_held3 (fun w' => w'.cell? ⟨G, 0, none⟩ = some (.slice (some ⟨kd, 0, none⟩) L.length cd) ∧ w'.cell? ⟨G, 1, none⟩ = some (.slice a2 B.length c2') ∧ w'.cell? ⟨M, 0, none⟩ = some (.int .i64 xf) ∧ w'.cell? ⟨M, 1, none⟩ = some (.int .i64 xt) ∧ w'.cell? ⟨M, 2, none⟩ = some (.int .u64 xa))
    (first
      | go_keep
      | (go_split_ands
         refine ⟨?_, ?_, ?_, ?_, ?_⟩ <;> (rw [hcb.cell (by simp; omega)]; assumption)))
    ((go_at_call 63; refine (HCA.out _).mono ?_; rintro e w8 ⟨v, rfl, hv, hcb⟩; obtain ⟨a4, c4, rfl⟩ := formB hv; obtain ⟨y0, y1, yf⟩ := pair_cells ((hcb.block (w.heap.size + 1) (by simp; omega)).trans HY7.out); have yf0 := yf 0; have yf1 := yf 1; clear yf))
  go_wp2_with fail
  have hb78 : Below w7.heap.size w7 w8 := (below_drewN (Below.refl w7.heap.size w7) 1).trans hcb
  obtain ⟨r0, r1, _⟩ := pair_cells (heap_setCell_same _ (w.heap.size + 1) 1 _ _ (.slice a2 B.length c2') (heap_setCell_same w8 (w.heap.size + 1) 0 _ _ (.slice (some ⟨kd, 0, none⟩) L.length cd) ((hb78.block _ hlw1).trans HY7.out)))
  refine bodyPost_ret (v := .tuple #[.agg #[.slice (some ⟨kd, 0, none⟩) L.length cd, .slice a2 B.length c2'], .slice a4 L1.length c4, .nilIface]) (by simp [results, Tryz.results31, go_sem, r0, r1]) rfl ⟨_, _, _, rfl, ?_, ?_, ?_, ?_⟩
  · rw [HWL.out, ← HI.out, ← HLL.out]
    have h1 := HOH7.out.below hb78
    have h2 := World.ownsRow.lt h1
    exact Own.mono (ownsRow_setCell_other (ownsRow_setCell_other h1 (fun e => by have h := (h2 _ e).1; dsimp only at h; omega) _) (fun e => by have h := (h2 _ e).1; dsimp only at h; omega) _) (by omega)
  · have h1 := HOB7.out.below hb78
    have h2 := World.ownsRow.lt h1
    exact Batch.Own.mono (ownsRow_setCell_other (ownsRow_setCell_other h1 (fun e => by have h := (h2 _ e).1; dsimp only at h; omega) _) (fun e => by have h := (h2 _ e).1; dsimp only at h; omega) _) (by omega)
  · have h2 := World.ownsRow.lt hv
    exact Batch.Own.mono (ownsRow_setCell_other (ownsRow_setCell_other hv (fun e => by have h := (h2 _ e).1; simp at h; omega) _) (fun e => by have h := (h2 _ e).1; simp at h; omega) _) (by simp; omega)
  · exact ((HB7.out.trans (hb78.mono (by omega))).setCell (p := ⟨w.heap.size + 1, 0, none⟩) (Nat.le_succ _) _).setCell (p := ⟨w.heap.size + 1, 1, none⟩) (Nat.le_succ _) _
end Go.Proofs.YtlkljeedlkbkgaaGreatDoor.Cl
