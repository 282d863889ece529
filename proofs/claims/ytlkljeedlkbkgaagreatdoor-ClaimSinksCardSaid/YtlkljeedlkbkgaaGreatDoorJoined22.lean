/-
  YtlkljeedlkbkgaaGreatDoorClRefFind
  YtlkljeedlkbkgaaGreatDoorClFindNo
  YtlkljeedlkbkgaaGreatDoorClCloseOk
-/
import Derived.Test.YtlkljeedlkbkgaaGreatDoorJoined10
import Derived.Deep.Cut
import Derived.Deep.QuietTactic
import Derived.BigQuiet
import Derived.Test.YtlkljeedlkbkgaaGreatDoorJoined16
namespace Go.Proofs.YtlkljeedlkbkgaaGreatDoor.Cl
open Go.RowKit Gr
set_option linter.unusedVariables false
def refIdx (H : List Ed) (id : Int) : Int := if hasB H id = true then (idx H id : Int) else -1
theorem refIdx_yes {H : List Ed} {id : Int} (h : hasB H id = true) : refIdx H id = (idx H id : Int) := if_pos h
theorem refIdx_no {H : List Ed} {id : Int} (h : hasB H id = false) : refIdx H id = -1 := if_neg (by rw [h]; decide)
theorem refIdx_at {H : List Ed} (hr : Rise H) {id : Int} {i : Nat} {x : Ed} (hx : H[i]? = some x) (e : x.f = id) : refIdx H id = (i : Int) := by
  have hh := has_at hx e
  obtain ⟨y, hy, _, e2⟩ := at_has hr hh
  rw [refIdx_yes hh, rise_same hr hy hx (by omega)]
set_option maxRecDepth 1000000 in
set_option maxHeartbeats 8000000 in
theorem reffind_any {w : World} {vh vb : Value} {H : List Ed} (id : Int) (hH : Sl w vh H) (hr : Rise H) :
    Calls Tryz.prog 12 #[.agg #[vh, vb], .int .i64 id] w fun e w' => e = .returned (.int .i64 (refIdx H id)) ∧ Below w.heap.size w w' := by
  obtain ⟨ao, cap, rfl, hcell, hc1, hc2, _⟩ := hH
  have HC := Lib.hid hcell
  have HR := Lib.hid hr
  have hlen : H.length ≤ 9223372036854775807 := by omega
  obtain ⟨w0, hw0⟩ : ∃ w0, w0 = w.alloc (.cells #[.slice ao H.length cap, vb] 29) := ⟨_, rfl⟩
  have hb0 : Below w.heap.size w w0 := by rw [hw0]; exact (Below.refl _ _).alloc (Nat.le_refl _) _
  obtain ⟨x0, x1, _⟩ := pair_cells (show w0.heap[w.heap.size]? = some (.cells #[.slice ao H.length cap, vb] 29 (0, 0)) by rw [hw0]; exact heap_alloc_new w _)
  have HB0 := Lib.hid hb0
  have HNO := Lib.hid (fun h => refIdx_no (H := H) (id := id) h)
  have HAT := Lib.hid (fun (i : Nat) (x : Ed) (hx : H[i]? = some x) (e : x.f = id) => refIdx_at hr hx e)
  obtain ⟨ri, hri⟩ : ∃ z, z = refIdx H id := ⟨_, rfl⟩
  rw [← hri] at HNO
  have HRI := Lib.hid hri
  clear hcell hc1 hc2 hb0 hr hri
  go_enter Tryz.func12, Tryz.ntmps12
  go_upto_region 2 with fail
  rw [← hw0]
  clear hw0
  go_loopg [5] H.length (fun k s5 wr => ∃ i : Nat, i + k = H.length ∧ s5 = .int .i64 i ∧ (∀ x ∈ H.take i, x.f ≠ id) ∧ wr = w0)
  case atStart => exact ⟨0, by omega, rfl, by simp, rfl⟩
  case round =>
    obtain ⟨i, hik, rfl, hok, rfl⟩ := hrel
    have HIK := Lib.hid hik
    have HOK := Lib.hid hok
    have hi0 : (0 : Int) ≤ (i : Int) := Int.natCast_nonneg _
    clear hik hok
    by_cases hlt : i < H.length
    · obtain ⟨x, hx, hxm⟩ := Gr.at_of hlt
      obtain ⟨b, off, rfl, hcc⟩ := HC.out.resolve_left (fun h => by rw [h.2] at hx; simp at hx)
      have q := hcc _ x hx
      obtain ⟨c0, c1, c2⟩ := q.below HB0.out q.lt
      have HX := Lib.hid hx
      have HLT := Lib.hid hlt
      have hi1 : (i : Int) < (H.length : Int) := by omega
      by_cases e : x.f = id
      · have HF := Lib.hid (HAT.out i x hx e)
        have he : (x.f == id) = true := by rw [beq_iff_eq]; exact e
        obtain ⟨xf, xt, xa⟩ := x
        simp only at c0 he
        clear hx hxm hcc q hlt e c1 c2
        go_wp2_with fail
        go_ret
        exact ⟨by rw [HF.out]; rfl, HB0.out⟩
      · have HE := Lib.hid e
        have he : (x.f == id) = false := by rw [beq_eq_false_iff_ne]; exact e
        obtain ⟨xf, xt, xa⟩ := x
        simp only at c0 he
        clear hx hxm hcc q hlt e c1 c2
        go_wp2_with fail
        go_roundg (gk - 1)
        case measure => have := HIK.out; have := HLT.out; omega
        case rel => exact ⟨i + 1, by have := HIK.out; have := HLT.out; omega, by go_num, fun y hy => by
          rw [Gr.take_succ' HX.out] at hy
          rcases List.mem_append.1 hy with hy | hy
          · exact HOK.out y hy
          · simp at hy; subst hy; exact HE.out, rfl⟩
    · have hd1 : decide ((i : Int) < (H.length : Int)) = false := decide_eq_false (by omega)
      have hd2 : decide (i < H.length) = false := decide_eq_false hlt
      have HF := Lib.hid (HNO.out (hasB_no fun x hx => HOK.out x (by rw [List.take_of_length_le (by omega)]; exact hx)))
      go_wp2_with fail
      go_ret
      exact ⟨by rw [← HRI.out, HF.out]; rfl, HB0.out⟩
end Go.Proofs.YtlkljeedlkbkgaaGreatDoor.Cl
namespace Go.Proofs.YtlkljeedlkbkgaaGreatDoor.Cl
open Go.RowKit Gr
set_option linter.unusedVariables false
set_option maxRecDepth 1000000 in
set_option maxHeartbeats 8000000 in
theorem find_no {w : World} {v vb : Value} {l : List Ed} (p : Int) (hv : Sl w v l) (hr : Rise l) (hl : l.length ≤ 100000) (hh : hasB l p = false) :
    Calls Tryz.prog 10 #[.agg #[v, vb], .int .i64 p] w fun e w' => e = .returned (.tuple #[.agg #[.int .i64 0, .int .i64 0, .int .u64 0], .bool false]) ∧ Below w.heap.size w w' := by
  have HP := Lib.hid (fun W h => place_any (w := W) (vb := vb) (l := l) (v := v) p h hr hl)
  have HV := Lib.hid hv
  have HH := Lib.hid hh
  obtain ⟨w0, hw0⟩ : ∃ w0, w0 = (w.alloc (.cells #[v, vb] 47)).alloc (.cells #[.int .i64 0, .int .i64 0, .int .u64 0] 40) := ⟨_, rfl⟩
  have hb0 : Below w.heap.size w w0 := by rw [hw0]; exact ((Below.refl _ _).alloc (Nat.le_refl _) _).alloc (by simp) _
  have hs0 : w0.heap.size = w.heap.size + 1 + 1 := by rw [hw0]; simp
  have hx0 : w0.heap[w.heap.size]? = some (.cells #[v, vb] 47 (0, 0)) := by
    rw [hw0, heap_alloc_old _ _ (by simp)]; exact heap_alloc_new w _
  have hy0 : w0.heap[w.heap.size + 1]? = some (.cells #[.int .i64 0, .int .i64 0, .int .u64 0] 40 (0, 0)) := by
    rw [hw0]; have := heap_alloc_new (w.alloc (.cells #[v, vb] 47)) (.cells #[.int .i64 0, .int .i64 0, .int .u64 0] 40); simpa using this
  have HX := Lib.hid hx0
  have HY := Lib.hid hy0
  have HB0 := Lib.hid hb0
  have HS0 := Lib.hid hs0
  obtain ⟨ao, cap, e1, _⟩ := hv
  subst e1
  clear hb0 hs0 hx0 hy0 hh hr
  go_enter Tryz.func10, Tryz.ntmps10
  go_wp2_with fail
  go_at_call 44
  rw [← hw0]
  clear hw0
  refine (HP.out w0 (HV.out.below HB0.out)).mono ?_
  rw [HH.out]
  rintro e w1 ⟨rfl, hb⟩
  have hlt0 : w.heap.size < w0.heap.size := by have := HS0.out; omega
  have hlt1 : w.heap.size + 1 < w0.heap.size := by have := HS0.out; omega
  obtain ⟨x0, x1, _⟩ := pair_cells ((hb.block _ hlt0).trans HX.out)
  obtain ⟨y0, y1, y2, yf⟩ := trip_cells ((hb.block _ hlt1).trans HY.out)
  have yf0 := yf 0
  have yf1 := yf 1
  have yf2 := yf 2
  have HB1 := Lib.hid (HB0.out.trans (hb.mono HB0.out.size))
  have HR := Lib.hid (trip_cells (heap_setCell_same _ (w.heap.size + 1) 2 _ _ (.int .u64 0) (heap_setCell_same _ (w.heap.size + 1) 1 _ _ (.int .i64 0) (heap_setCell_same w1 (w.heap.size + 1) 0 _ _ (.int .i64 0) ((hb.block _ hlt1).trans HY.out)))))
  clear hb yf hlt0 hlt1
  go_wp2_with fail
  obtain ⟨r0, r1, r2, _⟩ := HR.out
  refine bodyPost_ret (v := .tuple #[.agg #[.int .i64 0, .int .i64 0, .int .u64 0], .bool false]) (by simp [results, Tryz.results10, go_sem, r0, r1, r2]) rfl ⟨rfl, ?_⟩
  exact ((HB1.out.setCell (p := ⟨w.heap.size + 1, 0, none⟩) (Nat.le_succ _) _).setCell (p := ⟨w.heap.size + 1, 1, none⟩) (Nat.le_succ _) _).setCell (p := ⟨w.heap.size + 1, 2, none⟩) (Nat.le_succ _) _
def handId (H : List Ed) (n : Int) : Int := if n < 0 ∨ H = [] then 100000 else ((H[(n % (H.length : Int)).toNat]?).map (·.f)).getD 0
set_option maxRecDepth 1000000 in
set_option maxHeartbeats 8000000 in
theorem hand_any {w : World} {vh vb : Value} {H : List Ed} (n : Int) (hn : n ≤ 9223372036854775807) (hH : Rd w vh H) :
    Calls Tryz.prog 30 #[.agg #[vh, vb], .int .i64 n] w fun e w' => e = .returned (.int .i64 (handId H n)) ∧ Below w.heap.size w w' := by
  obtain ⟨ao, cap, rfl, hl1, hc2, _, hcell⟩ := hH
  have HC := Lib.hid hcell
  have hlen : H.length ≤ 9223372036854775807 := by omega
  obtain ⟨w0, hw0⟩ : ∃ w0, w0 = w.alloc (.cells #[.slice ao H.length cap, vb] 29) := ⟨_, rfl⟩
  have hb0 : Below w.heap.size w w0 := by rw [hw0]; exact (Below.refl _ _).alloc (Nat.le_refl _) _
  obtain ⟨x0, x1, _⟩ := pair_cells (show w0.heap[w.heap.size]? = some (.cells #[.slice ao H.length cap, vb] 29 (0, 0)) by rw [hw0]; exact heap_alloc_new w _)
  have HB0 := Lib.hid hb0
  clear hcell hl1 hc2 hb0
  go_enter Tryz.func30, Tryz.ntmps30
  by_cases hneg : n < 0
  · have hd : decide (n < 0) = true := decide_eq_true hneg
    have HF := Lib.hid (show handId H n = 100000 from if_pos (.inl hneg))
    go_upto_region 1 with fail
    rw [← hw0]
    clear hw0
    go_wp2_with fail
    go_ret
    exact ⟨by rw [HF.out]; rfl, HB0.out⟩
  · have hd : decide (n < 0) = false := decide_eq_false hneg
    by_cases h0 : H = []
    · have HF := Lib.hid (show handId H n = 100000 from if_pos (.inr h0))
      subst h0
      rw [List.length_nil] at hw0 x0
      go_upto_region 1 with fail
      rw [← hw0]
      clear hw0
      go_wp2_with fail
      go_ret
      exact ⟨by rw [HF.out]; rfl, HB0.out⟩
    · have hpos : 0 < H.length := List.length_pos_iff.2 h0
      obtain ⟨i, hi, hlt⟩ : ∃ i : Nat, n.tmod (H.length : Int) = (i : Int) ∧ i < H.length := by
        have h1 := Int.tmod_nonneg (H.length : Int) (show 0 ≤ n by omega)
        have h2 := Int.tmod_lt_of_pos n (show (0 : Int) < (H.length : Int) by omega)
        exact ⟨(n.tmod (H.length : Int)).toNat, by omega, by omega⟩
      obtain ⟨x, hx, _⟩ := Gr.at_of hlt
      have HF := Lib.hid (show handId H n = x.f by
        unfold handId
        rw [if_neg (fun e => e.elim hneg h0), ← Int.tmod_eq_emod_of_nonneg (by omega), hi, Int.toNat_natCast, hx]
        rfl)
      obtain ⟨b, off, rfl, hcc⟩ := HC.out.resolve_left h0
      have q := hcc _ x hx
      obtain ⟨c0, c1, c2⟩ := q.below HB0.out q.lt
      have hi0 : (0 : Int) ≤ (i : Int) := Int.natCast_nonneg _
      have hi1 : (i : Int) < (H.length : Int) := by omega
      have hz : ¬ H.length = 0 := by omega
      have hz1 : ((H.length : Int) == 0) = false := by rw [beq_eq_false_iff_ne]; omega
      have hw64 : wrap64 (i : Int) = (i : Int) := by unfold wrap64; omega
      obtain ⟨xf, xt, xa⟩ := x
      simp only at c0 HF
      clear hx q hcc c1 c2
      go_upto_region 1 with fail
      rw [← hw0]
      clear hw0
      go_wp2_with fail
      go_quiet (fail)
      go_wp2_with fail
      go_ret
      exact ⟨by rw [HF.out]; rfl, below_drewN HB0.out _⟩
end Go.Proofs.YtlkljeedlkbkgaaGreatDoor.Cl
namespace Go.Proofs.YtlkljeedlkbkgaaGreatDoor.Cl
open Go.RowKit Gr
set_option linter.unusedVariables false
theorem own_only {w w' : World} {base : Nat} {T : TypeId} {v : Value} {l : List Batch.Ch} (h : Batch.Own w base T v l) (e : ∀ k, v.ownBlock = some k → w'.heap[k]? = w.heap[k]?) : Batch.Own w' base T v l := by
  refine ⟨h.1, ?_⟩
  rcases h.2 with h2 | ⟨g, cap, cur, rfl, hb, hg, rest⟩
  · exact .inl h2
  · exact .inr ⟨g, cap, cur, rfl, hb, (e g rfl).trans hg, rest⟩
set_option maxRecDepth 1000000 in
set_option maxHeartbeats 8000000 in
theorem close_ok {w : World} {vh vb : Value} {H : List Ed} {B : List Batch.Ch} {x : Ed} (h : Int) (ho : OwnAt w vh vb H B) (hr : Rise H) (hl : H.length ≤ 100000) (hlb : B.length ≤ 100000) (hh : hasB H h = true) (hx : H[idx H h]? = some x) (hl2 : H.length ≤ 10000) :
    Calls Tryz.prog 25 #[.agg #[vh, vb], .int .i64 h] w fun e w' => ∃ vh' vb' v, e = .returned (.tuple #[.agg #[vh', vb'], v, .nilIface]) ∧ Own w' w.heap.size 40 vh' (H.eraseIdx (idx H h)) ∧ Batch.Own w' w.heap.size 72 vb' B ∧ Batch.Own w' w.heap.size 72 v (Batch.sumsR ([] ++ [⟨x.t, x.a, -1⟩])) ∧ Below w.heap.size w w' := by
  have HP := Lib.hid (fun W hW => place_any (w := W) (v := vh) (vb := vb) h hW hr hl)
  have HH := Lib.hid hh
  have HOW := Lib.hid ho
  have HXM := Lib.hid hx
  have hxw := ho.hands.wf x (List.mem_of_getElem? hx)
  have HXW := Lib.hid hxw
  have hil := (List.getElem?_eq_some_iff.1 hx).1
  obtain ⟨i, hi⟩ : ∃ i, i = idx H h := ⟨_, rfl⟩
  rw [← hi] at hil HXM
  have HI := Lib.hid hi
  have hi0 : (0 : Int) ≤ (i : Int) := Int.natCast_nonneg _
  have hi1 : (i : Int) < (H.length : Int) := by omega
  obtain ⟨ao, cap, rfl, hcell, _⟩ := ho.hands
  obtain ⟨ab, capb, rfl, _⟩ := ho.held
  obtain ⟨b, off, rfl, hcc⟩ := hcell.resolve_left (fun h => by rw [h.2] at hx; simp at hx)
  have q := hcc _ x HXM.out
  have hbl := q.lt
  have HQ := Lib.hid q
  obtain ⟨w0, hw0⟩ : ∃ w0, w0 = (w.alloc (.cells #[.slice (some ⟨b, off, none⟩) H.length cap, .slice ab B.length capb] 47)).alloc (.cells #[.slice none 0 0, .slice none 0 0] 47) := ⟨_, rfl⟩
  obtain ⟨hb0, hs0, hx0, hy0⟩ := start2 w _ _ hw0
  have HX := Lib.hid hx0
  have HY := Lib.hid hy0
  have HB0 := Lib.hid hb0
  have HS0 := Lib.hid hs0
  obtain ⟨xf, xt, xa⟩ := x
  clear hb0 hs0 hx0 hy0 hr hh ho hx hcell hcc q hi hxw
  have hca := fun W => counts_close (w := W) (x := ⟨xf, xt, xa⟩) 18446744073709551615 HXW.out
  dsimp only at hca ⊢
  generalize Batch.sumsR ([] ++ [⟨xt, xa, -1⟩]) = L1 at hca ⊢
  have HCA := Lib.hid hca
  clear hca
  go_enter Tryz.func25, Tryz.ntmps25
  go_wp2_with fail
  go_at_call 44
  rw [← hw0]
  clear hw0
  refine (HP.out w0 (HOW.out.hands.below HB0.out)).mono ?_
  rw [← HI.out, HH.out]
  rintro e w1 ⟨rfl, hb⟩
  have hlt0 : w.heap.size < w0.heap.size := by have := HS0.out; omega
  have hlt1 : w.heap.size + 1 < w0.heap.size := by have := HS0.out; omega
  have HX1 := Lib.hid ((hb.block _ hlt0).trans HX.out)
  have HY1 := Lib.hid ((hb.block _ hlt1).trans HY.out)
  have HB1 := Lib.hid (HB0.out.trans (hb.mono HB0.out.size))
  have hs1 := hb.size
  have hlx : w.heap.size < w1.heap.size := by omega
  have hly : w.heap.size + 1 < w1.heap.size := by omega
  obtain ⟨x0, x1, _⟩ := pair_cells HX1.out
  obtain ⟨c0, c1, c2⟩ := HQ.out.below HB1.out hbl
  simp only at c0 c1 c2
  clear hb hlt0 hlt1 hs1
  go_wp2_with fail
  go_at_call 62
  refine (clones_any (HOW.out.hands.below HB1.out) (HOW.out.held.below HB1.out) hl hlb).mono ?_
  rintro e w2 ⟨vh2, vb2, mm, rfl, hoh, hfar, hmm, hob, hb⟩
  obtain ⟨ga, ca, rfl, hga, hga2, _⟩ := hoh.form.resolve_left (fun e => by rw [e.1] at hil; simp at hil)
  obtain ⟨a2, c2', rfl⟩ := formB hob
  have HOH := Lib.hid hoh
  have HOB := Lib.hid hob
  have HB2 := Lib.hid (HB1.out.trans (hb.mono HB1.out.size))
  have HX2 := Lib.hid ((hb.block _ hlx).trans HX1.out)
  have HY2 := Lib.hid ((hb.block _ hly).trans HY1.out)
  have hs2 := hb.size
  obtain ⟨w3, hw3⟩ : ∃ w3, w3 = w2.alloc (.cells #[.slice (some ⟨ga, 0, none⟩) H.length ca, .slice a2 B.length c2'] 47) := ⟨_, rfl⟩
  have hgw : w1.heap.size ≤ ga := hga
  have hgm : ga < mm := hfar ga rfl
  have hs3 : w3.heap.size = w2.heap.size + 1 := by rw [hw3]; simp
  have hb23 : Below w1.heap.size w2 w3 := by rw [hw3]; exact (Below.refl _ _).alloc hs2 _
  have HN3 := Lib.hid (show w3.heap[w2.heap.size]? = some (.cells #[.slice (some ⟨ga, 0, none⟩) H.length ca, .slice a2 B.length c2'] 47 (0, 0)) by rw [hw3]; exact heap_alloc_new _ _)
  have hoh3 : Own w3 w1.heap.size 40 (.slice (some ⟨ga, 0, none⟩) H.length ca) H := by rw [hw3]; exact World.ownsRow.alloc hoh _
  have HOB3 := Lib.hid (show Batch.Own w3 mm 72 (.slice a2 B.length c2') B by rw [hw3]; exact World.ownsRow.alloc hob _)
  have HDE := Lib.hid (delete_any hoh3 hil hl2)
  clear hoh hob hb x0 x1 c0 c1 c2 hoh3
  go_wp2_with fail
  go_at_call 64
  rw [← hw3]
  clear hw3
  refine HDE.out.mono ?_
  rintro e w4 ⟨vd, rfl, ⟨kd, rfl⟩, hod, hon⟩
  have hb34 := hon.1 w1.heap.size hgw
  have hs4 := hb34.size
  have hN4 := (hon.2 w2.heap.size (by omega) (by omega)).trans HN3.out
  have HOB4 := Lib.hid (own_only HOB3.out (fun k e => hon.2 k (by have := (World.ownsRow.lt HOB3.out k e).1; omega) (World.ownsRow.lt HOB3.out k e).2))
  obtain ⟨w5, hw5⟩ : ∃ w5, w5 = w4.setCell ⟨w2.heap.size, 0, none⟩ (.slice (some ⟨ga, 0, none⟩) kd ca) := ⟨_, rfl⟩
  have hs5 : w5.heap.size = w4.heap.size := by rw [hw5]; simp [World.setCell]
  have hb45 : Below w1.heap.size w4 w5 := by rw [hw5]; exact (Below.refl _ _).setCell (p := ⟨w2.heap.size, 0, none⟩) hs2 _
  have hb25 : Below w1.heap.size w2 w5 := (hb23.trans hb34).trans hb45
  have HN5 := Lib.hid (show w5.heap[w2.heap.size]? = some (.cells #[.slice (some ⟨ga, 0, none⟩) kd ca, .slice a2 B.length c2'] 47 (0, 0)) by rw [hw5]; exact heap_setCell_same w4 w2.heap.size 0 _ _ _ hN4)
  have HX5 := Lib.hid ((hb25.block _ hlx).trans HX2.out)
  have HY5 := Lib.hid ((hb25.block _ hly).trans HY2.out)
  have hn5 : ga ≠ w2.heap.size := by omega
  have HOH5 := Lib.hid (show Own w5 w1.heap.size 40 (.slice (some ⟨ga, 0, none⟩) kd ca) (H.eraseIdx i) by
    rw [hw5]; exact ownsRow_setCell_other hod (fun e => by simp [Value.ownBlock] at e; omega) _)
  have HOB5 := Lib.hid (show Batch.Own w5 mm 72 (.slice a2 B.length c2') B by
    have h1 := World.ownsRow.lt HOB3.out
    rw [hw5]; exact ownsRow_setCell_other HOB4.out (fun e => absurd (World.ownsRow.lt HOB.out _ e).2 (Nat.lt_irrefl _)) _)
  have HB5 := Lib.hid (HB2.out.trans (hb25.mono HB1.out.size))
  have hbl1 : b < w1.heap.size := by have := HB1.out.size; omega
  obtain ⟨d0, d1, d2⟩ := (HQ.out.below HB5.out hbl)
  simp only at d0 d1 d2
  obtain ⟨m0, m1, mf⟩ := pair_cells hN4
  have mf0 := mf 0
  obtain ⟨n0, n1, _⟩ := pair_cells HN5.out
  obtain ⟨z0, z1, _⟩ := pair_cells HX5.out
  clear mf hN4 hod hon
  go_upto_region 6 with fail
  rw [← hw5]
  have hlw2 : w2.heap.size < w5.heap.size := by omega
  have hlw0 : w.heap.size < w5.heap.size := by omega
  have hlw1 : w.heap.size + 1 < w5.heap.size := by omega
  have hlwb : b < w5.heap.size := by omega
  have hn1 : ¬ b = w.heap.size + 1 := by omega
  have hn2 : ¬ w2.heap.size = w.heap.size + 1 := by omega
  have hn3 : ¬ w.heap.size + 1 = b := by omega
  have hn4 : ¬ w.heap.size + 1 = w2.heap.size := by omega
  clear hw5 hs5 hs4 m0 m1 mf0 hs3
  go_region_held3 (fun w' => w'.cell? ⟨w2.heap.size, 0, none⟩ = some (.slice (some ⟨ga, 0, none⟩) kd ca) ∧ w'.cell? ⟨w2.heap.size, 1, none⟩ = some (.slice a2 B.length c2') ∧ w'.cell? ⟨w.heap.size, 0, none⟩ = some (.slice (some ⟨b, off, none⟩) H.length cap) ∧ w'.cell? ⟨b, off + i * 3, none⟩ = some (.int .i64 xf) ∧ w'.cell? ⟨b, off + i * 3 + 1, none⟩ = some (.int .i64 xt) ∧ w'.cell? ⟨b, off + i * 3 + 2, none⟩ = some (.int .u64 xa))
    (first
      | go_keep
      | (go_split_ands
         refine ⟨?_, ?_, ?_, ?_, ?_, ?_⟩ <;> (rw [hcb.cell (by simp; omega)]; assumption)))
    ((go_at_call 63; refine (HCA.out _).mono ?_; rintro e w6 ⟨v, rfl, hv, hcb⟩; obtain ⟨a4, c4, rfl⟩ := formB hv; obtain ⟨y0, y1, yf⟩ := pair_cells ((hcb.block (w.heap.size + 1) (by simp; omega)).trans HY5.out); have yf0 := yf 0; have yf1 := yf 1; clear yf))
  go_wp2_with fail
  have hb56 : Below w5.heap.size w5 w6 := (below_drewN (Below.refl w5.heap.size w5) 1).trans hcb
  obtain ⟨r0, r1, _⟩ := pair_cells (heap_setCell_same _ (w.heap.size + 1) 1 _ _ (.slice a2 B.length c2') (heap_setCell_same w6 (w.heap.size + 1) 0 _ _ (.slice (some ⟨ga, 0, none⟩) kd ca) ((hb56.block _ hlw1).trans HY5.out)))
  refine bodyPost_ret (v := .tuple #[.agg #[.slice (some ⟨ga, 0, none⟩) kd ca, .slice a2 B.length c2'], .slice a4 L1.length c4, .nilIface]) (by simp [results, Tryz.results25, go_sem, r0, r1]) rfl ⟨_, _, _, rfl, ?_, ?_, ?_, ?_⟩
  · rw [← HI.out]
    have h1 := HOH5.out.below hb56
    have h2 := World.ownsRow.lt h1
    exact Own.mono (ownsRow_setCell_other (ownsRow_setCell_other h1 (fun e => by have h := (h2 _ e).1; dsimp only at h; omega) _) (fun e => by have h := (h2 _ e).1; dsimp only at h; omega) _) (by omega)
  · have h1 := HOB5.out.below hb56
    have h2 := World.ownsRow.lt h1
    exact Batch.Own.mono (ownsRow_setCell_other (ownsRow_setCell_other h1 (fun e => by have h := (h2 _ e).1; dsimp only at h; omega) _) (fun e => by have h := (h2 _ e).1; dsimp only at h; omega) _) (by omega)
  · have h2 := World.ownsRow.lt hv
    exact Batch.Own.mono (ownsRow_setCell_other (ownsRow_setCell_other hv (fun e => by have h := (h2 _ e).1; simp at h; omega) _) (fun e => by have h := (h2 _ e).1; simp at h; omega) _) (by simp; omega)
  · exact ((HB5.out.trans (hb56.mono (by omega))).setCell (p := ⟨w.heap.size + 1, 0, none⟩) (Nat.le_succ _) _).setCell (p := ⟨w.heap.size + 1, 1, none⟩) (Nat.le_succ _) _
end Go.Proofs.YtlkljeedlkbkgaaGreatDoor.Cl
