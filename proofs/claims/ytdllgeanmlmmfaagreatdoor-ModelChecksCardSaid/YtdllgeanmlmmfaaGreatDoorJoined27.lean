/-
  PACKAGE marchlandref07: Find.
  PACKAGE claim: Find of an Id that there isn't; marchlandlaw07: hand: which handle an act speaks of.
  PACKAGE model: change, of an Open of a handle that there isn't. (gen/mdops.py)
-/
import Derived.Test.YtdllgeanmlmmfaaGreatDoorJoined9
import Derived.Deep.Cut
import Derived.Deep.QuietTactic
import Derived.BigQuiet
import Derived.Test.YtdllgeanmlmmfaaGreatDoorMdAdv
namespace Go.Proofs.YtdllgeanmlmmfaaGreatDoor.Cl
open Go.RowKit Gr
set_option linter.unusedVariables false

/-- The document's place of an Id; -1: there is none. -/
def refIdx (H : List Ed) (id : Int) : Int := if hasB H id = true then (idx H id : Int) else -1
theorem refIdx_yes {H : List Ed} {id : Int} (h : hasB H id = true) : refIdx H id = (idx H id : Int) := if_pos h
theorem refIdx_no {H : List Ed} {id : Int} (h : hasB H id = false) : refIdx H id = -1 := if_neg (by rw [h]; decide)
theorem refIdx_at {H : List Ed} (hr : Rise H) {id : Int} {i : Nat} {x : Ed} (hx : H[i]? = some x) (e : x.f = id) : refIdx H id = (i : Int) := by
  have hh := has_at hx e
  obtain ⟨y, hy, _, e2⟩ := at_has hr hh
  rw [refIdx_yes hh, rise_same hr hy hx (by omega)]
end Go.Proofs.YtdllgeanmlmmfaaGreatDoor.Cl
namespace Go.Proofs.YtdllgeanmlmmfaaGreatDoor.Cl
open Go.RowKit Gr
set_option linter.unusedVariables false
set_option maxRecDepth 1000000 in
set_option maxHeartbeats 8000000 in
theorem find_no {w : World} {v vb : Value} {l : List Ed} (p : Int) (hv : Sl w v l) (hr : Rise l) (hl : l.length ≤ 100000) (hh : hasB l p = false) :
    Calls Tryz.prog 98 #[.agg #[v, vb], .int .i64 p] w fun e w' => e = .returned (.tuple #[.agg #[.int .i64 0, .int .i64 0, .int .u64 0], .bool false]) ∧ Below w.heap.size w w' := by
  have HP := Lib.hid (fun W h => place_any (w := W) (vb := vb) (l := l) (v := v) p h hr hl)
  have HV := Lib.hid hv
  have HH := Lib.hid hh
  obtain ⟨w0, hw0⟩ : ∃ w0, w0 = (w.alloc (.cells #[v, vb] 60)).alloc (.cells #[.int .i64 0, .int .i64 0, .int .u64 0] 107) := ⟨_, rfl⟩
  have hb0 : Below w.heap.size w w0 := by rw [hw0]; exact ((Below.refl _ _).alloc (Nat.le_refl _) _).alloc (by simp) _
  have hs0 : w0.heap.size = w.heap.size + 1 + 1 := by rw [hw0]; simp
  have hx0 : w0.heap[w.heap.size]? = some (.cells #[v, vb] 60 (0, 0)) := by
    rw [hw0, heap_alloc_old _ _ (by simp)]; exact heap_alloc_new w _
  have hy0 : w0.heap[w.heap.size + 1]? = some (.cells #[.int .i64 0, .int .i64 0, .int .u64 0] 107 (0, 0)) := by
    rw [hw0]; have := heap_alloc_new (w.alloc (.cells #[v, vb] 60)) (.cells #[.int .i64 0, .int .i64 0, .int .u64 0] 107); simpa using this
  have HX := Lib.hid hx0
  have HY := Lib.hid hy0
  have HB0 := Lib.hid hb0
  have HS0 := Lib.hid hs0
  obtain ⟨ao, cap, e1, _⟩ := hv
  subst e1
  clear hb0 hs0 hx0 hy0 hh hr
  go_enter Tryz.func98, Tryz.ntmps98
  go_wp2_with fail
  go_at_call 100
  rw [← hw0]
  clear hw0
  refine (HP.out w0 (HV.out.below HB0.out)).mono ?_
  rw [HH.out]
  rintro e w1 ⟨rfl, hb⟩
  have hlt0 : w.heap.size < w0.heap.size := by have := HS0.out; omega
  have hlt1 : w.heap.size + 1 < w0.heap.size := by have := HS0.out; omega
  obtain ⟨x0, x1, _⟩ := pair_cells ((hb.block _ hlt0).trans HX.out)
  obtain ⟨y0, y1, y2, yf⟩ := trip_cells ((hb.block _ hlt1).trans HY.out)
  have yf0 := yf 0
  have yf1 := yf 1
  have yf2 := yf 2
  have HB1 := Lib.hid (HB0.out.trans (hb.mono HB0.out.size))
  have HR := Lib.hid (trip_cells (heap_setCell_same _ (w.heap.size + 1) 2 _ _ (.int .u64 0) (heap_setCell_same _ (w.heap.size + 1) 1 _ _ (.int .i64 0) (heap_setCell_same w1 (w.heap.size + 1) 0 _ _ (.int .i64 0) ((hb.block _ hlt1).trans HY.out)))))
  clear hb yf hlt0 hlt1
  go_wp2_with fail
  obtain ⟨r0, r1, r2, _⟩ := HR.out
  refine bodyPost_ret (v := .tuple #[.agg #[.int .i64 0, .int .i64 0, .int .u64 0], .bool false]) (by simp [results, Tryz.results98, go_sem, r0, r1, r2]) rfl ⟨rfl, ?_⟩
  exact ((HB1.out.setCell (p := ⟨w.heap.size + 1, 0, none⟩) (Nat.le_succ _) _).setCell (p := ⟨w.heap.size + 1, 1, none⟩) (Nat.le_succ _) _).setCell (p := ⟨w.heap.size + 1, 2, none⟩) (Nat.le_succ _) _
/-- Which handle an act speaks of. -/
def handId (H : List Ed) (n : Int) : Int := if n < 0 ∨ H = [] then 100000 else ((H[(n % (H.length : Int)).toNat]?).map (·.f)).getD 0
end Go.Proofs.YtdllgeanmlmmfaaGreatDoor.Cl
namespace Go.Proofs.YtdllgeanmlmmfaaGreatDoor.Md
open Go.RowKit Gr Cl Fault
set_option linter.unusedVariables false
set_option linter.unusedSimpArgs false
set_option maxRecDepth 1000000 in
set_option maxHeartbeats 16000000 in
theorem mdOpenStale_any {w : World} {b : Nat} {vh vb : Value} {H : List Ed} {B : List Batch.Ch} (hd : Int) (ho : Cl.OwnAt w vh vb H B) (hr : Rise H) (hl : H.length ≤ 100000) (hno : hasB H hd = false) :
    Calls Tryz.prog 72 #[.pointer (some ⟨b, 0, none⟩), .agg #[vh, vb], .int .i64 hd] w fun e w' => ∃ a1 n1 c1 a2 n2 c2 u x, e = .returned (.tuple #[.agg #[.slice a1 n1 c1, .slice a2 n2 c2], .slice none 0 0, .int .i64 0, .iface u x]) ∧ ErrIs w' (.iface u x) ([], 7) ∧ Below w.heap.size w w' := by
  obtain ⟨ah, ch, e1, _⟩ := id ho.hands
  obtain ⟨ab, cb, e2, _⟩ := id ho.held
  subst e1 e2
  obtain ⟨w1, hw1⟩ : ∃ w1, w1 = (w.alloc (.cells #[.slice ah H.length ch, .slice ab B.length cb] 60)).alloc (.cells #[.slice none 0 0, .slice none 0 0] 60) := ⟨_, rfl⟩
  have hb1 : Below w.heap.size w w1 := by rw [hw1]; exact ((Below.refl _ _).alloc (Nat.le_refl _) _).alloc (by simp) _
  have HX := Lib.hid (show w1.heap[w.heap.size]? = some (.cells #[.slice ah H.length ch, .slice ab B.length cb] 60 (0, 0)) by rw [hw1, heap_alloc_old _ _ (by simp)]; exact heap_alloc_new w _)
  have HZ := Lib.hid (show w1.heap[w.heap.size + 1]? = some (.cells #[.slice none 0 0, .slice none 0 0] 60 (0, 0)) by
    rw [hw1]; have h := heap_alloc_new (w.alloc (.cells #[.slice ah H.length ch, .slice ab B.length cb] 60)) (.cells #[.slice none 0 0, .slice none 0 0] 60); simpa using h)
  have HS1 := Lib.hid (show w1.heap.size = w.heap.size + 1 + 1 by rw [hw1]; simp)
  have HB1 := Lib.hid hb1
  have HF := Lib.hid (find_no (vb := .slice ab B.length cb) hd (ho.hands.below hb1) hr hl hno)
  obtain ⟨x0, x1, _⟩ := pair_cells HX.out
  clear hb1 ho hr hl hno
  go_enter Tryz.func72, Tryz.ntmps72
  go_upto_region 1 with fail
  rw [← hw1]
  clear hw1
  go_wp2_with fail
  go_at_call 98
  refine HF.out.mono ?_
  rintro e w2 ⟨rfl, hb⟩
  obtain ⟨w3, hw3⟩ : ∃ w3, w3 = w2.alloc (.cells #[.int .i64 0, .int .i64 0, .int .u64 0] 107) := ⟨_, rfl⟩
  have hb3 : Below w1.heap.size w1 w3 := hb.trans (by rw [hw3]; exact (Below.refl _ _).alloc hb.size _)
  have hl0 : w.heap.size < w1.heap.size := by have := HS1.out; omega
  have hl1 : w.heap.size + 1 < w1.heap.size := by have := HS1.out; omega
  obtain ⟨y0, y1, _⟩ := pair_cells ((hb3.block _ hl0).trans HX.out)
  have hz3 := (hb3.block _ hl1).trans HZ.out
  obtain ⟨z0, z1, zf⟩ := pair_cells hz3
  have zf0 := zf 0
  have zf1 := zf 1
  have HR := Lib.hid (pair_cells (heap_setCell_same _ (w.heap.size + 1) 1 _ _ (.slice ab B.length cb) (heap_setCell_same _ (w.heap.size + 1) 0 _ _ (.slice ah H.length ch) hz3)))
  have HB3 := Lib.hid (HB1.out.trans (hb3.mono HB1.out.size))
  clear x0 x1 hb hb3 hl0 hl1 hz3 zf
  go_upto_region 3 with fail
  rw [← hw3]
  clear hw3
  go_wp2_with fail
  obtain ⟨r0, r1, _⟩ := HR.out
  refine bodyPost_ret (v := .tuple #[.agg #[.slice ah H.length ch, .slice ab B.length cb], .slice none 0 0, .int .i64 0, Fault.errnoV 7]) (by simp [results, Tryz.results72, go_sem, r0, r1, Fault.errnoV]) rfl ⟨_, _, _, _, _, _, _, _, rfl, ErrIs.some (by decide) rfl, ?_⟩
  exact (HB3.out.setCell (p := ⟨w.heap.size + 1, 0, none⟩) (Nat.le_succ _) _).setCell (p := ⟨w.heap.size + 1, 1, none⟩) (Nat.le_succ _) _
section
variable {τ : Nat → Nat} {w : World} {b i : Nat} {c : Mc} {tv : List Tv} {s : Ms} {x : Th}
set_option maxRecDepth 1000000 in
set_option maxHeartbeats 16000000 in
theorem mdOpS_any (h : MdAt τ w b c tv s) (hx : s.th[i]? = some x) (hnc : s.cl = false) (hET : Fault.ErrType w) (hd p t : Int) (la : Option Addr) (ln lc : Nat) (y : Int)
    (hP : Rise x.H) (hl : x.H.length ≤ 1000) (hno : hasB x.H hd = false) :
    Calls Tryz.prog 40 #[.pointer (some ⟨b, 0, none⟩), .agg #[.int .i64 0, .int .i64 (i : Int), .int .i64 hd, .int .i64 p, .int .u64 t, .slice la ln lc, .int .i64 y]] w (AnP τ w b ((0, 7), s)) := by
  obtain ⟨g', tt, hth', tg, ht, hT, hgl, hic, d0, d1, d2, d3, df⟩ := h.thr_at hx
  obtain ⟨⟨ha, hn, hc⟩, ⟨ba, bn, bc⟩, so, sr⟩ := tt
  obtain ⟨w1, hw1⟩ : ∃ w1, w1 = (w.alloc (.cells #[.int .i64 0, .int .i64 (i : Int), .int .i64 hd, .int .i64 p, .int .u64 t, .slice la ln lc, .int .i64 y] 53)).alloc (.cells #[.int .i64 0, .int .i64 0, .slice none 0 0] 48) := ⟨_, rfl⟩
  have hb1 : Below w.heap.size w w1 := by rw [hw1]; exact ((Below.refl _ _).alloc (Nat.le_refl _) _).alloc (by simp) _
  have HXO := Lib.hid (show w1.heap[w.heap.size]? = some (.cells #[.int .i64 0, .int .i64 (i : Int), .int .i64 hd, .int .i64 p, .int .u64 t, .slice la ln lc, .int .i64 y] 53 (0, 0)) by rw [hw1, heap_alloc_old _ _ (by simp)]; exact heap_alloc_new w _)
  have HZ := Lib.hid (show w1.heap[w.heap.size + 1]? = some (.cells #[.int .i64 0, .int .i64 0, .slice none 0 0] 48 (0, 0)) by
    rw [hw1]; have h := heap_alloc_new (w.alloc (.cells #[.int .i64 0, .int .i64 (i : Int), .int .i64 hd, .int .i64 p, .int .u64 t, .slice la ln lc, .int .i64 y] 53)) (.cells #[.int .i64 0, .int .i64 0, .slice none 0 0] 48); simpa using h)
  have HS1 := Lib.hid (show w1.heap.size = w.heap.size + 1 + 1 by rw [hw1]; simp)
  have HM := Lib.hid (h.below hb1)
  have HB1 := Lib.hid hb1
  have HX := Lib.hid hx
  have HTH := Lib.hid hth'
  have HTT := Lib.hid ht
  have HTG := Lib.hid tg
  have HET := Lib.hid hET
  have HG0 := Lib.hid hgl
  have HN := Lib.hid (show w.heap.size < w1.heap.size ∧ w.heap.size + 1 < w1.heap.size ∧ g' < w1.heap.size by rw [HS1.out]; omega)
  have t0 : τ (w.heap.size + 1) = 0 := Classical.byContradiction fun h' => by have := h.tz _ h'; omega
  have HT0 := Lib.hid t0
  have HK := Lib.hid (And.intro ((hb1.cell (p := ⟨g', i * 4, none⟩) hgl).trans d0) ((hb1.cell (p := ⟨g', i * 4 + 1, none⟩) hgl).trans d1))
  have k8 := (h.below hb1).mc.c8
  rw [h.cl, hnc] at k8
  have k3 := (h.below hb1).mc.c3
  rw [hth'] at k3
  obtain ⟨x0, x1, x2, x3, x4, x5, x6⟩ := cells7 HXO.out
  have q0 : (0 : Int) ≤ (i : Int) := Int.natCast_nonneg _
  have q1 : (i : Int) < (c.n : Int) := by omega
  have HFIN := Lib.hid (fun (n er : Int) (s' : Ms) (W : World) (V : (Int × Int) × Ms) (hV : V = ((n, er), s')) (hP : MdP τ w1 b s' W) (hz : W.heap[w.heap.size + 1]? = w1.heap[w.heap.size + 1]?) => calls2 HZ.out HB1.out (Nat.le_succ _) HN.out.2.1 HT0.out hV hP hz)
  have HCL := Lib.hid (fun W vh vb (ho : Cl.OwnAt W vh vb x.H x.B) => mdOpenStale_any (b := b) hd ho hP (by omega) hno)
  clear h hb1 hx hth' tg ht hT hgl hic d0 d1 d2 d3 df hET t0 hnc hP hl hno
  go_enter Tryz.func40, Tryz.ntmps40
  go_upto_region 1 with fail
  rw [← hw1]
  clear hw1
  go_wp2_with fail
  go_quiet (fail)
  obtain ⟨w2, hw2⟩ : ∃ w2, w2 = w1.drewN nq := ⟨_, rfl⟩
  rw [← hw2]
  have hb12 : Below w1.heap.size w1 w2 := by rw [hw2]; exact below_drewN (Below.refl _ _) nq
  have hs12 : w2.heap.size = w1.heap.size := by rw [hw2]; rfl
  obtain ⟨w3, hw3⟩ : ∃ w3, w3 = w2.alloc (.cells #[.slice none 0 0, .slice none 0 0] 60) := ⟨_, rfl⟩
  have hb23 : Below w2.heap.size w2 w3 := by rw [hw3]; exact (Below.refl _ _).alloc (Nat.le_refl _) _
  have hb13 := hb12.trans (hb23.mono (Nat.le_of_eq hs12.symm))
  have HB13 := Lib.hid hb13
  have hsz2 : w2.heap.size = w.heap.size + 1 + 1 := by rw [hs12, HS1.out]
  have HZ3 := Lib.hid (show w3.heap[w.heap.size + 1 + 1]? = some (.cells #[.slice none 0 0, .slice none 0 0] 60 (0, 0)) by rw [hw3, ← hsz2]; exact heap_alloc_new w2 _)
  have HL3 := Lib.hid (show w.heap.size + 1 + 1 < w3.heap.size by rw [hw3]; simp [hsz2])
  have hxo3 := (hb13.block _ HN.out.1).trans HXO.out
  obtain ⟨_, _, y0, _, y1, _, _⟩ := cells7 hxo3
  obtain ⟨o0, o1, o2, o3, o4, o5, o6⟩ := cells7 ((hb12.block _ HN.out.1).trans HXO.out)
  have y2 := (hb13.cell (p := ⟨g', i * 4, none⟩) HN.out.2.2).trans HK.out.1
  have y3 := (hb13.cell (p := ⟨g', i * 4 + 1, none⟩) HN.out.2.2).trans HK.out.2
  unfold Sx.val at y2 y3
  have HY := Lib.hid (And.intro y0 (And.intro y1 (And.intro y2 y3)))
  have HM3 := Lib.hid (HM.out.below hb13)
  have HOA := Lib.hid (show Cl.OwnAt w3.drew (.slice ha hn hc) (.slice ba bn bc) x.H x.B from ⟨(HM3.out.below (below_drewN (Below.refl w3.heap.size w3) 1)).thr i _ x HTT.out HX.out |>.hs.out, (HM3.out.below (below_drewN (Below.refl w3.heap.size w3) 1)).thr i _ x HTT.out HX.out |>.bs.out⟩)
  have hnn : w.heap.size + 1 + 1 ≠ w.heap.size := by omega
  have hgo : w.heap.size + 1 + 1 ≠ g' := by have := HN.out.2.2; have := HG0.out; omega
  clear x0 x1 x2 x3 x4 x5 x6 k3 k8 hb12 hs12 hb23 hb13 hxo3 hw2
  go_upto_region 10 with fail
  rw [← hw3]
  clear hw3 hsz2 o0 o1 o2 o3 o4 o5 o6
  refine wp_region_held_drew (S := (fun w' => w'.cell? ⟨w.heap.size, 2, none⟩ = some (.int .i64 hd) ∧ w'.cell? ⟨g', i * 4, none⟩ = some (.slice ha hn hc) ∧ w'.cell? ⟨g', i * 4 + 1, none⟩ = some (.slice ba bn bc))) (by kernel_rfl) ?_ (fun hHeld => ?_)
  · ((try dsimp only); exact ⟨y0, y2, y3⟩)
  refine wpAnyH_take (i := 0) (v := ?_) rfl (by kernel_rfl) (by kernel_rfl) (by kernel_rfl) (fun _ _ _ h => h) (Or.inl ⟨by rfl, ?_⟩) (by assumption) ?_
  rotate_left 1
  · (intro w hSw; (try dsimp only at hSw); first | (go_simp; done) | (go_simp; with_reducible rfl))
  try simp only [Act.put, List.setIfInBounds_toArray, List.set_cons_zero, List.set_cons_succ, List.getElem_toArray, List.getElem_cons_zero]
  refine wpAnyH_take (i := 1) (v := ?_) rfl (by kernel_rfl) (by kernel_rfl) (by kernel_rfl) (fun _ _ _ h => h) (Or.inl ⟨by rfl, ?_⟩) (by assumption) ?_
  rotate_left 1
  · (intro w hSw; (try dsimp only at hSw); first | (go_simp; done) | (go_simp; with_reducible rfl))
  try simp only [Act.put, List.setIfInBounds_toArray, List.set_cons_zero, List.set_cons_succ, List.getElem_toArray, List.getElem_cons_zero, List.getElem_cons_succ]
  refine wpAnyH_take (i := 2) (v := ?_) rfl (by kernel_rfl) (by kernel_rfl) (by kernel_rfl) (fun _ _ _ h => h) (Or.inl ⟨by rfl, ?_⟩) (by assumption) ?_
  rotate_left 1
  · (intro w hSw; (try dsimp only at hSw); first | (go_simp; done) | (go_simp; with_reducible rfl))
  try simp only [Act.put, List.setIfInBounds_toArray, List.set_cons_zero, List.set_cons_succ, List.getElem_toArray, List.getElem_cons_zero, List.getElem_cons_succ]
  refine wpAnyH_take (i := 3) (v := ?_) rfl (by kernel_rfl) (by kernel_rfl) (by kernel_rfl) (fun _ _ _ h => h) (Or.inl ⟨by rfl, ?_⟩) (by assumption) ?_
  rotate_left 1
  · (intro w hSw; (try dsimp only at hSw); first | (go_simp; done) | (go_simp; with_reducible rfl))
  try simp only [Act.put, List.setIfInBounds_toArray, List.set_cons_zero, List.set_cons_succ, List.getElem_toArray, List.getElem_cons_zero, List.getElem_cons_succ]
  refine wpAnyH_take (i := 4) (v := ?_) rfl (by kernel_rfl) (by kernel_rfl) (by kernel_rfl) (fun _ _ _ h => h) (Or.inl ⟨by rfl, ?_⟩) (by assumption) ?_
  rotate_left 1
  · (intro w hSw; (try dsimp only at hSw); first | (go_simp; done) | (go_simp; with_reducible rfl))
  try simp only [Act.put, List.setIfInBounds_toArray, List.set_cons_zero, List.set_cons_succ, List.getElem_toArray, List.getElem_cons_zero, List.getElem_cons_succ]
  refine wpAnyH_take (i := 5) (v := ?_) rfl (by kernel_rfl) (by kernel_rfl) (by kernel_rfl) (fun _ _ _ h => h) (Or.inl ⟨by rfl, ?_⟩) (by assumption) ?_
  rotate_left 1
  · (intro w hSw; (try dsimp only at hSw); first | (go_simp; done) | (go_simp; with_reducible rfl))
  try simp only [Act.put, List.setIfInBounds_toArray, List.set_cons_zero, List.set_cons_succ, List.getElem_toArray, List.getElem_cons_zero, List.getElem_cons_succ]
  refine wpAnyH_take (i := 6) (v := ?_) rfl (by kernel_rfl) (by kernel_rfl) (by kernel_rfl) (fun _ _ _ h => h) (Or.inl ⟨by rfl, ?_⟩) (by assumption) ?_
  rotate_left 1
  · (intro w hSw; (try dsimp only at hSw); first | (go_simp; done) | (go_simp; with_reducible rfl))
  try simp only [Act.put, List.setIfInBounds_toArray, List.set_cons_zero, List.set_cons_succ, List.getElem_toArray, List.getElem_cons_zero, List.getElem_cons_succ]
  refine wpAnyH_ready (rs := [7]) (by kernel_rfl) (by simp) ?_
  refine AllReadyH.cons rfl (fun K hK => ?_) AllReadyH.nil
  go_simp
  go_at_call 72
  refine (HCL.out w3.drew (.slice ha hn hc) (.slice ba bn bc) HOA.out).mono ?_
  rintro e w4 ⟨a1, n1, c1, a2, n2, c2, u, xx, rfl, her, hb⟩
  have hb34 : Below w3.heap.size w3 w4 := (below_drewN (Below.refl w3.heap.size w3) 1).trans hb
  have HB34 := Lib.hid hb34
  have hz4 := (hb34.block _ HL3.out).trans HZ3.out
  obtain ⟨v0, v1, vf⟩ := pair_cells hz4
  have vf0 := vf 0
  have vf1 := vf 1
  have HZ4 := Lib.hid hz4
  have HER := Lib.hid her
  clear her hb hz4 vf
  try go_wp2_with fail
  refine hK.out _ _ ?_ (fun hHeld => ?_)
  · ((try dsimp only); exact ⟨(hb34.cell (p := ⟨w.heap.size, 2, none⟩) (Lib.lt_of_cell HY.out.1)).trans HY.out.1, (hb34.cell (p := ⟨g', i * 4, none⟩) (Lib.lt_of_cell HY.out.2.2.1)).trans HY.out.2.2.1, (hb34.cell (p := ⟨g', i * 4 + 1, none⟩) (Lib.lt_of_cell HY.out.2.2.2)).trans HY.out.2.2.2⟩)
  clear hK K
  try simp only [Act.put, List.setIfInBounds_toArray, List.set_cons_zero, List.set_cons_succ, List.getElem_toArray, List.getElem_cons_zero, List.getElem_cons_succ]
  refine wpAnyH_take (i := 8) (v := ?_) rfl (by kernel_rfl) (by kernel_rfl) (by kernel_rfl) (fun _ _ _ h => h) (Or.inl ⟨by rfl, ?_⟩) (by assumption) ?_
  rotate_left 1
  · (intro w hSw; (try dsimp only at hSw); first | (go_simp; done) | (go_simp; with_reducible rfl))
  try simp only [Act.put, List.setIfInBounds_toArray, List.set_cons_zero, List.set_cons_succ, List.getElem_toArray, List.getElem_cons_zero, List.getElem_cons_succ]
  refine wpAnyH_take (i := 9) (v := ?_) rfl (by kernel_rfl) (by kernel_rfl) (by kernel_rfl) (fun _ _ _ h => h) (Or.inl ⟨by rfl, ?_⟩) (by assumption) ?_
  rotate_left 1
  · (intro w hSw; (try dsimp only at hSw); first | (go_simp; done) | (go_simp; with_reducible rfl))
  try simp only [Act.put, List.setIfInBounds_toArray, List.set_cons_zero, List.set_cons_succ, List.getElem_toArray, List.getElem_cons_zero, List.getElem_cons_succ]
  refine wpAnyH_take (i := 10) (v := ?_) rfl (by kernel_rfl) (by kernel_rfl) (by kernel_rfl) (fun _ _ _ h => h) (Or.inl ⟨by rfl, ?_⟩) (by assumption) ?_
  rotate_left 1
  · (intro w hSw; (try dsimp only at hSw); first | (go_simp; done) | (go_simp; with_reducible rfl))
  try simp only [Act.put, List.setIfInBounds_toArray, List.set_cons_zero, List.set_cons_succ, List.getElem_toArray, List.getElem_cons_zero, List.getElem_cons_succ]
  refine wpAnyH_take (i := 11) (v := ?_) rfl (by kernel_rfl) (by kernel_rfl) (by kernel_rfl) (fun _ _ _ h => h) (Or.inl ⟨by rfl, ?_⟩) (by assumption) ?_
  rotate_left 1
  · (intro w hSw; (try dsimp only at hSw); first | (go_simp; done) | (go_simp; with_reducible rfl))
  try simp only [Act.put, List.setIfInBounds_toArray, List.set_cons_zero, List.set_cons_succ, List.getElem_toArray, List.getElem_cons_zero, List.getElem_cons_succ]
  refine wpAnyH_take (i := 12) (v := ?_) rfl (by kernel_rfl) (by kernel_rfl) (by kernel_rfl) (fun _ _ _ h => h) (Or.inl ⟨by rfl, ?_⟩) (by assumption) ?_
  rotate_left 1
  · (intro w hSw; (try dsimp only at hSw); first | (go_simp; done) | (go_simp; with_reducible rfl))
  try simp only [Act.put, List.setIfInBounds_toArray, List.set_cons_zero, List.set_cons_succ, List.getElem_toArray, List.getElem_cons_zero, List.getElem_cons_succ]
  have hH := hHeld
  refine wpAnyH_ready (rs := [13]) (by kernel_rfl) (by simp) ?_
  refine AllReadyH.cons rfl (fun K hK => ?_) AllReadyH.nil
  go_simp
  refine hK.out _ _ ?_ (fun hHeld => ?_)
  · ((try dsimp only); exact ⟨(World.cell?_setCell_far _ _ _ _ hnn).trans ((World.cell?_setCell_far _ _ _ _ hnn).trans hH.1), (World.cell?_setCell_far _ _ _ _ hgo).trans ((World.cell?_setCell_far _ _ _ _ hgo).trans hH.2.1), (World.cell?_setCell_far _ _ _ _ hgo).trans ((World.cell?_setCell_far _ _ _ _ hgo).trans hH.2.2)⟩)
  clear hK K hH
  try simp only [Act.put, List.setIfInBounds_toArray, List.set_cons_zero, List.set_cons_succ, List.getElem_toArray, List.getElem_cons_zero, List.getElem_cons_succ]
  refine wpAnyH_take (i := 14) (v := ?_) rfl (by kernel_rfl) (by kernel_rfl) (by kernel_rfl) (fun _ _ _ h => h) (Or.inl ⟨by rfl, ?_⟩) (by assumption) ?_
  rotate_left 1
  · (intro w hSw; (try dsimp only at hSw); first | (go_simp; done) | (go_simp; with_reducible rfl))
  try simp only [Act.put, List.setIfInBounds_toArray, List.set_cons_zero, List.set_cons_succ, List.getElem_toArray, List.getElem_cons_zero, List.getElem_cons_succ]
  refine wpAnyH_take (i := 15) (v := ?_) rfl (by kernel_rfl) (by kernel_rfl) (by kernel_rfl) (fun _ _ _ h => h) (Or.inl ⟨by rfl, ?_⟩) (by assumption) ?_
  rotate_left 1
  · (intro w hSw; (try dsimp only at hSw); first | (go_simp; done) | (go_simp; with_reducible rfl))
  try simp only [Act.put, List.setIfInBounds_toArray, List.set_cons_zero, List.set_cons_succ, List.getElem_toArray, List.getElem_cons_zero, List.getElem_cons_succ]
  refine wpAnyH_take (i := 16) (v := ?_) rfl (by kernel_rfl) (by kernel_rfl) (by kernel_rfl) (fun _ _ _ h => h) (Or.inl ⟨by rfl, ?_⟩) (by assumption) ?_
  rotate_left 1
  · (intro w hSw; (try dsimp only at hSw); first | (go_simp; done) | (go_simp; with_reducible rfl))
  try simp only [Act.put, List.setIfInBounds_toArray, List.set_cons_zero, List.set_cons_succ, List.getElem_toArray, List.getElem_cons_zero, List.getElem_cons_succ]
  refine wpAnyH_done (by kernel_rfl) ?_ _
  obtain ⟨w5, hw5⟩ : ∃ w5, w5 = (w4.setCell ⟨w.heap.size + 1 + 1, 0, none⟩ (.slice a1 n1 c1)).setCell ⟨w.heap.size + 1 + 1, 1, none⟩ (.slice a2 n2 c2) := ⟨_, rfl⟩
  rw [← hw5]
  have hb15 : Below w1.heap.size w1 w5 := by
    rw [hw5]
    exact ((HB13.out.trans (HB34.out.mono HB13.out.size)).setCell (p := ⟨w.heap.size + 1 + 1, 0, none⟩) (Nat.le_of_eq HS1.out) _).setCell (p := ⟨w.heap.size + 1 + 1, 1, none⟩) (Nat.le_of_eq HS1.out) _
  have hE5 : Fault.Chain w5 (.iface u xx) [] (Fault.errnoV 7) := by
    rcases HER.out with ⟨_, _, h⟩ | ⟨_, h, _⟩
    · simp at h
    · rw [hw5]
      exact chain_setm (slbm_of (heap_setCell_same _ (w.heap.size + 1 + 1) 0 _ _ (.slice a1 n1 c1) HZ4.out)) _ _ _ _ _ (chain_setm (slbm_of HZ4.out) _ _ _ _ _ h)
  have hET5 : Fault.ErrType w5 := ((HB1.out.trans (hb15.mono HB1.out.size)).cell (p := ⟨_, 0, none⟩) (Lib.lt_of_cell HET.out)).trans HET.out
  have HKI := Lib.hid (Fault.kind_errno 7 hET5 hE5)
  have HB15 := Lib.hid hb15
  clear hw5 hb15 hE5 hET5 v0 v1 vf0 vf1 hHeld y0 y1 y2 y3 hb34 hgo hnn
  go_wp2_with fail
  go_at_call 10
  refine HKI.out.mono ?_
  rintro e w6 ⟨rfl, hb6⟩
  have hb16 := HB15.out.trans (hb6.mono HB15.out.size)
  obtain ⟨⟨W3, hW3, r0, r1, r2, hF⟩, z0, z1, z2, zf⟩ := HFIN.out 0 7 s w6 ((0, 7), s) rfl (MdP.same ⟨c, tv, HM.out⟩ hb16) (hb16.block _ HN.out.2.1)
  have zf0 := zf 0
  have zf1 := zf 1
  have zf2 := zf 2
  have HF := Lib.hid hF
  have HW3 := Lib.hid hW3
  clear zf hF hW3 hb16 hb6
  go_wp2_with fail
  rw [HW3.out] at r0 r1 r2
  exact bodyPost_ret (v := .agg #[.int .i64 0, .int .i64 7, .slice none 0 0]) (by simp [results, Tryz.results40, go_sem, r0, r1, r2]) rfl (by have h := HF.out; rw [HW3.out] at h; exact h)
end
end Go.Proofs.YtdllgeanmlmmfaaGreatDoor.Md
