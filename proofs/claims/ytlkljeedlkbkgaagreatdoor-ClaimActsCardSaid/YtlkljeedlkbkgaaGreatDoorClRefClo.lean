/-
  YtlkljeedlkbkgaaGreatDoorClRefClo
-/
import Derived.Test.YtlkljeedlkbkgaaGreatDoorJoined26
import Derived.Test.YtlkljeedlkbkgaaGreatDoorClWith
import Derived.Test.YtlkljeedlkbkgaaGreatDoorJoined12
import Derived.Test.YtlkljeedlkbkgaaGreatDoorJoined4
import Derived.BigQuiet
import Derived.Deep.RegionHeldLaw
namespace Go.Proofs.YtlkljeedlkbkgaaGreatDoor.Cl
open Go.RowKit Gr Go.Proofs.YtlkljeedlkbkgaaGreatDoor.Fault
set_option linter.unusedVariables false
set_option linter.unusedSimpArgs false
theorem step_append_gen {P : Program} (w : World) {ops : Array Oper} {o : Oper} {a : Act} {K : Act → World → Prop} {Q : Exit → Act → World → Prop} {E : Prop} (hgd : o.guard = none) (s x : Operand) (t t2 : TypeId)
    (ho : o.op = .call { callee := .builtin .append, args := #[s, x], argTypes := #[t, t2] })
    (base : Nat) (e e2 : TypeId) (i : TypeInfo) (z : Value) (size bytes : Nat) (ht : P.underlying t = some (.slice e)) (ht2 : P.underlying t2 = some (.slice e2)) (hi : P.info? e = some i) (hz : i.zero = some z)
    (hsize : i.size = size) (hby : i.bytes = bytes) (hzs : z.cells.size = size) (hsz : 0 < size)
    (v : Value) (n : Nat) (xs : List Value) (hs : a.eval s = v) (hown : w.ownsRow base e size v n xs)
    (A : Option Addr) (m c : Nat) (news : List Value) (hx : a.eval x = .slice A m c) (hl : news.length = m * size) (hr : Batch.Src w A m news) (h1 : ∀ u ∈ news, u.oneCell' = true)
    (h63 : n + m ≤ maxLen) (hbytes : (n + m) * bytes ≤ 140737488355328) (hbase : base ≤ w.heap.size)
    (h : ∀ v' w', w'.ownsRow base e size v' (n + m) (xs ++ news) → w.grownBy w' v.ownBlock → (v'.ownBlock = v.ownBlock ∨ v'.ownBlock = some w.heap.size) → K (a.put o.dst v') w') :
    if Region.wanted o (yielded ops a.tmps) = true then Oper.wp P o a w K Q else E := by
  have hw : Region.wanted o (yielded ops a.tmps) = true := by simp [Region.wanted, hgd]
  rw [if_pos hw]
  exact Batch.wp_append_any w s x t t2 ho base e e2 i z size bytes ht ht2 hi hz hsize hby hzs hsz v n xs hs hown A m c news hx hl hr h1 h63 hbytes hbase h
theorem own_form2 {w : World} {base : Nat} {T : TypeId} {size n : Nat} {v : Value} {xs : List Value} (h : w.ownsRow base T size v n xs) : ∃ ao c, v = .slice ao n c := by
  rcases h.2 with ⟨hv, h0⟩ | ⟨g, cap, cur, hv, _⟩
  · exact ⟨none, 0, by rw [hv, h0]⟩
  · exact ⟨_, _, hv⟩
theorem cells_take (H : List Ed) (i : Nat) : (Gr.cellsL H).take (i * 3) = Gr.cellsL (H.take i) := by
  induction H generalizing i with
  | nil => simp [Gr.cellsL]
  | cons x r ih =>
    have e : ∀ q, Gr.cellsL (x :: q) = .int .i64 x.f :: .int .i64 x.t :: .int .u64 x.a :: Gr.cellsL q := fun _ => rfl
    cases i with
    | zero => simp [Gr.cellsL]
    | succ k => rw [e, show (k + 1) * 3 = k * 3 + 1 + 1 + 1 by omega, List.take_succ_cons, List.take_succ_cons, List.take_succ_cons, ih, List.take_succ_cons, e]
theorem cells_drop (H : List Ed) (i : Nat) : (Gr.cellsL H).drop (i * 3) = Gr.cellsL (H.drop i) := by
  induction H generalizing i with
  | nil => simp [Gr.cellsL]
  | cons x r ih =>
    have e : ∀ q, Gr.cellsL (x :: q) = .int .i64 x.f :: .int .i64 x.t :: .int .u64 x.a :: Gr.cellsL q := fun _ => rfl
    cases i with
    | zero => simp
    | succ k => rw [e, show (k + 1) * 3 = k * 3 + 1 + 1 + 1 by omega, List.drop_succ_cons, List.drop_succ_cons, List.drop_succ_cons, ih, List.drop_succ_cons]
theorem sl_cells {w : World} {b off n cap : Nat} {H : List Ed} (h : Sl w (.slice (some ⟨b, off, none⟩) n cap) H) : ∀ j u, (Gr.cellsL H)[j]? = some u → w.cell? ⟨b, off + j, none⟩ = some u := by
  intro j u hu
  have hj : j < H.length * 3 := by rw [← Gr.cellsL_length]; exact (List.getElem?_eq_some_iff.1 hu).1
  have hi : j / 3 < H.length := by omega
  have hx : H[j / 3]? = some H[j / 3] := List.getElem?_eq_getElem hi
  obtain ⟨ao, cp, hv, hc, _⟩ := h
  simp only [Value.slice.injEq] at hv
  obtain ⟨rfl, rfl, rfl⟩ := hv
  obtain ⟨b', off', he, hcc⟩ := hc.resolve_left (fun e => by rw [e.2] at hi; simp at hi)
  simp only [Option.some.injEq, Addr.mk.injEq, and_true] at he
  obtain ⟨rfl, rfl⟩ := he
  obtain ⟨c0, c1, c2⟩ := hcc _ _ hx
  have hdj : (Gr.cellsL H).drop (j / 3 * 3) = Gr.cellsL (H.drop (j / 3)) := cells_drop H (j / 3)
  have hd0 : H.drop (j / 3) = H[j / 3] :: H.drop (j / 3 + 1) := List.drop_eq_getElem_cons hi
  have hu2 : ((Gr.cellsL H).drop (j / 3 * 3))[j % 3]? = some u := by
    rw [List.getElem?_drop, show j / 3 * 3 + j % 3 = j by omega]; exact hu
  rw [hdj, hd0] at hu2
  have e : ∀ (z : Ed) q, Gr.cellsL (z :: q) = .int .i64 z.f :: .int .i64 z.t :: .int .u64 z.a :: Gr.cellsL q := fun _ _ => rfl
  rw [e] at hu2
  have hm : j % 3 = 0 ∨ j % 3 = 1 ∨ j % 3 = 2 := by omega
  rcases hm with hm | hm | hm
  · rw [hm] at hu2
    simp at hu2
    rw [← hu2, show off + j = off + j / 3 * 3 by omega]; exact c0
  · rw [hm] at hu2
    simp at hu2
    rw [← hu2, show off + j = off + j / 3 * 3 + 1 by omega]; exact c1
  · rw [hm] at hu2
    simp at hu2
    rw [← hu2, show off + j = off + j / 3 * 3 + 2 by omega]; exact c2
set_option maxRecDepth 1000000 in
set_option maxHeartbeats 8000000 in
theorem refclose_ok {w : World} {vh vb : Value} {H : List Ed} {B : List Batch.Ch} {x : Ed} (id : Int) (hH : Sl w vh H) (hB : Batch.Sl w vb B) (hr : Rise H) (hl : H.length ≤ 10000) (hyes : hasB H id = true) (hx : H[idx H id]? = some x) :
    Calls Tryz.prog 34 #[.agg #[vh, vb], .int .i64 id] w fun e w' => ∃ vh' v, e = .returned (.tuple #[.agg #[vh', vb], v, .slice none 0 0, .int .i64 0]) ∧ Own w' w.heap.size 50 vh' (H.eraseIdx (idx H id)) ∧ Batch.Own w' w.heap.size 67 v [⟨x.t, x.a, -1⟩] ∧ Below w.heap.size w w' := by
  obtain ⟨i0, hi, hz0, hz1, hz2⟩ := info_parts infoRH
  have HH := Lib.hid hH
  have HXX := Lib.hid hx
  have HN := Lib.hid (refIdx_yes hyes)
  have HRR := Lib.hid hr
  have HLL := Lib.hid hl
  obtain ⟨ah, ch, e1, _, hlc, hcm, _⟩ := hH
  obtain ⟨ab, cb, e2, _⟩ := hB
  have HCP := Lib.hid (And.intro hlc hcm)
  subst e1 e2
  obtain ⟨w0, hw0⟩ : ∃ w0, w0 = (w.alloc (.cells #[.slice ah H.length ch, .slice ab B.length cb] 29)).alloc (.cells #[.slice none 0 0, .slice none 0 0] 29) := ⟨_, rfl⟩
  have hb0 : Below w.heap.size w w0 := by rw [hw0]; exact ((Below.refl _ _).alloc (Nat.le_refl _) _).alloc (by simp) _
  have hs0 : w0.heap.size = w.heap.size + 1 + 1 := by rw [hw0]; simp
  have hx0 : w0.heap[w.heap.size]? = some (.cells #[.slice ah H.length ch, .slice ab B.length cb] 29 (0, 0)) := by rw [hw0, heap_alloc_old _ _ (by simp)]; exact heap_alloc_new w _
  have hy0 : w0.heap[w.heap.size + 1]? = some (.cells #[.slice none 0 0, .slice none 0 0] 29 (0, 0)) := by
    rw [hw0]; have := heap_alloc_new (w.alloc (.cells #[.slice ah H.length ch, .slice ab B.length cb] 29)) (.cells #[.slice none 0 0, .slice none 0 0] 29); simpa using this
  have HX := Lib.hid hx0
  have HY := Lib.hid hy0
  have HB := Lib.hid hb0
  have HS := Lib.hid hs0
  obtain ⟨x0, x1, _⟩ := pair_cells hx0
  clear hb0 hx0 hy0 hs0 hyes hr hx hl hlc hcm
  go_enter Tryz.func34, Tryz.ntmps34
  go_upto_region 1 with fail
  rw [← hw0]
  clear hw0
  go_wp2_with fail
  go_at_call 12
  refine (reffind_any id (HH.out.below HB.out) HRR.out).mono ?_
  rw [HN.out]
  rintro e w1 ⟨rfl, hb⟩
  replace HX := Lib.hid ((hb.block _ (by have := HS.out; omega)).trans HX.out)
  replace HY := Lib.hid ((hb.block _ (by have := HS.out; omega)).trans HY.out)
  replace HB := Lib.hid (HB.out.trans (hb.mono HB.out.size))
  clear hb x0 x1
  have hi0 : (0 : Int) ≤ (idx H id : Int) := Int.natCast_nonneg _
  obtain ⟨ix, hix⟩ : ∃ ix, ix = idx H id := ⟨_, rfl⟩
  rw [← hix] at HXX hi0
  rw [← hix]
  have HIX := Lib.hid hix
  clear hix
  have hil := (List.getElem?_eq_some_iff.1 HXX.out).1
  have hi1 : (ix : Int) < (H.length : Int) := by omega
  obtain ⟨qo, qc, qe, qcell, _⟩ := HH.out.below HB.out
  simp only [Value.slice.injEq] at qe
  obtain ⟨rfl, _, rfl⟩ := qe
  obtain ⟨qb, qf, rfl, qcc⟩ := qcell.resolve_left (fun h => by rw [h.2] at hil; simp at hil)
  obtain ⟨c0, c1, c2⟩ := qcc _ x HXX.out
  obtain ⟨xf, xt, xa⟩ := x
  simp only at c0 c1 c2
  have hqb : qb < w.heap.size := by
    obtain ⟨_, _, hv, hc, _⟩ := HH.out
    obtain ⟨b', o', he, hcc⟩ := hc.resolve_left (fun e => by rw [e.2] at hil; simp at hil)
    simp only [Value.slice.injEq] at hv
    have he2 := hv.1.trans he
    simp only [Option.some.injEq, Addr.mk.injEq, and_true] at he2
    obtain ⟨rfl, rfl⟩ := he2
    exact (hcc _ _ HXX.out).lt
  clear qcell qcc
  obtain ⟨x0, x1, _⟩ := pair_cells HX.out
  obtain ⟨M, hM⟩ : ∃ M, M = w1.heap.size := ⟨_, rfl⟩
  obtain ⟨w2, hw2⟩ : ∃ w2, w2 = w1.alloc (.cells #[.int .i64 xf, .int .i64 xt, .int .u64 xa] 50) := ⟨_, rfl⟩
  have hb : Below w1.heap.size w1 w2 := by rw [hw2]; exact (Below.refl _ _).alloc (Nat.le_refl _) _
  have HM := Lib.hid (show w2.heap[M]? = some (.cells #[.int .i64 xf, .int .i64 xt, .int .u64 xa] 50 (0, 0)) by rw [hw2, hM]; exact heap_alloc_new w1 _)
  have HMS := Lib.hid (show w.heap.size + 1 < M by rw [hM]; exact (Array.getElem?_eq_some_iff.1 HY.out).1)
  go_upto_region 6 with fail
  rw [← hw2, ← hM]
  clear hw2 hM x0 x1 c0 c1 c2
  replace HX := Lib.hid ((hb.block _ (Array.getElem?_eq_some_iff.1 HX.out).1).trans HX.out)
  replace HY := Lib.hid ((hb.block _ (Array.getElem?_eq_some_iff.1 HY.out).1).trans HY.out)
  replace HB := Lib.hid (HB.out.trans (hb.mono HB.out.size))
  clear hb
  obtain ⟨x0, x1, _⟩ := pair_cells HX.out
  have hms := HMS.out
  have hlM := (Array.getElem?_eq_some_iff.1 HM.out).1
  have hn1 : ¬ M = w.heap.size + 1 := by omega
  have hn3 : ¬ w.heap.size + 1 = M := by omega
  have hlw1 : w.heap.size + 1 < w2.heap.size := by omega
  have hl1 := HLL.out
  have hc1 := HCP.out.1
  have hc2 := HCP.out.2
  have hi2 : (ix : Int) ≤ (ch : Int) := by omega
  have hi20 : (ix : Int) ≤ (H.length : Int) := by omega
  have hi3 : (0 : Int) ≤ (ix : Int) + 1 := by omega
  have hi4 : (ix : Int) + 1 ≤ (H.length : Int) := by omega
  have hi5 : ((ix : Int) + 1).toNat = ix + 1 := by omega
  have hi6 : IntKind.i64.wrap ((ix : Int) + 1) = (ix : Int) + 1 := by rw [IntKind.wrap_i64]; omega
  have hi7 : ix ≤ H.length := by omega
  have hi8 : ix + 1 ≤ H.length := by omega
  have HSRC := Lib.hid (fun W (hW : Below w2.heap.size w2 W) => show Batch.Src W (some ⟨qb, qf, none⟩) ix (Gr.cellsL (H.take ix)) from .inr ⟨_, rfl, fun j u hu => by
    rw [← cells_take, List.getElem?_take] at hu
    split at hu
    · rw [Addr.add_lit]; exact sl_cells (HH.out.below (HB.out.trans (hW.mono HB.out.size))) j u hu
    · cases hu⟩)
  have HSRCB := Lib.hid (fun W (hW : Below w2.heap.size w2 W) j u (hu : (Gr.cellsL (H.drop (ix + 1)))[j]? = some u) => show W.cell? ⟨qb, qf + (ix + 1) * 3 + j, none⟩ = some u from by
    rw [← cells_drop, List.getElem?_drop] at hu
    have := sl_cells (HH.out.below (HB.out.trans (hW.mono HB.out.size))) _ u hu
    rw [Nat.add_assoc]
    exact this)
  by_cases hce : ch = ix + 1
  · have HSRC2 := Lib.hid (fun W (hW : Below w2.heap.size w2 W) => show Batch.Src W (some ⟨qb, qf, none⟩) (H.length - (ix + 1)) (Gr.cellsL (H.drop (ix + 1))) from .inr ⟨_, rfl, fun j u hu => by
      have h0 : H.drop (ix + 1) = [] := List.drop_eq_nil_of_le (by omega)
      rw [h0] at hu
      simp [Gr.cellsL] at hu⟩)
    have hi9 : (ix : Int) ≤ (ix : Int) + 1 := by omega
    subst hce
    clear hi2
    refine wp_region_held_drew (S := (fun w' => w'.cell? ⟨w.heap.size, 0, none⟩ = some (.slice (some ⟨qb, qf, none⟩) H.length (ix + 1)) ∧ w'.cell? ⟨w.heap.size, 1, none⟩ = some (.slice ab B.length cb))) (by kernel_rfl) ?_ (fun hHeld => ?_)
    · ((try dsimp only); exact ⟨x0, x1⟩)
    refine wpAnyH_take (i := 1) (v := ?_) rfl (by kernel_rfl) (by kernel_rfl) (by kernel_rfl) (fun _ _ _ h => h) (Or.inl ⟨by rfl, ?_⟩) (by assumption) ?_
    rotate_left 1
    · (intro w hSw; (try dsimp only at hSw); first | (go_simp; done) | (go_simp; with_reducible rfl))
    try simp only [Act.put, List.setIfInBounds_toArray, List.set_cons_zero, List.set_cons_succ, List.getElem_toArray, List.getElem_cons_zero, List.getElem_cons_succ]
    refine wpAnyH_take (i := 2) (v := ?_) rfl (by kernel_rfl) (by kernel_rfl) (by kernel_rfl) (fun _ _ _ h => h) (Or.inl ⟨by rfl, ?_⟩) (by assumption) ?_
    rotate_left 1
    · (intro w hSw; (try dsimp only at hSw); first | (go_simp; done) | (go_simp; with_reducible rfl))
    try simp only [Act.put, List.setIfInBounds_toArray, List.set_cons_zero, List.set_cons_succ, List.getElem_toArray, List.getElem_cons_zero, List.getElem_cons_succ]
    refine wpAnyH_take (i := 3) (v := ?_) rfl (by kernel_rfl) (by kernel_rfl) (by kernel_rfl) (fun _ _ _ h => h) (Or.inl ⟨by rfl, ?_⟩) (by assumption) ?_
    rotate_left 1
    · (intro w hSw; (try dsimp only at hSw); first | (go_simp; done) | (go_simp; with_reducible rfl))
    try simp only [Act.put, List.setIfInBounds_toArray, List.set_cons_zero, List.set_cons_succ, List.getElem_toArray, List.getElem_cons_zero, List.getElem_cons_succ]
    refine wpAnyH_take (i := 4) (v := ?_) rfl (by kernel_rfl) (by kernel_rfl) (by kernel_rfl) (fun _ _ _ h => h) (Or.inl ⟨by rfl, ?_⟩) (by assumption) ?_
    rotate_left 1
    · (intro w hSw; (try dsimp only at hSw); first | (go_simp; done) | (go_simp; with_reducible rfl))
    try simp only [Act.put, List.setIfInBounds_toArray, List.set_cons_zero, List.set_cons_succ, List.getElem_toArray, List.getElem_cons_zero, List.getElem_cons_succ]
    refine wpAnyH_take (i := 6) (v := ?_) rfl (by kernel_rfl) (by kernel_rfl) (by kernel_rfl) (fun _ _ _ h => h) (Or.inl ⟨by rfl, ?_⟩) (by assumption) ?_
    rotate_left 1
    · (intro w hSw; (try dsimp only at hSw); first | (go_simp; done) | (go_simp; with_reducible rfl))
    try simp only [Act.put, List.setIfInBounds_toArray, List.set_cons_zero, List.set_cons_succ, List.getElem_toArray, List.getElem_cons_zero, List.getElem_cons_succ]
    refine wpAnyH_take (i := 7) (v := ?_) rfl (by kernel_rfl) (by kernel_rfl) (by kernel_rfl) (fun _ _ _ h => h) (Or.inl ⟨by rfl, ?_⟩) (by assumption) ?_
    rotate_left 1
    · (intro w hSw; (try dsimp only at hSw); first | (go_simp; done) | (go_simp; with_reducible rfl))
    try simp only [Act.put, List.setIfInBounds_toArray, List.set_cons_zero, List.set_cons_succ, List.getElem_toArray, List.getElem_cons_zero, List.getElem_cons_succ]
    refine wpAnyH_take (i := 8) (v := ?_) rfl (by kernel_rfl) (by kernel_rfl) (by kernel_rfl) (fun _ _ _ h => h) (Or.inl ⟨by rfl, ?_⟩) (by assumption) ?_
    rotate_left 1
    · (intro w hSw; (try dsimp only at hSw); first | (go_simp; done) | (go_simp; with_reducible rfl))
    try simp only [Act.put, List.setIfInBounds_toArray, List.set_cons_zero, List.set_cons_succ, List.getElem_toArray, List.getElem_cons_zero, List.getElem_cons_succ]
    refine wpAnyH_take (i := 9) (v := ?_) rfl (by kernel_rfl) (by kernel_rfl) (by kernel_rfl) (fun _ _ _ h => h) (Or.inl ⟨by rfl, ?_⟩) (by assumption) ?_
    rotate_left 1
    · (intro w hSw; (try dsimp only at hSw); first | (go_simp; done) | (go_simp; with_reducible rfl))
    try simp only [Act.put, List.setIfInBounds_toArray, List.set_cons_zero, List.set_cons_succ, List.getElem_toArray, List.getElem_cons_zero, List.getElem_cons_succ]
    refine wpAnyH_take (i := 10) (v := ?_) rfl (by kernel_rfl) (by kernel_rfl) (by kernel_rfl) (fun _ _ _ h => h) (Or.inl ⟨by rfl, ?_⟩) (by assumption) ?_
    rotate_left 1
    · (intro w hSw; (try dsimp only at hSw); first | (go_simp; done) | (go_simp; with_reducible rfl))
    try simp only [Act.put, List.setIfInBounds_toArray, List.set_cons_zero, List.set_cons_succ, List.getElem_toArray, List.getElem_cons_zero, List.getElem_cons_succ]
    have hca : Below w2.heap.size w2 (w2.drew.alloc (.cells #[] 50)) := (below_drewN (Below.refl w2.heap.size w2) 1).alloc (Nat.le_refl _) _
    have hr0 : (w2.drew.alloc (.cells #[] 50)).ownsRow w2.heap.size 50 3 (.slice (some ⟨w2.heap.size, 0, none⟩) 0 0) 0 [] := World.ownsRow_lit w2.drew _ 0 (Nat.le_refl _) (by decide) rfl
    refine wpAnyH_ready (rs := [0]) (by kernel_rfl) (by simp) ?_
    refine AllReadyH.cons rfl (fun K hK => ?_) AllReadyH.nil
    go_simp
    try go_wp2_with fail
    refine hK.out _ _ ?_ (fun hHeld => ?_)
    · ((try dsimp only); exact ⟨(hca.cell (p := ⟨w.heap.size, 0, none⟩) (by simp; omega)).trans x0, (hca.cell (p := ⟨w.heap.size, 1, none⟩) (by simp; omega)).trans x1⟩)
    clear hK K
    try simp only [Act.put, List.setIfInBounds_toArray, List.set_cons_zero, List.set_cons_succ, List.getElem_toArray, List.getElem_cons_zero, List.getElem_cons_succ]
    refine wpAnyH_ready (rs := [5]) (by kernel_rfl) (by simp) ?_
    refine AllReadyH.cons rfl (fun K hK => ?_) AllReadyH.nil
    (refine step_append_gen _ (by rfl) _ _ 26 26 (by rfl) w2.heap.size 50 50 i0 _ 3 24 Tryz.underlying26 Tryz.underlying26 hi hz0 hz1 hz2 (by kernel_rfl) (by decide) (.slice (some ⟨w2.heap.size, 0, none⟩) 0 0) 0 [] (by rfl) hr0 (some ⟨qb, qf, none⟩) ix (ix + 1) (Gr.cellsL (H.take ix)) (by rfl) (by first | rfl | (rw [Gr.cellsL_length]; simp; try omega)) (HSRC.out _ hca) (by first | exact Gr.cellsL_one _ | (intro u hu; simp at hu)) (by unfold maxLen; omega) (by omega) hca.size ?_; intro va wa hoa hga hba)
    have hcb := hca.grown hga hca.size (fun k e => by simp [Value.ownBlock] at e; omega)
    have hoa' : wa.ownsRow w2.heap.size 50 3 va ix (Gr.cellsL (H.take ix)) := by simpa using hoa
    obtain ⟨oa, ca, rfl⟩ := own_form2 hoa'
    refine hK.out _ _ ?_ (fun hHeld => ?_)
    · ((try dsimp only); exact ⟨(hcb.cell (p := ⟨w.heap.size, 0, none⟩) (by simp; omega)).trans x0, (hcb.cell (p := ⟨w.heap.size, 1, none⟩) (by simp; omega)).trans x1⟩)
    clear hK K
    try simp only [Act.put, List.setIfInBounds_toArray, List.set_cons_zero, List.set_cons_succ, List.getElem_toArray, List.getElem_cons_zero, List.getElem_cons_succ]
    refine wpAnyH_ready (rs := [11]) (by kernel_rfl) (by simp) ?_
    refine AllReadyH.cons rfl (fun K hK => ?_) AllReadyH.nil
    (refine step_append_gen _ (by rfl) _ _ 26 26 (by rfl) w2.heap.size 50 50 i0 _ 3 24 Tryz.underlying26 Tryz.underlying26 hi hz0 hz1 hz2 (by kernel_rfl) (by decide) (.slice oa ix ca) ix (Gr.cellsL (H.take ix)) (by rfl) hoa' (some ⟨qb, qf, none⟩) 0 0 [] (by rfl) (by first | rfl | (rw [Gr.cellsL_length]; simp; try omega)) (.inr ⟨_, rfl, fun j u hu => by simp at hu⟩) (by first | exact Gr.cellsL_one _ | (intro u hu; simp at hu)) (by unfold maxLen; omega) (by omega) hcb.size ?_; intro vc wc hoc hgc hbc)
    have hcc := hcb.grown hgc hcb.size (fun k e => (World.ownsRow.lt hoa' k e).1)
    have hoc' : wc.ownsRow w2.heap.size 50 3 vc (H.eraseIdx ix).length (Gr.cellsL (H.eraseIdx ix)) := by
      rw [List.length_eraseIdx, if_pos hil, List.eraseIdx_eq_take_drop_succ, Gr.cellsL_append]
      have e : ix + (H.length - (ix + 1)) = H.length - 1 := by omega
      rw [show H.drop (ix + 1) = [] from List.drop_eq_nil_of_le (by omega), show H.length - 1 = ix + 0 by omega]
      exact hoc
    obtain ⟨oc, cc, rfl⟩ := own_form2 hoc'
    refine hK.out _ _ ?_ (fun hHeld => ?_)
    · ((try dsimp only); exact ⟨(hcc.cell (p := ⟨w.heap.size, 0, none⟩) (by simp; omega)).trans x0, (hcc.cell (p := ⟨w.heap.size, 1, none⟩) (by simp; omega)).trans x1⟩)
    clear hK K
    try simp only [Act.put, List.setIfInBounds_toArray, List.set_cons_zero, List.set_cons_succ, List.getElem_toArray, List.getElem_cons_zero, List.getElem_cons_succ]
    refine wpAnyH_take (i := 12) (v := ?_) rfl (by kernel_rfl) (by kernel_rfl) (by kernel_rfl) (fun _ _ _ h => h) (Or.inl ⟨by rfl, ?_⟩) (by assumption) ?_
    rotate_left 1
    · (intro w hSw; (try dsimp only at hSw); first | (go_simp; done) | (go_simp; with_reducible rfl))
    try simp only [Act.put, List.setIfInBounds_toArray, List.set_cons_zero, List.set_cons_succ, List.getElem_toArray, List.getElem_cons_zero, List.getElem_cons_succ]
    refine wpAnyH_done (by kernel_rfl) ?_ _
    replace HX := Lib.hid ((hcc.block _ (Array.getElem?_eq_some_iff.1 HX.out).1).trans HX.out)
    replace HY := Lib.hid ((hcc.block _ (Array.getElem?_eq_some_iff.1 HY.out).1).trans HY.out)
    replace HM := Lib.hid ((hcc.block _ (Array.getElem?_eq_some_iff.1 HM.out).1).trans HM.out)
    replace HB := Lib.hid (HB.out.trans (hcc.mono HB.out.size))
    have HOC := Lib.hid hoc'
    have hs2 : w.heap.size + 1 < w2.heap.size := hlw1
    have hs3 := hcc.size
    clear hoc' hoc hgc hbc hoa hga hba hoa' hca hcb hcc hr0 x0 x1
    obtain ⟨N, hN⟩ : ∃ N, N = (H.eraseIdx ix).length := ⟨_, rfl⟩
    rw [← hN] at HOC
    rw [← hN]
    obtain ⟨x0, x1, _⟩ := pair_cells HX.out
    obtain ⟨m0, m1, m2, _⟩ := trip_cells HM.out
    obtain ⟨y0, y1, yf⟩ := pair_cells HY.out
    have yf0 := yf 0
    have yf1 := yf 1
    clear yf
    have HNN := Lib.hid hN
    clear hN
    have hl5 : w.heap.size < wc.heap.size := by omega
    have hl6 : w.heap.size + 1 < wc.heap.size := by omega
    have hl7 : M < wc.heap.size := by omega
    go_upto_region 7 with fail
    go_region
    go_wp2_with fail
    have h0 : Own wc w2.heap.size 50 (.slice oc N cc) (H.eraseIdx ix) := by unfold Own; rw [← HNN.out]; exact HOC.out
    have hsz : ((wc.setCell ⟨w.heap.size + 1, 0, none⟩ (.slice oc N cc)).setCell ⟨w.heap.size + 1, 1, none⟩ (.slice ab B.length cb)).heap.size = wc.heap.size := by simp [World.setCell]
    obtain ⟨r0, r1, _⟩ := pair_cells (heap_setCell_same _ (w.heap.size + 1) 1 _ _ (.slice ab B.length cb) (heap_setCell_same wc (w.heap.size + 1) 0 _ _ (.slice oc N cc) HY.out))
    have hbz : Below (w.heap.size + 1) wc ((wc.setCell ⟨w.heap.size + 1, 0, none⟩ (.slice oc N cc)).setCell ⟨w.heap.size + 1, 1, none⟩ (.slice ab B.length cb)) := ((Below.refl _ _).setCell (p := ⟨w.heap.size + 1, 0, none⟩) (Nat.le_refl _) _).setCell (p := ⟨w.heap.size + 1, 1, none⟩) (Nat.le_refl _) _
    have h1 := World.ownsRow.lt h0
    have hown : Own ((wc.setCell ⟨w.heap.size + 1, 0, none⟩ (.slice oc N cc)).setCell ⟨w.heap.size + 1, 1, none⟩ (.slice ab B.length cb)) w2.heap.size 50 (.slice oc N cc) (H.eraseIdx ix) := ownsRow_setCell_other (ownsRow_setCell_other h0 (fun e => by have h := (h1 _ e).1; dsimp only at h; omega) _) (fun e => by have h := (h1 _ e).1; dsimp only at h; omega) _
    have HBZ := Lib.hid (HB.out.trans (hbz.mono (Nat.le_succ _)))
    generalize ((wc.setCell ⟨w.heap.size + 1, 0, none⟩ (.slice oc N cc)).setCell ⟨w.heap.size + 1, 1, none⟩ (.slice ab B.length cb)) = w7 at *
    have hc7 : Below w7.heap.size w7 (w7.alloc (.cells #[.int .i64 xt, .int .u64 xa, .int .i64 (-1)] 67)).drew := ((Below.refl _ _).alloc (Nat.le_refl _) _).drew
    have q0 := (hc7.cell (p := ⟨w.heap.size + 1, 0, none⟩) (by dsimp only; omega)).trans r0
    have q1 := (hc7.cell (p := ⟨w.heap.size + 1, 1, none⟩) (by dsimp only; omega)).trans r1
    refine bodyPost_ret (v := .tuple #[.agg #[.slice oc N cc, .slice ab B.length cb], .slice (some ⟨w7.heap.size, 0, none⟩) 1 1, .slice none 0 0, .int .i64 0]) (by simp [results, Tryz.results34, go_sem, q0, q1]) rfl ⟨_, _, rfl, ?_, ?_, ?_⟩
    · rw [← HIX.out]
      exact Own.mono (hown.below hc7) (by omega)
    · exact World.ownsRow_lit w7 _ 1 (by omega) (by decide) rfl
    · exact HBZ.out.trans (hc7.mono HBZ.out.size)
  · have HSRC2 := Lib.hid (fun W (hW : Below w2.heap.size w2 W) => show Batch.Src W (some ⟨qb, qf + (ix + 1) * 3, none⟩) (H.length - (ix + 1)) (Gr.cellsL (H.drop (ix + 1))) from .inr ⟨_, rfl, fun j u hu => by rw [Addr.add_lit]; exact HSRCB.out W hW j u hu⟩)
    refine wp_region_held_drew (S := (fun w' => w'.cell? ⟨w.heap.size, 0, none⟩ = some (.slice (some ⟨qb, qf, none⟩) H.length ch) ∧ w'.cell? ⟨w.heap.size, 1, none⟩ = some (.slice ab B.length cb))) (by kernel_rfl) ?_ (fun hHeld => ?_)
    · ((try dsimp only); exact ⟨x0, x1⟩)
    refine wpAnyH_take (i := 1) (v := ?_) rfl (by kernel_rfl) (by kernel_rfl) (by kernel_rfl) (fun _ _ _ h => h) (Or.inl ⟨by rfl, ?_⟩) (by assumption) ?_
    rotate_left 1
    · (intro w hSw; (try dsimp only at hSw); first | (go_simp; done) | (go_simp; with_reducible rfl))
    try simp only [Act.put, List.setIfInBounds_toArray, List.set_cons_zero, List.set_cons_succ, List.getElem_toArray, List.getElem_cons_zero, List.getElem_cons_succ]
    refine wpAnyH_take (i := 2) (v := ?_) rfl (by kernel_rfl) (by kernel_rfl) (by kernel_rfl) (fun _ _ _ h => h) (Or.inl ⟨by rfl, ?_⟩) (by assumption) ?_
    rotate_left 1
    · (intro w hSw; (try dsimp only at hSw); first | (go_simp; done) | (go_simp; with_reducible rfl))
    try simp only [Act.put, List.setIfInBounds_toArray, List.set_cons_zero, List.set_cons_succ, List.getElem_toArray, List.getElem_cons_zero, List.getElem_cons_succ]
    refine wpAnyH_take (i := 3) (v := ?_) rfl (by kernel_rfl) (by kernel_rfl) (by kernel_rfl) (fun _ _ _ h => h) (Or.inl ⟨by rfl, ?_⟩) (by assumption) ?_
    rotate_left 1
    · (intro w hSw; (try dsimp only at hSw); first | (go_simp; done) | (go_simp; with_reducible rfl))
    try simp only [Act.put, List.setIfInBounds_toArray, List.set_cons_zero, List.set_cons_succ, List.getElem_toArray, List.getElem_cons_zero, List.getElem_cons_succ]
    refine wpAnyH_take (i := 4) (v := ?_) rfl (by kernel_rfl) (by kernel_rfl) (by kernel_rfl) (fun _ _ _ h => h) (Or.inl ⟨by rfl, ?_⟩) (by assumption) ?_
    rotate_left 1
    · (intro w hSw; (try dsimp only at hSw); first | (go_simp; done) | (go_simp; with_reducible rfl))
    try simp only [Act.put, List.setIfInBounds_toArray, List.set_cons_zero, List.set_cons_succ, List.getElem_toArray, List.getElem_cons_zero, List.getElem_cons_succ]
    refine wpAnyH_take (i := 6) (v := ?_) rfl (by kernel_rfl) (by kernel_rfl) (by kernel_rfl) (fun _ _ _ h => h) (Or.inl ⟨by rfl, ?_⟩) (by assumption) ?_
    rotate_left 1
    · (intro w hSw; (try dsimp only at hSw); first | (go_simp; done) | (go_simp; with_reducible rfl))
    try simp only [Act.put, List.setIfInBounds_toArray, List.set_cons_zero, List.set_cons_succ, List.getElem_toArray, List.getElem_cons_zero, List.getElem_cons_succ]
    refine wpAnyH_take (i := 7) (v := ?_) rfl (by kernel_rfl) (by kernel_rfl) (by kernel_rfl) (fun _ _ _ h => h) (Or.inl ⟨by rfl, ?_⟩) (by assumption) ?_
    rotate_left 1
    · (intro w hSw; (try dsimp only at hSw); first | (go_simp; done) | (go_simp; with_reducible rfl))
    try simp only [Act.put, List.setIfInBounds_toArray, List.set_cons_zero, List.set_cons_succ, List.getElem_toArray, List.getElem_cons_zero, List.getElem_cons_succ]
    refine wpAnyH_take (i := 8) (v := ?_) rfl (by kernel_rfl) (by kernel_rfl) (by kernel_rfl) (fun _ _ _ h => h) (Or.inl ⟨by rfl, ?_⟩) (by assumption) ?_
    rotate_left 1
    · (intro w hSw; (try dsimp only at hSw); first | (go_simp; done) | (go_simp; with_reducible rfl))
    try simp only [Act.put, List.setIfInBounds_toArray, List.set_cons_zero, List.set_cons_succ, List.getElem_toArray, List.getElem_cons_zero, List.getElem_cons_succ]
    refine wpAnyH_take (i := 9) (v := ?_) rfl (by kernel_rfl) (by kernel_rfl) (by kernel_rfl) (fun _ _ _ h => h) (Or.inl ⟨by rfl, ?_⟩) (by assumption) ?_
    rotate_left 1
    · (intro w hSw; (try dsimp only at hSw); first | (go_simp; done) | (go_simp; with_reducible rfl))
    try simp only [Act.put, List.setIfInBounds_toArray, List.set_cons_zero, List.set_cons_succ, List.getElem_toArray, List.getElem_cons_zero, List.getElem_cons_succ]
    refine wpAnyH_take (i := 10) (v := ?_) rfl (by kernel_rfl) (by kernel_rfl) (by kernel_rfl) (fun _ _ _ h => h) (Or.inl ⟨by rfl, ?_⟩) (by assumption) ?_
    rotate_left 1
    · (intro w hSw; (try dsimp only at hSw); first | (go_simp; done) | (go_simp; with_reducible rfl))
    try simp only [Act.put, List.setIfInBounds_toArray, List.set_cons_zero, List.set_cons_succ, List.getElem_toArray, List.getElem_cons_zero, List.getElem_cons_succ]
    have hca : Below w2.heap.size w2 (w2.drew.alloc (.cells #[] 50)) := (below_drewN (Below.refl w2.heap.size w2) 1).alloc (Nat.le_refl _) _
    have hr0 : (w2.drew.alloc (.cells #[] 50)).ownsRow w2.heap.size 50 3 (.slice (some ⟨w2.heap.size, 0, none⟩) 0 0) 0 [] := World.ownsRow_lit w2.drew _ 0 (Nat.le_refl _) (by decide) rfl
    refine wpAnyH_ready (rs := [0]) (by kernel_rfl) (by simp) ?_
    refine AllReadyH.cons rfl (fun K hK => ?_) AllReadyH.nil
    go_simp
    try go_wp2_with fail
    refine hK.out _ _ ?_ (fun hHeld => ?_)
    · ((try dsimp only); exact ⟨(hca.cell (p := ⟨w.heap.size, 0, none⟩) (by simp; omega)).trans x0, (hca.cell (p := ⟨w.heap.size, 1, none⟩) (by simp; omega)).trans x1⟩)
    clear hK K
    try simp only [Act.put, List.setIfInBounds_toArray, List.set_cons_zero, List.set_cons_succ, List.getElem_toArray, List.getElem_cons_zero, List.getElem_cons_succ]
    refine wpAnyH_ready (rs := [5]) (by kernel_rfl) (by simp) ?_
    refine AllReadyH.cons rfl (fun K hK => ?_) AllReadyH.nil
    (refine step_append_gen _ (by rfl) _ _ 26 26 (by rfl) w2.heap.size 50 50 i0 _ 3 24 Tryz.underlying26 Tryz.underlying26 hi hz0 hz1 hz2 (by kernel_rfl) (by decide) (.slice (some ⟨w2.heap.size, 0, none⟩) 0 0) 0 [] (by rfl) hr0 (some ⟨qb, qf, none⟩) ix ch (Gr.cellsL (H.take ix)) (by rfl) (by first | rfl | (rw [Gr.cellsL_length]; simp; try omega)) (HSRC.out _ hca) (by first | exact Gr.cellsL_one _ | (intro u hu; simp at hu)) (by unfold maxLen; omega) (by omega) hca.size ?_; intro va wa hoa hga hba)
    have hcb := hca.grown hga hca.size (fun k e => by simp [Value.ownBlock] at e; omega)
    have hoa' : wa.ownsRow w2.heap.size 50 3 va ix (Gr.cellsL (H.take ix)) := by simpa using hoa
    obtain ⟨oa, ca, rfl⟩ := own_form2 hoa'
    refine hK.out _ _ ?_ (fun hHeld => ?_)
    · ((try dsimp only); exact ⟨(hcb.cell (p := ⟨w.heap.size, 0, none⟩) (by simp; omega)).trans x0, (hcb.cell (p := ⟨w.heap.size, 1, none⟩) (by simp; omega)).trans x1⟩)
    clear hK K
    try simp only [Act.put, List.setIfInBounds_toArray, List.set_cons_zero, List.set_cons_succ, List.getElem_toArray, List.getElem_cons_zero, List.getElem_cons_succ]
    refine wpAnyH_ready (rs := [11]) (by kernel_rfl) (by simp) ?_
    refine AllReadyH.cons rfl (fun K hK => ?_) AllReadyH.nil
    (refine step_append_gen _ (by rfl) _ _ 26 26 (by rfl) w2.heap.size 50 50 i0 _ 3 24 Tryz.underlying26 Tryz.underlying26 hi hz0 hz1 hz2 (by kernel_rfl) (by decide) (.slice oa ix ca) ix (Gr.cellsL (H.take ix)) (by rfl) hoa' (some ⟨qb, qf + (ix + 1) * 3, none⟩) (H.length - (ix + 1)) (ch - (ix + 1)) (Gr.cellsL (H.drop (ix + 1))) (by rfl) (by first | rfl | (rw [Gr.cellsL_length]; simp; try omega)) (HSRC2.out _ hcb) (by first | exact Gr.cellsL_one _ | (intro u hu; simp at hu)) (by unfold maxLen; omega) (by omega) hcb.size ?_; intro vc wc hoc hgc hbc)
    have hcc := hcb.grown hgc hcb.size (fun k e => (World.ownsRow.lt hoa' k e).1)
    have hoc' : wc.ownsRow w2.heap.size 50 3 vc (H.eraseIdx ix).length (Gr.cellsL (H.eraseIdx ix)) := by
      rw [List.length_eraseIdx, if_pos hil, List.eraseIdx_eq_take_drop_succ, Gr.cellsL_append]
      have e : ix + (H.length - (ix + 1)) = H.length - 1 := by omega
      rw [e] at hoc
      exact hoc
    obtain ⟨oc, cc, rfl⟩ := own_form2 hoc'
    refine hK.out _ _ ?_ (fun hHeld => ?_)
    · ((try dsimp only); exact ⟨(hcc.cell (p := ⟨w.heap.size, 0, none⟩) (by simp; omega)).trans x0, (hcc.cell (p := ⟨w.heap.size, 1, none⟩) (by simp; omega)).trans x1⟩)
    clear hK K
    try simp only [Act.put, List.setIfInBounds_toArray, List.set_cons_zero, List.set_cons_succ, List.getElem_toArray, List.getElem_cons_zero, List.getElem_cons_succ]
    refine wpAnyH_take (i := 12) (v := ?_) rfl (by kernel_rfl) (by kernel_rfl) (by kernel_rfl) (fun _ _ _ h => h) (Or.inl ⟨by rfl, ?_⟩) (by assumption) ?_
    rotate_left 1
    · (intro w hSw; (try dsimp only at hSw); first | (go_simp; done) | (go_simp; with_reducible rfl))
    try simp only [Act.put, List.setIfInBounds_toArray, List.set_cons_zero, List.set_cons_succ, List.getElem_toArray, List.getElem_cons_zero, List.getElem_cons_succ]
    refine wpAnyH_done (by kernel_rfl) ?_ _
    replace HX := Lib.hid ((hcc.block _ (Array.getElem?_eq_some_iff.1 HX.out).1).trans HX.out)
    replace HY := Lib.hid ((hcc.block _ (Array.getElem?_eq_some_iff.1 HY.out).1).trans HY.out)
    replace HM := Lib.hid ((hcc.block _ (Array.getElem?_eq_some_iff.1 HM.out).1).trans HM.out)
    replace HB := Lib.hid (HB.out.trans (hcc.mono HB.out.size))
    have HOC := Lib.hid hoc'
    have hs2 : w.heap.size + 1 < w2.heap.size := hlw1
    have hs3 := hcc.size
    clear hoc' hoc hgc hbc hoa hga hba hoa' hca hcb hcc hr0 x0 x1
    obtain ⟨N, hN⟩ : ∃ N, N = (H.eraseIdx ix).length := ⟨_, rfl⟩
    rw [← hN] at HOC
    rw [← hN]
    obtain ⟨x0, x1, _⟩ := pair_cells HX.out
    obtain ⟨m0, m1, m2, _⟩ := trip_cells HM.out
    obtain ⟨y0, y1, yf⟩ := pair_cells HY.out
    have yf0 := yf 0
    have yf1 := yf 1
    clear yf
    have HNN := Lib.hid hN
    clear hN
    have hl5 : w.heap.size < wc.heap.size := by omega
    have hl6 : w.heap.size + 1 < wc.heap.size := by omega
    have hl7 : M < wc.heap.size := by omega
    go_upto_region 7 with fail
    go_region
    go_wp2_with fail
    have h0 : Own wc w2.heap.size 50 (.slice oc N cc) (H.eraseIdx ix) := by unfold Own; rw [← HNN.out]; exact HOC.out
    have hsz : ((wc.setCell ⟨w.heap.size + 1, 0, none⟩ (.slice oc N cc)).setCell ⟨w.heap.size + 1, 1, none⟩ (.slice ab B.length cb)).heap.size = wc.heap.size := by simp [World.setCell]
    obtain ⟨r0, r1, _⟩ := pair_cells (heap_setCell_same _ (w.heap.size + 1) 1 _ _ (.slice ab B.length cb) (heap_setCell_same wc (w.heap.size + 1) 0 _ _ (.slice oc N cc) HY.out))
    have hbz : Below (w.heap.size + 1) wc ((wc.setCell ⟨w.heap.size + 1, 0, none⟩ (.slice oc N cc)).setCell ⟨w.heap.size + 1, 1, none⟩ (.slice ab B.length cb)) := ((Below.refl _ _).setCell (p := ⟨w.heap.size + 1, 0, none⟩) (Nat.le_refl _) _).setCell (p := ⟨w.heap.size + 1, 1, none⟩) (Nat.le_refl _) _
    have h1 := World.ownsRow.lt h0
    have hown : Own ((wc.setCell ⟨w.heap.size + 1, 0, none⟩ (.slice oc N cc)).setCell ⟨w.heap.size + 1, 1, none⟩ (.slice ab B.length cb)) w2.heap.size 50 (.slice oc N cc) (H.eraseIdx ix) := ownsRow_setCell_other (ownsRow_setCell_other h0 (fun e => by have h := (h1 _ e).1; dsimp only at h; omega) _) (fun e => by have h := (h1 _ e).1; dsimp only at h; omega) _
    have HBZ := Lib.hid (HB.out.trans (hbz.mono (Nat.le_succ _)))
    generalize ((wc.setCell ⟨w.heap.size + 1, 0, none⟩ (.slice oc N cc)).setCell ⟨w.heap.size + 1, 1, none⟩ (.slice ab B.length cb)) = w7 at *
    have hc7 : Below w7.heap.size w7 (w7.alloc (.cells #[.int .i64 xt, .int .u64 xa, .int .i64 (-1)] 67)).drew := ((Below.refl _ _).alloc (Nat.le_refl _) _).drew
    have q0 := (hc7.cell (p := ⟨w.heap.size + 1, 0, none⟩) (by dsimp only; omega)).trans r0
    have q1 := (hc7.cell (p := ⟨w.heap.size + 1, 1, none⟩) (by dsimp only; omega)).trans r1
    refine bodyPost_ret (v := .tuple #[.agg #[.slice oc N cc, .slice ab B.length cb], .slice (some ⟨w7.heap.size, 0, none⟩) 1 1, .slice none 0 0, .int .i64 0]) (by simp [results, Tryz.results34, go_sem, q0, q1]) rfl ⟨_, _, rfl, ?_, ?_, ?_⟩
    · rw [← HIX.out]
      exact Own.mono (hown.below hc7) (by omega)
    · exact World.ownsRow_lit w7 _ 1 (by omega) (by decide) rfl
    · exact HBZ.out.trans (hc7.mono HBZ.out.size)
end Go.Proofs.YtlkljeedlkbkgaaGreatDoor.Cl
