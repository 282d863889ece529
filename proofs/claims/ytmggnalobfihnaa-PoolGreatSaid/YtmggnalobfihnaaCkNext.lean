/-
  PACKAGE clock: begin, next.
-/
import Derived.Test.YtmggnalobfihnaaCkNumd
namespace Go.Proofs.Ytmggnalobfihnaa.Ck
open Go.RowKit Rw Mm Go.Maps Pk
set_option linter.unusedVariables false

theorem infoI8 : (Try.prog.info? 3).map (fun i => (i.zero, i.size, i.bytes)) = some (some (.int .i64 0), intK.k, 8) := by kernel_rfl
theorem own_int {w : World} {base g n c : Nat} {L : List Int} (h : Own intK w base 3 (.slice (some ⟨g, 0, none⟩) n c) L) {i : Nat} (hi : i < L.length) (y : Int) :
    Own intK (w.setCell ⟨g, i, none⟩ (.int .i64 y)) base 3 (.slice (some ⟨g, 0, none⟩) n c) (L.set i y) := by
  have h1 := row_set h (j := i) (by show i < L.length * 1; omega) (.int .i64 y)
  have hx : L[i]? = some L[i] := List.getElem?_eq_getElem hi
  unfold Own
  rw [List.length_set, flat_set1 (S := intK) rfl hx (y := y) rfl]
  exact h1
theorem int_at {w : World} {base g n c : Nat} {L : List Int} (h : Own intK w base 3 (.slice (some ⟨g, 0, none⟩) n c) L) {i : Nat} (hi : i < L.length) : w.cell? ⟨g, i, none⟩ = some (.int .i64 (L.getD i 0)) ∧ w.frozen? ⟨g, i, none⟩ = false := by
  have hx : L[i]? = some (L.getD i 0) := by rw [List.getD_eq_getElem?_getD, List.getElem?_eq_getElem hi]; rfl
  have := (h.at hx) 0 _ (by decide) rfl
  simp only [show intK.k = 1 from rfl, Nat.mul_one, Nat.add_zero] at this
  exact ⟨this, h.free _⟩
def BegP (of : Int) (a b : Nat) (w : World) (e : Ending) (w' : World) : Prop := ∃ gw gh, e = .returned (.agg #[.int .i64 of, .slice (some ⟨gw, 0, none⟩) a a, .slice (some ⟨gh, 0, none⟩) b b]) ∧ Own intK w' w.heap.size 3 (.slice (some ⟨gw, 0, none⟩) a a) (List.replicate a 0) ∧ Own intK w' w.heap.size 3 (.slice (some ⟨gh, 0, none⟩) b b) (List.replicate b 0) ∧ gw ≠ gh ∧ Below w.heap.size w w'
theorem beg_of {w W : World} {of : Int} {a b g1 g2 : Nat} {o1 o2 : Obj} (n1 : ∀ (w' : World) (g : Nat), w'.heap[g]? = some o1 → Own intK w' 0 3 (.slice (some ⟨g, 0, none⟩) a a) (List.replicate a 0)) (n2 : ∀ (w' : World) (g : Nat), w'.heap[g]? = some o2 → Own intK w' 0 3 (.slice (some ⟨g, 0, none⟩) b b) (List.replicate b 0))
    (h1 : W.heap[g1]? = some o1) (h2 : W.heap[g2]? = some o2) (r1 : w.heap.size ≤ g1) (r2 : w.heap.size ≤ g2) (hne : g1 ≠ g2) (hb : Below w.heap.size w W) : BegP of a b w (.returned (.agg #[.int .i64 of, .slice (some ⟨g1, 0, none⟩) a a, .slice (some ⟨g2, 0, none⟩) b b])) W :=
  ⟨g1, g2, rfl, own_rebase (n1 _ _ h1) r1, own_rebase (n2 _ _ h2) r2, hne, hb⟩
theorem cells3 (w : World) (v0 v1 v2 : Value) (T : TypeId) (x y : Obj) : ((((w.alloc (.cells #[v0, v1, v2] T)).alloc x).alloc y).drew).cell? ⟨w.heap.size, 0, none⟩ = some v0 ∧ ((((w.alloc (.cells #[v0, v1, v2] T)).alloc x).alloc y).drew).cell? ⟨w.heap.size, 1, none⟩ = some v1 ∧ ((((w.alloc (.cells #[v0, v1, v2] T)).alloc x).alloc y).drew).cell? ⟨w.heap.size, 2, none⟩ = some v2 := by
  have h : ((((w.alloc (.cells #[v0, v1, v2] T)).alloc x).alloc y).drew).heap[w.heap.size]? = some (.cells #[v0, v1, v2] T (0, 0)) := (heap3 w _ x y).1
  refine ⟨?_, ?_, ?_⟩ <;> simp [World.cell?, h]
set_option maxRecDepth 1000000 in
set_option maxHeartbeats 8000000 in
theorem begin_any (of : Int) (a b : Nat) (ha : a ≤ 20000) (hb : b ≤ 20000) (w : World) :
    Calls Try.prog 58 #[.int .i64 of, .int .i64 (a : Int), .int .i64 (b : Int)] w (BegP of a b w) := by
  obtain ⟨o1, m1, n1⟩ := mk_eq (S := intK) (by decide) 23 3 _ 0 8 Try.underlying23 infoI8 rfl a (by omega) (by omega)
  obtain ⟨o2, m2, n2⟩ := mk_eq (S := intK) (by decide) 23 3 _ 0 8 Try.underlying23 infoI8 rfl b (by omega) (by omega)
  have N1 := Lib.hid n1
  have N2 := Lib.hid n2
  clear n1 n2
  go_enter Try.func58, Try.ntmps58
  go_upto_region 1 with fail
  go_region
  all_goals go_wp2_with fail
  · obtain ⟨q0, q1, q2⟩ := cells3 w (.int .i64 of) (.slice (some ⟨w.heap.size + 1, 0, none⟩) a a) (.slice (some ⟨w.heap.size + 1 + 1, 0, none⟩) b b) 119 o1 o2
    refine bodyPost_ret (v := .agg #[.int .i64 of, .slice (some ⟨w.heap.size + 1, 0, none⟩) a a, .slice (some ⟨w.heap.size + 1 + 1, 0, none⟩) b b]) (by simp [results, Try.results58, go_sem, q0, q1, q2]) rfl ?_
    exact beg_of N1.out N2.out (heap3 w _ o1 o2).2.1 (heap3 w _ o1 o2).2.2 (by omega) (by omega) (by omega) ((((Below.refl _ _).alloc (Nat.le_refl _) _).alloc (by simp) _).alloc (by simp; omega) _).drew
  · obtain ⟨q0, q1, q2⟩ := cells3 w (.int .i64 of) (.slice (some ⟨w.heap.size + 1 + 1, 0, none⟩) a a) (.slice (some ⟨w.heap.size + 1, 0, none⟩) b b) 119 o2 o1
    refine bodyPost_ret (v := .agg #[.int .i64 of, .slice (some ⟨w.heap.size + 1 + 1, 0, none⟩) a a, .slice (some ⟨w.heap.size + 1, 0, none⟩) b b]) (by simp [results, Try.results58, go_sem, q0, q1, q2]) rfl ?_
    exact beg_of N1.out N2.out (heap3 w _ o2 o1).2.2 (heap3 w _ o2 o1).2.1 (by omega) (by omega) (by omega) ((((Below.refl _ _).alloc (Nat.le_refl _) _).alloc (by simp) _).alloc (by simp; omega) _).drew

/-! ### next -/
structure NextP (gw gh nw nt : Nat) (w : World) (W' H' : List Int) (w' : World) : Prop where
  aw : Own intK w' 0 3 (.slice (some ⟨gw, 0, none⟩) nw nw) W'
  ah : Own intK w' 0 3 (.slice (some ⟨gh, 0, none⟩) nt nt) H'
  ne : gw ≠ gh
  sz : w.heap.size ≤ w'.heap.size
  bl : Below 0 w w'
  out : ∀ i, i < w.heap.size → i ≠ gw → i ≠ gh → w'.heap[i]? = w.heap[i]?
section
variable {gw gh nw nt : Nat} {w w' w'' : World} {W H : List Int}
theorem NextP.refl (h1 : Own intK w 0 3 (.slice (some ⟨gw, 0, none⟩) nw nw) W) (h2 : Own intK w 0 3 (.slice (some ⟨gh, 0, none⟩) nt nt) H) (hn : gw ≠ gh) : NextP gw gh nw nt w W H w := ⟨h1, h2, hn, Nat.le_refl _, Below.refl _ _, fun _ _ _ _ => rfl⟩
theorem NextP.below (h : NextP gw gh nw nt w W H w') (hb : Below w'.heap.size w' w'') : NextP gw gh nw nt w W H w'' :=
  ⟨h.aw.below hb, h.ah.below hb, h.ne, Nat.le_trans h.sz hb.size, h.bl.trans (hb.mono (Nat.zero_le _)), fun i hi h1 h2 => (hb.block i (Nat.lt_of_lt_of_le hi h.sz)).trans (h.out i hi h1 h2)⟩
theorem NextP.setW (h : NextP gw gh nw nt w W H w') {i : Nat} (hi : i < W.length) (y : Int) : NextP gw gh nw nt w (W.set i y) H (w'.setCell ⟨gw, i, none⟩ (.int .i64 y)) :=
  ⟨own_int h.aw hi y, own_blockq h.ah (Below.heap_setCell _ _ _ _ (fun e => h.ne e.symm)), h.ne, by rw [size_setCell]; exact h.sz, h.bl.setCell (Nat.zero_le _) _, fun j hj h1 h2 => (Below.heap_setCell _ _ _ _ h1).trans (h.out j hj h1 h2)⟩
theorem NextP.setH (h : NextP gw gh nw nt w W H w') {i : Nat} (hi : i < H.length) (y : Int) : NextP gw gh nw nt w W (H.set i y) (w'.setCell ⟨gh, i, none⟩ (.int .i64 y)) :=
  ⟨own_blockq h.aw (Below.heap_setCell _ _ _ _ h.ne), own_int h.ah hi y, h.ne, by rw [size_setCell]; exact h.sz, h.bl.setCell (Nat.zero_le _) _, fun j hj h1 h2 => (Below.heap_setCell _ _ _ _ h2).trans (h.out j hj h1 h2)⟩
theorem NextP.trans (h : NextP gw gh nw nt w W H w') {W' H' : List Int} (k : NextP gw gh nw nt w' W' H' w'') : NextP gw gh nw nt w W' H' w'' :=
  ⟨k.aw, k.ah, h.ne, Nat.le_trans h.sz k.sz, h.bl.trans k.bl, fun i hi h1 h2 => (k.out i (Nat.lt_of_lt_of_le hi h.sz) h1 h2).trans (h.out i hi h1 h2)⟩
end
theorem next_not {gw gh nw nt : Nat} {w : World} {W H : List Int} (h1 : Own intK w 0 3 (.slice (some ⟨gw, 0, none⟩) nw nw) W) (h2 : Own intK w 0 3 (.slice (some ⟨gh, 0, none⟩) nt nt) H) (hn : gw ≠ gh) (of k : Int) (e : Ev) (te : ¬ Th e) :
    Calls Try.prog 59 #[.agg #[.int .i64 of, .slice (some ⟨gw, 0, none⟩) nw nw, .slice (some ⟨gh, 0, none⟩) nt nt], .int .i64 k, .agg #[.int .i64 e.w, .int .i64 e.k, .int .i64 e.a, .bool e.ok]] w fun r w' => r = .returned (.int .i64 0) ∧ NextP gw gh nw nt w W H w' := by
  obtain ⟨W1, hW1⟩ : ∃ W1, W1 = (w.alloc (.cells #[.int .i64 of, .slice (some ⟨gw, 0, none⟩) nw nw, .slice (some ⟨gh, 0, none⟩) nt nt] 119)).alloc (.cells #[.int .i64 e.w, .int .i64 e.k, .int .i64 e.a, .bool e.ok] 98) := ⟨_, rfl⟩
  have hb : Below w.heap.size w W1 := by rw [hW1]; exact ((Below.refl _ _).alloc (Nat.le_refl _) _).alloc (by simp) _
  have HN := Lib.hid ((NextP.refl h1 h2 hn).below hb)
  have HW1 := Lib.hid hW1
  clear h1 h2 hb hW1
  go_enter Try.func59, Try.ntmps59
  go_wp2_with fail
  go_at_call 54
  rw [← HW1.out]
  refine (there_no e te _).mono ?_
  rintro r w2 ⟨rfl, hb2⟩
  have HN2 := Lib.hid (HN.out.below hb2)
  clear hb2
  go_wp2_with fail
  go_ret
  exact ⟨rfl, HN2.out⟩
set_option maxRecDepth 1000000 in
set_option maxHeartbeats 16000000 in
theorem next_yes {gw gh nw nt : Nat} {w : World} {W H : List Int} (h1 : Own intK w 0 3 (.slice (some ⟨gw, 0, none⟩) nw nw) W) (h2 : Own intK w 0 3 (.slice (some ⟨gh, 0, none⟩) nt nt) H) (hn : gw ≠ gh) (hlw : W.length = nw) (hlh : H.length = nt) (hnw : nw ≤ 20000) (hnt : nt ≤ 20000) (of : Int) (k : Nat) (hk : k ≤ 20000)
    (e : Ev) (te : Th e) (hw : 0 ≤ e.w ∧ e.w < (nw : Int)) (ha : 0 ≤ e.a ∧ e.a < (nt : Int)) :
    Calls Try.prog 59 #[.agg #[.int .i64 of, .slice (some ⟨gw, 0, none⟩) nw nw, .slice (some ⟨gh, 0, none⟩) nt nt], .int .i64 (k : Int), .agg #[.int .i64 e.w, .int .i64 e.k, .int .i64 e.a, .bool e.ok]] w fun r w' => r = .returned (.int .i64 (knownF e W H)) ∧ NextP gw gh nw nt w (nextW of k e W H) (nextH of k e W H) w' := by
  obtain ⟨ew, q, ea, ok⟩ := e
  simp only at hw ha te ⊢
  obtain ⟨iw, rfl⟩ : ∃ iw : Nat, ew = (iw : Int) := ⟨ew.toNat, by omega⟩
  obtain ⟨ia, rfl⟩ : ∃ ia : Nat, ea = (ia : Int) := ⟨ea.toNat, by omega⟩
  obtain ⟨W1, hW1⟩ : ∃ W1, W1 = (w.alloc (.cells #[.int .i64 of, .slice (some ⟨gw, 0, none⟩) nw nw, .slice (some ⟨gh, 0, none⟩) nt nt] 119)).alloc (.cells #[.int .i64 (iw : Int), .int .i64 q, .int .i64 (ia : Int), .bool ok] 98) := ⟨_, rfl⟩
  have hb : Below w.heap.size w W1 := by rw [hW1]; exact ((Below.refl _ _).alloc (Nat.le_refl _) _).alloc (by simp) _
  have HN := Lib.hid ((NextP.refl h1 h2 hn).below hb)
  have ns : W1.heap[w.heap.size]? = some (.cells #[.int .i64 of, .slice (some ⟨gw, 0, none⟩) nw nw, .slice (some ⟨gh, 0, none⟩) nt nt] 119 (0, 0)) := by rw [hW1, heap_alloc_old _ _ (by simp)]; exact heap_alloc_new w _
  have es : W1.heap[w.heap.size + 1]? = some (.cells #[.int .i64 (iw : Int), .int .i64 q, .int .i64 (ia : Int), .bool ok] 98 (0, 0)) := by
    rw [hW1]
    have := heap_alloc_new (w.alloc (.cells #[.int .i64 of, .slice (some ⟨gw, 0, none⟩) nw nw, .slice (some ⟨gh, 0, none⟩) nt nt] 119)) (.cells #[.int .i64 (iw : Int), .int .i64 q, .int .i64 (ia : Int), .bool ok] 98)
    rw [World.size_alloc] at this
    exact this
  have HNS := Lib.hid ns
  have HES := Lib.hid es
  have HW1 := Lib.hid hW1
  have HLW := Lib.hid hlw
  have HLH := Lib.hid hlh
  have hiw : (iw : Int) < (nw : Int) := hw.2
  have hia : (ia : Int) < (nt : Int) := ha.2
  have hiw0 : (0 : Int) ≤ (iw : Int) := Int.natCast_nonneg _
  have hia0 : (0 : Int) ≤ (ia : Int) := Int.natCast_nonneg _
  have HTE := Lib.hid te
  have g1 : gw < w.heap.size := own_block_lt h1 rfl
  have g2 : gh < w.heap.size := own_block_lt h2 rfl
  have HGN := Lib.hid (And.intro (show gw ≠ w.heap.size by omega) (And.intro (show gw ≠ w.heap.size + 1 by omega) (And.intro (show gh ≠ w.heap.size by omega) (show gh ≠ w.heap.size + 1 by omega))))
  clear hb hW1 ns es hlw hlh h1 h2 te hw ha g1 g2
  go_enter Try.func59, Try.ntmps59
  go_wp2_with fail
  go_at_call 54
  rw [← HW1.out]
  refine (there_yes ⟨(iw : Int), q, (ia : Int), ok⟩ HTE.out _).mono ?_
  rintro r w2 ⟨rfl, hb2⟩
  have hN2 := HN.out.below hb2
  have ns2 := (hb2.block _ (Array.getElem?_eq_some_iff.1 HNS.out).1).trans HNS.out
  have es2 := (hb2.block _ (Array.getElem?_eq_some_iff.1 HES.out).1).trans HES.out
  obtain ⟨cw, fw⟩ := int_at hN2.aw (i := iw) (by have := HLW.out; omega)
  obtain ⟨ch, fh⟩ := int_at hN2.ah (i := ia) (by have := HLH.out; omega)
  have s0 : w2.cell? ⟨w.heap.size, 0, none⟩ = some (.int .i64 of) := by simp [World.cell?, ns2]
  have s1 : w2.cell? ⟨w.heap.size, 1, none⟩ = some (.slice (some ⟨gw, 0, none⟩) nw nw) := by simp [World.cell?, ns2]
  have s2 : w2.cell? ⟨w.heap.size, 2, none⟩ = some (.slice (some ⟨gh, 0, none⟩) nt nt) := by simp [World.cell?, ns2]
  have t0 : w2.cell? ⟨w.heap.size + 1, 0, none⟩ = some (.int .i64 (iw : Int)) := by simp [World.cell?, es2]
  have t1 : w2.cell? ⟨w.heap.size + 1, 1, none⟩ = some (.int .i64 q) := by simp [World.cell?, es2]
  have t2 : w2.cell? ⟨w.heap.size + 1, 2, none⟩ = some (.int .i64 (ia : Int)) := by simp [World.cell?, es2]
  have t3 : w2.cell? ⟨w.heap.size + 1, 3, none⟩ = some (.bool ok) := by simp [World.cell?, es2]
  have HN2 := Lib.hid hN2
  obtain ⟨p1, p2, p3, p4⟩ := HGN.out
  have p1' := Ne.symm p1
  have p2' := Ne.symm p2
  have p3' := Ne.symm p3
  have p4' := Ne.symm p4
  have hn' := Ne.symm hn
  have HIW : Hid (iw < W.length) := Lib.hid (by have := HLW.out; omega)
  have HIA : Hid (ia < H.length) := Lib.hid (by have := HLH.out; omega)
  obtain ⟨x, hx⟩ : ∃ x, x = W.getD iw 0 := ⟨_, rfl⟩
  obtain ⟨y, hy⟩ : ∃ y, y = H.getD ia 0 := ⟨_, rfl⟩
  rw [← hx] at cw
  rw [← hy] at ch
  have HX := Lib.hid hx
  have HY := Lib.hid hy
  clear hb2 hN2 ns2 es2 hx hy
  obtain ⟨q0, q7⟩ : 0 ≤ q ∧ q ≤ 7 := HTE.out
  clear HTE HN HNS HES HW1
  by_cases hof : (iw : Int) = of
  · subst hof
    rcases (show q = 0 ∨ q = 1 ∨ q = 2 ∨ q = 3 ∨ q = 4 ∨ q = 5 ∨ q = 6 ∨ q = 7 by omega) with rfl | rfl | rfl | rfl | rfl | rfl | rfl | rfl
    · have HKN : Hid (knownF ⟨(iw : Int), 0, (ia : Int), ok⟩ W H = max x y) := Lib.hid (by rw [HX.out, HY.out]; rfl)
      have HTN : Hid (thenF (iw : Int) k ⟨(iw : Int), 0, (ia : Int), ok⟩ (knownF ⟨(iw : Int), 0, (ia : Int), ok⟩ W H) = (k : Int) + 1) := Lib.hid (if_pos rfl)
      have HNW : Hid (nextW (iw : Int) k ⟨(iw : Int), 0, (ia : Int), ok⟩ W H = W.set iw ((k : Int) + 1)) := Lib.hid (by unfold nextW; rw [HTN.out]; rfl)
      have HNH : Hid (nextH (iw : Int) k ⟨(iw : Int), 0, (ia : Int), ok⟩ W H = H) := Lib.hid rfl
      have hof' : ((iw : Int) == (iw : Int)) = true := by simp
      clear HTN
      all_goals go_wp2_with fail
      all_goals go_ret
      all_goals exact ⟨ret_i HKN.out.symm, by rw [HNW.out, HNH.out]; exact (HN2.out.setW HIW.out ((k : Int) + 1))⟩
    · have HKN : Hid (knownF ⟨(iw : Int), 1, (ia : Int), ok⟩ W H = x) := Lib.hid (by rw [HX.out]; rfl)
      have HTN : Hid (thenF (iw : Int) k ⟨(iw : Int), 1, (ia : Int), ok⟩ (knownF ⟨(iw : Int), 1, (ia : Int), ok⟩ W H) = (k : Int) + 1) := Lib.hid (if_pos rfl)
      have HNW : Hid (nextW (iw : Int) k ⟨(iw : Int), 1, (ia : Int), ok⟩ W H = W.set iw ((k : Int) + 1)) := Lib.hid (by unfold nextW; rw [HTN.out]; rfl)
      have HNH : Hid (nextH (iw : Int) k ⟨(iw : Int), 1, (ia : Int), ok⟩ W H = H.set ia ((k : Int) + 1)) := Lib.hid (by unfold nextH; rw [HTN.out]; rfl)
      have hof' : ((iw : Int) == (iw : Int)) = true := by simp
      clear HTN
      all_goals go_wp2_with fail
      all_goals go_ret
      all_goals exact ⟨ret_i HKN.out.symm, by rw [HNW.out, HNH.out]; exact ((HN2.out.setW HIW.out ((k : Int) + 1)).setH HIA.out ((k : Int) + 1))⟩
    · have HKN : Hid (knownF ⟨(iw : Int), 2, (ia : Int), ok⟩ W H = x) := Lib.hid (by rw [HX.out]; rfl)
      have HTN : Hid (thenF (iw : Int) k ⟨(iw : Int), 2, (ia : Int), ok⟩ (knownF ⟨(iw : Int), 2, (ia : Int), ok⟩ W H) = (k : Int) + 1) := Lib.hid (if_pos rfl)
      have HNW : Hid (nextW (iw : Int) k ⟨(iw : Int), 2, (ia : Int), ok⟩ W H = W.set iw ((k : Int) + 1)) := Lib.hid (by unfold nextW; rw [HTN.out]; rfl)
      have HNH : Hid (nextH (iw : Int) k ⟨(iw : Int), 2, (ia : Int), ok⟩ W H = H) := Lib.hid rfl
      have hof' : ((iw : Int) == (iw : Int)) = true := by simp
      clear HTN
      all_goals go_wp2_with fail
      all_goals go_ret
      all_goals exact ⟨ret_i HKN.out.symm, by rw [HNW.out, HNH.out]; exact (HN2.out.setW HIW.out ((k : Int) + 1))⟩
    · have HKN : Hid (knownF ⟨(iw : Int), 3, (ia : Int), ok⟩ W H = x) := Lib.hid (by rw [HX.out]; rfl)
      have HTN : Hid (thenF (iw : Int) k ⟨(iw : Int), 3, (ia : Int), ok⟩ (knownF ⟨(iw : Int), 3, (ia : Int), ok⟩ W H) = (k : Int) + 1) := Lib.hid (if_pos rfl)
      have HNW : Hid (nextW (iw : Int) k ⟨(iw : Int), 3, (ia : Int), ok⟩ W H = W.set iw ((k : Int) + 1)) := Lib.hid (by unfold nextW; rw [HTN.out]; rfl)
      have HNH : Hid (nextH (iw : Int) k ⟨(iw : Int), 3, (ia : Int), ok⟩ W H = H) := Lib.hid rfl
      have hof' : ((iw : Int) == (iw : Int)) = true := by simp
      clear HTN
      all_goals go_wp2_with fail
      all_goals go_ret
      all_goals exact ⟨ret_i HKN.out.symm, by rw [HNW.out, HNH.out]; exact (HN2.out.setW HIW.out ((k : Int) + 1))⟩
    · cases ok
      · have HKN : Hid (knownF ⟨(iw : Int), 4, (ia : Int), false⟩ W H = x) := Lib.hid (by rw [HX.out]; rfl)
        have HTN : Hid (thenF (iw : Int) k ⟨(iw : Int), 4, (ia : Int), false⟩ (knownF ⟨(iw : Int), 4, (ia : Int), false⟩ W H) = (k : Int) + 1) := Lib.hid (if_pos rfl)
        have HNW : Hid (nextW (iw : Int) k ⟨(iw : Int), 4, (ia : Int), false⟩ W H = W.set iw ((k : Int) + 1)) := Lib.hid (by unfold nextW; rw [HTN.out]; rfl)
        have HNH : Hid (nextH (iw : Int) k ⟨(iw : Int), 4, (ia : Int), false⟩ W H = H) := Lib.hid rfl
        have hof' : ((iw : Int) == (iw : Int)) = true := by simp
        clear HTN
        all_goals go_wp2_with fail
        all_goals go_ret
        all_goals exact ⟨ret_i HKN.out.symm, by rw [HNW.out, HNH.out]; exact (HN2.out.setW HIW.out ((k : Int) + 1))⟩
      · have HKN : Hid (knownF ⟨(iw : Int), 4, (ia : Int), true⟩ W H = max x y) := Lib.hid (by rw [HX.out, HY.out]; rfl)
        have HTN : Hid (thenF (iw : Int) k ⟨(iw : Int), 4, (ia : Int), true⟩ (knownF ⟨(iw : Int), 4, (ia : Int), true⟩ W H) = (k : Int) + 1) := Lib.hid (if_pos rfl)
        have HNW : Hid (nextW (iw : Int) k ⟨(iw : Int), 4, (ia : Int), true⟩ W H = W.set iw ((k : Int) + 1)) := Lib.hid (by unfold nextW; rw [HTN.out]; rfl)
        have HNH : Hid (nextH (iw : Int) k ⟨(iw : Int), 4, (ia : Int), true⟩ W H = H) := Lib.hid rfl
        have hof' : ((iw : Int) == (iw : Int)) = true := by simp
        clear HTN
        all_goals go_wp2_with fail
        all_goals go_ret
        all_goals exact ⟨ret_i HKN.out.symm, by rw [HNW.out, HNH.out]; exact (HN2.out.setW HIW.out ((k : Int) + 1))⟩
    · cases ok
      · have HKN : Hid (knownF ⟨(iw : Int), 5, (ia : Int), false⟩ W H = x) := Lib.hid (by rw [HX.out]; rfl)
        have HTN : Hid (thenF (iw : Int) k ⟨(iw : Int), 5, (ia : Int), false⟩ (knownF ⟨(iw : Int), 5, (ia : Int), false⟩ W H) = (k : Int) + 1) := Lib.hid (if_pos rfl)
        have HNW : Hid (nextW (iw : Int) k ⟨(iw : Int), 5, (ia : Int), false⟩ W H = W.set iw ((k : Int) + 1)) := Lib.hid (by unfold nextW; rw [HTN.out]; rfl)
        have HNH : Hid (nextH (iw : Int) k ⟨(iw : Int), 5, (ia : Int), false⟩ W H = H) := Lib.hid rfl
        have hof' : ((iw : Int) == (iw : Int)) = true := by simp
        clear HTN
        all_goals go_wp2_with fail
        all_goals go_ret
        all_goals exact ⟨ret_i HKN.out.symm, by rw [HNW.out, HNH.out]; exact (HN2.out.setW HIW.out ((k : Int) + 1))⟩
      · have HKN : Hid (knownF ⟨(iw : Int), 5, (ia : Int), true⟩ W H = x) := Lib.hid (by rw [HX.out]; rfl)
        have HTN : Hid (thenF (iw : Int) k ⟨(iw : Int), 5, (ia : Int), true⟩ (knownF ⟨(iw : Int), 5, (ia : Int), true⟩ W H) = (k : Int) + 1) := Lib.hid (if_pos rfl)
        have HNW : Hid (nextW (iw : Int) k ⟨(iw : Int), 5, (ia : Int), true⟩ W H = W.set iw ((k : Int) + 1)) := Lib.hid (by unfold nextW; rw [HTN.out]; rfl)
        have HNH : Hid (nextH (iw : Int) k ⟨(iw : Int), 5, (ia : Int), true⟩ W H = H.set ia (max y ((k : Int) + 1))) := Lib.hid (by unfold nextH; rw [HTN.out, HY.out]; rfl)
        have hof' : ((iw : Int) == (iw : Int)) = true := by simp
        clear HTN
        go_upto_region 13 with fail
        go_region
        all_goals go_wp2_with fail
        all_goals go_ret
        all_goals exact ⟨ret_i HKN.out.symm, by rw [HNW.out, HNH.out]; exact (((HN2.out.setW HIW.out ((k : Int) + 1)).below (Below.refl _ _).drew).setH HIA.out (max y ((k : Int) + 1)))⟩
    · cases ok
      · have HKN : Hid (knownF ⟨(iw : Int), 6, (ia : Int), false⟩ W H = x) := Lib.hid (by rw [HX.out]; rfl)
        have HTN : Hid (thenF (iw : Int) k ⟨(iw : Int), 6, (ia : Int), false⟩ (knownF ⟨(iw : Int), 6, (ia : Int), false⟩ W H) = (k : Int) + 1) := Lib.hid (if_pos rfl)
        have HNW : Hid (nextW (iw : Int) k ⟨(iw : Int), 6, (ia : Int), false⟩ W H = W.set iw ((k : Int) + 1)) := Lib.hid (by unfold nextW; rw [HTN.out]; rfl)
        have HNH : Hid (nextH (iw : Int) k ⟨(iw : Int), 6, (ia : Int), false⟩ W H = H) := Lib.hid rfl
        have hof' : ((iw : Int) == (iw : Int)) = true := by simp
        clear HTN
        all_goals go_wp2_with fail
        all_goals go_ret
        all_goals exact ⟨ret_i HKN.out.symm, by rw [HNW.out, HNH.out]; exact (HN2.out.setW HIW.out ((k : Int) + 1))⟩
      · have HKN : Hid (knownF ⟨(iw : Int), 6, (ia : Int), true⟩ W H = x) := Lib.hid (by rw [HX.out]; rfl)
        have HTN : Hid (thenF (iw : Int) k ⟨(iw : Int), 6, (ia : Int), true⟩ (knownF ⟨(iw : Int), 6, (ia : Int), true⟩ W H) = (k : Int) + 1) := Lib.hid (if_pos rfl)
        have HNW : Hid (nextW (iw : Int) k ⟨(iw : Int), 6, (ia : Int), true⟩ W H = W.set iw ((k : Int) + 1)) := Lib.hid (by unfold nextW; rw [HTN.out]; rfl)
        have HNH : Hid (nextH (iw : Int) k ⟨(iw : Int), 6, (ia : Int), true⟩ W H = H.set ia (max y ((k : Int) + 1))) := Lib.hid (by unfold nextH; rw [HTN.out, HY.out]; rfl)
        have hof' : ((iw : Int) == (iw : Int)) = true := by simp
        clear HTN
        go_upto_region 13 with fail
        go_region
        all_goals go_wp2_with fail
        all_goals go_ret
        all_goals exact ⟨ret_i HKN.out.symm, by rw [HNW.out, HNH.out]; exact (((HN2.out.setW HIW.out ((k : Int) + 1)).below (Below.refl _ _).drew).setH HIA.out (max y ((k : Int) + 1)))⟩
    · have HKN : Hid (knownF ⟨(iw : Int), 7, (ia : Int), ok⟩ W H = x) := Lib.hid (by rw [HX.out]; rfl)
      have HTN : Hid (thenF (iw : Int) k ⟨(iw : Int), 7, (ia : Int), ok⟩ (knownF ⟨(iw : Int), 7, (ia : Int), ok⟩ W H) = (k : Int) + 1) := Lib.hid (if_pos rfl)
      have HNW : Hid (nextW (iw : Int) k ⟨(iw : Int), 7, (ia : Int), ok⟩ W H = W.set iw ((k : Int) + 1)) := Lib.hid (by unfold nextW; rw [HTN.out]; rfl)
      have HNH : Hid (nextH (iw : Int) k ⟨(iw : Int), 7, (ia : Int), ok⟩ W H = H) := Lib.hid rfl
      have hof' : ((iw : Int) == (iw : Int)) = true := by simp
      clear HTN
      all_goals go_wp2_with fail
      all_goals go_ret
      all_goals exact ⟨ret_i HKN.out.symm, by rw [HNW.out, HNH.out]; exact (HN2.out.setW HIW.out ((k : Int) + 1))⟩
  · skip
    rcases (show q = 0 ∨ q = 1 ∨ q = 2 ∨ q = 3 ∨ q = 4 ∨ q = 5 ∨ q = 6 ∨ q = 7 by omega) with rfl | rfl | rfl | rfl | rfl | rfl | rfl | rfl
    · have HKN : Hid (knownF ⟨(iw : Int), 0, (ia : Int), ok⟩ W H = max x y) := Lib.hid (by rw [HX.out, HY.out]; rfl)
      have HTN : Hid (thenF of k ⟨(iw : Int), 0, (ia : Int), ok⟩ (knownF ⟨(iw : Int), 0, (ia : Int), ok⟩ W H) = max x y) := Lib.hid (by rw [← HKN.out]; exact if_neg (fun h => hof h))
      have HNW : Hid (nextW of k ⟨(iw : Int), 0, (ia : Int), ok⟩ W H = W.set iw (max x y)) := Lib.hid (by unfold nextW; rw [HTN.out]; rfl)
      have HNH : Hid (nextH of k ⟨(iw : Int), 0, (ia : Int), ok⟩ W H = H) := Lib.hid rfl
      have hof' : ((iw : Int) == of) = false := by simpa using hof
      clear HTN hof
      all_goals go_wp2_with fail
      all_goals go_ret
      all_goals exact ⟨ret_i HKN.out.symm, by rw [HNW.out, HNH.out]; exact (HN2.out.setW HIW.out (max x y))⟩
    · have HKN : Hid (knownF ⟨(iw : Int), 1, (ia : Int), ok⟩ W H = x) := Lib.hid (by rw [HX.out]; rfl)
      have HTN : Hid (thenF of k ⟨(iw : Int), 1, (ia : Int), ok⟩ (knownF ⟨(iw : Int), 1, (ia : Int), ok⟩ W H) = x) := Lib.hid (by rw [← HKN.out]; exact if_neg (fun h => hof h))
      have HNW : Hid (nextW of k ⟨(iw : Int), 1, (ia : Int), ok⟩ W H = W.set iw (x)) := Lib.hid (by unfold nextW; rw [HTN.out]; rfl)
      have HNH : Hid (nextH of k ⟨(iw : Int), 1, (ia : Int), ok⟩ W H = H.set ia (x)) := Lib.hid (by unfold nextH; rw [HTN.out]; rfl)
      have hof' : ((iw : Int) == of) = false := by simpa using hof
      clear HTN hof
      all_goals go_wp2_with fail
      all_goals go_ret
      all_goals exact ⟨ret_i HKN.out.symm, by rw [HNW.out, HNH.out]; exact ((HN2.out.setW HIW.out (x)).setH HIA.out (x))⟩
    · have HKN : Hid (knownF ⟨(iw : Int), 2, (ia : Int), ok⟩ W H = x) := Lib.hid (by rw [HX.out]; rfl)
      have HTN : Hid (thenF of k ⟨(iw : Int), 2, (ia : Int), ok⟩ (knownF ⟨(iw : Int), 2, (ia : Int), ok⟩ W H) = x) := Lib.hid (by rw [← HKN.out]; exact if_neg (fun h => hof h))
      have HNW : Hid (nextW of k ⟨(iw : Int), 2, (ia : Int), ok⟩ W H = W.set iw (x)) := Lib.hid (by unfold nextW; rw [HTN.out]; rfl)
      have HNH : Hid (nextH of k ⟨(iw : Int), 2, (ia : Int), ok⟩ W H = H) := Lib.hid rfl
      have hof' : ((iw : Int) == of) = false := by simpa using hof
      clear HTN hof
      all_goals go_wp2_with fail
      all_goals go_ret
      all_goals exact ⟨ret_i HKN.out.symm, by rw [HNW.out, HNH.out]; exact (HN2.out.setW HIW.out (x))⟩
    · have HKN : Hid (knownF ⟨(iw : Int), 3, (ia : Int), ok⟩ W H = x) := Lib.hid (by rw [HX.out]; rfl)
      have HTN : Hid (thenF of k ⟨(iw : Int), 3, (ia : Int), ok⟩ (knownF ⟨(iw : Int), 3, (ia : Int), ok⟩ W H) = x) := Lib.hid (by rw [← HKN.out]; exact if_neg (fun h => hof h))
      have HNW : Hid (nextW of k ⟨(iw : Int), 3, (ia : Int), ok⟩ W H = W.set iw (x)) := Lib.hid (by unfold nextW; rw [HTN.out]; rfl)
      have HNH : Hid (nextH of k ⟨(iw : Int), 3, (ia : Int), ok⟩ W H = H) := Lib.hid rfl
      have hof' : ((iw : Int) == of) = false := by simpa using hof
      clear HTN hof
      all_goals go_wp2_with fail
      all_goals go_ret
      all_goals exact ⟨ret_i HKN.out.symm, by rw [HNW.out, HNH.out]; exact (HN2.out.setW HIW.out (x))⟩
    · cases ok
      · have HKN : Hid (knownF ⟨(iw : Int), 4, (ia : Int), false⟩ W H = x) := Lib.hid (by rw [HX.out]; rfl)
        have HTN : Hid (thenF of k ⟨(iw : Int), 4, (ia : Int), false⟩ (knownF ⟨(iw : Int), 4, (ia : Int), false⟩ W H) = x) := Lib.hid (by rw [← HKN.out]; exact if_neg (fun h => hof h))
        have HNW : Hid (nextW of k ⟨(iw : Int), 4, (ia : Int), false⟩ W H = W.set iw (x)) := Lib.hid (by unfold nextW; rw [HTN.out]; rfl)
        have HNH : Hid (nextH of k ⟨(iw : Int), 4, (ia : Int), false⟩ W H = H) := Lib.hid rfl
        have hof' : ((iw : Int) == of) = false := by simpa using hof
        clear HTN hof
        all_goals go_wp2_with fail
        all_goals go_ret
        all_goals exact ⟨ret_i HKN.out.symm, by rw [HNW.out, HNH.out]; exact (HN2.out.setW HIW.out (x))⟩
      · have HKN : Hid (knownF ⟨(iw : Int), 4, (ia : Int), true⟩ W H = max x y) := Lib.hid (by rw [HX.out, HY.out]; rfl)
        have HTN : Hid (thenF of k ⟨(iw : Int), 4, (ia : Int), true⟩ (knownF ⟨(iw : Int), 4, (ia : Int), true⟩ W H) = max x y) := Lib.hid (by rw [← HKN.out]; exact if_neg (fun h => hof h))
        have HNW : Hid (nextW of k ⟨(iw : Int), 4, (ia : Int), true⟩ W H = W.set iw (max x y)) := Lib.hid (by unfold nextW; rw [HTN.out]; rfl)
        have HNH : Hid (nextH of k ⟨(iw : Int), 4, (ia : Int), true⟩ W H = H) := Lib.hid rfl
        have hof' : ((iw : Int) == of) = false := by simpa using hof
        clear HTN hof
        all_goals go_wp2_with fail
        all_goals go_ret
        all_goals exact ⟨ret_i HKN.out.symm, by rw [HNW.out, HNH.out]; exact (HN2.out.setW HIW.out (max x y))⟩
    · cases ok
      · have HKN : Hid (knownF ⟨(iw : Int), 5, (ia : Int), false⟩ W H = x) := Lib.hid (by rw [HX.out]; rfl)
        have HTN : Hid (thenF of k ⟨(iw : Int), 5, (ia : Int), false⟩ (knownF ⟨(iw : Int), 5, (ia : Int), false⟩ W H) = x) := Lib.hid (by rw [← HKN.out]; exact if_neg (fun h => hof h))
        have HNW : Hid (nextW of k ⟨(iw : Int), 5, (ia : Int), false⟩ W H = W.set iw (x)) := Lib.hid (by unfold nextW; rw [HTN.out]; rfl)
        have HNH : Hid (nextH of k ⟨(iw : Int), 5, (ia : Int), false⟩ W H = H) := Lib.hid rfl
        have hof' : ((iw : Int) == of) = false := by simpa using hof
        clear HTN hof
        all_goals go_wp2_with fail
        all_goals go_ret
        all_goals exact ⟨ret_i HKN.out.symm, by rw [HNW.out, HNH.out]; exact (HN2.out.setW HIW.out (x))⟩
      · have HKN : Hid (knownF ⟨(iw : Int), 5, (ia : Int), true⟩ W H = x) := Lib.hid (by rw [HX.out]; rfl)
        have HTN : Hid (thenF of k ⟨(iw : Int), 5, (ia : Int), true⟩ (knownF ⟨(iw : Int), 5, (ia : Int), true⟩ W H) = x) := Lib.hid (by rw [← HKN.out]; exact if_neg (fun h => hof h))
        have HNW : Hid (nextW of k ⟨(iw : Int), 5, (ia : Int), true⟩ W H = W.set iw (x)) := Lib.hid (by unfold nextW; rw [HTN.out]; rfl)
        have HNH : Hid (nextH of k ⟨(iw : Int), 5, (ia : Int), true⟩ W H = H.set ia (max y (x))) := Lib.hid (by unfold nextH; rw [HTN.out, HY.out]; rfl)
        have hof' : ((iw : Int) == of) = false := by simpa using hof
        clear HTN hof
        go_upto_region 13 with fail
        go_region
        all_goals go_wp2_with fail
        all_goals go_ret
        all_goals exact ⟨ret_i HKN.out.symm, by rw [HNW.out, HNH.out]; exact (((HN2.out.setW HIW.out (x)).below (Below.refl _ _).drew).setH HIA.out (max y (x)))⟩
    · cases ok
      · have HKN : Hid (knownF ⟨(iw : Int), 6, (ia : Int), false⟩ W H = x) := Lib.hid (by rw [HX.out]; rfl)
        have HTN : Hid (thenF of k ⟨(iw : Int), 6, (ia : Int), false⟩ (knownF ⟨(iw : Int), 6, (ia : Int), false⟩ W H) = x) := Lib.hid (by rw [← HKN.out]; exact if_neg (fun h => hof h))
        have HNW : Hid (nextW of k ⟨(iw : Int), 6, (ia : Int), false⟩ W H = W.set iw (x)) := Lib.hid (by unfold nextW; rw [HTN.out]; rfl)
        have HNH : Hid (nextH of k ⟨(iw : Int), 6, (ia : Int), false⟩ W H = H) := Lib.hid rfl
        have hof' : ((iw : Int) == of) = false := by simpa using hof
        clear HTN hof
        all_goals go_wp2_with fail
        all_goals go_ret
        all_goals exact ⟨ret_i HKN.out.symm, by rw [HNW.out, HNH.out]; exact (HN2.out.setW HIW.out (x))⟩
      · have HKN : Hid (knownF ⟨(iw : Int), 6, (ia : Int), true⟩ W H = x) := Lib.hid (by rw [HX.out]; rfl)
        have HTN : Hid (thenF of k ⟨(iw : Int), 6, (ia : Int), true⟩ (knownF ⟨(iw : Int), 6, (ia : Int), true⟩ W H) = x) := Lib.hid (by rw [← HKN.out]; exact if_neg (fun h => hof h))
        have HNW : Hid (nextW of k ⟨(iw : Int), 6, (ia : Int), true⟩ W H = W.set iw (x)) := Lib.hid (by unfold nextW; rw [HTN.out]; rfl)
        have HNH : Hid (nextH of k ⟨(iw : Int), 6, (ia : Int), true⟩ W H = H.set ia (max y (x))) := Lib.hid (by unfold nextH; rw [HTN.out, HY.out]; rfl)
        have hof' : ((iw : Int) == of) = false := by simpa using hof
        clear HTN hof
        go_upto_region 13 with fail
        go_region
        all_goals go_wp2_with fail
        all_goals go_ret
        all_goals exact ⟨ret_i HKN.out.symm, by rw [HNW.out, HNH.out]; exact (((HN2.out.setW HIW.out (x)).below (Below.refl _ _).drew).setH HIA.out (max y (x)))⟩
    · have HKN : Hid (knownF ⟨(iw : Int), 7, (ia : Int), ok⟩ W H = x) := Lib.hid (by rw [HX.out]; rfl)
      have HTN : Hid (thenF of k ⟨(iw : Int), 7, (ia : Int), ok⟩ (knownF ⟨(iw : Int), 7, (ia : Int), ok⟩ W H) = x) := Lib.hid (by rw [← HKN.out]; exact if_neg (fun h => hof h))
      have HNW : Hid (nextW of k ⟨(iw : Int), 7, (ia : Int), ok⟩ W H = W.set iw (x)) := Lib.hid (by unfold nextW; rw [HTN.out]; rfl)
      have HNH : Hid (nextH of k ⟨(iw : Int), 7, (ia : Int), ok⟩ W H = H) := Lib.hid rfl
      have hof' : ((iw : Int) == of) = false := by simpa using hof
      clear HTN hof
      all_goals go_wp2_with fail
      all_goals go_ret
      all_goals exact ⟨ret_i HKN.out.symm, by rw [HNW.out, HNH.out]; exact (HN2.out.setW HIW.out (x))⟩
end Go.Proofs.Ytmggnalobfihnaa.Ck
