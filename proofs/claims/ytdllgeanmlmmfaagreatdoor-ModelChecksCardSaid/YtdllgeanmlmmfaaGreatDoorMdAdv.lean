/-
  PACKAGE model: change, of an Advance. (gen/mdadv.py)
-/
import Derived.Test.YtdllgeanmlmmfaaGreatDoorJoined25
import Derived.Test.YtdllgeanmlmmfaaGreatDoorJoined26
import Derived.Test.YtdllgeanmlmmfaaGreatDoorClAdvance
import Derived.BigQuiet
namespace Go.Proofs.YtdllgeanmlmmfaaGreatDoor.Md
open Go.RowKit Gr Cl Fault
set_option linter.unusedVariables false
set_option linter.unusedSimpArgs false
/-- Whatever lies in a block is a slice. -/
def SlBm (w : World) (P : Nat) : Prop := ∀ o v, w.cell? ⟨P, o, none⟩ = some v → ∃ a n c, v = .slice a n c
theorem slbm_of {w : World} {P : Nat} {a1 a2 : Option Addr} {n1 c1 n2 c2 : Nat} {T : TypeId} (h : w.heap[P]? = some (.cells #[.slice a1 n1 c1, .slice a2 n2 c2] T (0, 0))) : SlBm w P := by
  intro o v hv
  have e : w.cell? ⟨P, o, none⟩ = (#[.slice a1 n1 c1, .slice a2 n2 c2] : Array Value)[o]? := by simp [World.cell?, h]
  rw [e] at hv
  match o, hv with
  | 0, hv => simp at hv; exact ⟨_, _, _, hv.symm⟩
  | 1, hv => simp at hv; exact ⟨_, _, _, hv.symm⟩
  | k + 2, hv => simp at hv
theorem cell_setm {w : World} {P : Nat} {u : Value} (hb : ∀ a n c, u ≠ .slice a n c) {b o : Nat} (hs : SlBm w P) (h : w.cell? ⟨b, o, none⟩ = some u) (j : Nat) (z : Value) : (w.setCell ⟨P, j, none⟩ z).cell? ⟨b, o, none⟩ = some u := by
  have hne : P ≠ b := fun e => by
    subst e
    obtain ⟨a, n, c, e⟩ := hs _ _ h
    exact hb a n c e
  exact (World.cell?_setCell_far _ _ _ _ hne).trans h
theorem chain_setm {w : World} {P : Nat} (hs : SlBm w P) (k : Int) (j : Nat) (z : Value) : ∀ (l : List Pl) (v : Value), Fault.Chain w v l (Fault.errnoV k) → Fault.Chain (w.setCell ⟨P, j, none⟩ z) v l (Fault.errnoV k)
  | [], v, h => h
  | (s, n) :: r, v, h => by
    obtain ⟨blk, v', h0, h1, h2, h3, h4⟩ := h
    have hv : ∀ a n c, v' ≠ .slice a n c := by
      obtain ⟨u, x, e⟩ := Fault.ne_nil (.inl ⟨k, rfl⟩) h4
      rw [e]
      intros
      simp
    exact ⟨blk, v', h0, cell_setm hv hs h1 j z, cell_setm (by intros; simp) hs h2 j z, cell_setm (by intros; simp) hs h3 j z, chain_setm hs k j z r v' h4⟩
def Calls2 (nb : Nat) (n er : Int) (W w : World) (b : Nat) (τ : Nat → Nat) (V : (Int × Int) × Ms) : Prop :=
  (∃ W3, W3 = ((W.setCell ⟨nb, 0, none⟩ (.int .i64 n)).setCell ⟨nb, 1, none⟩ (.int .i64 er)).setCell ⟨nb, 2, none⟩ (.slice none 0 0) ∧ W3.cell? ⟨nb, 0, none⟩ = some (.int .i64 n) ∧ W3.cell? ⟨nb, 1, none⟩ = some (.int .i64 er) ∧ W3.cell? ⟨nb, 2, none⟩ = some (.slice none 0 0) ∧ AnP τ w b V (.returned (.agg #[.int .i64 n, .int .i64 er, .slice none 0 0])) W3) ∧
  W.cell? ⟨nb, 0, none⟩ = some (.int .i64 0) ∧ W.cell? ⟨nb, 1, none⟩ = some (.int .i64 0) ∧ W.cell? ⟨nb, 2, none⟩ = some (.slice none 0 0) ∧ ∀ o, W.frozen? ⟨nb, o, none⟩ = false
theorem calls2 {τ : Nat → Nat} {w w1 W : World} {b nb : Nat} {n er : Int} {s' : Ms} {V : (Int × Int) × Ms} (hz1 : w1.heap[nb]? = some (.cells #[.int .i64 0, .int .i64 0, .slice none 0 0] 48 (0, 0))) (hb1 : Below w.heap.size w w1) (hnb : w.heap.size ≤ nb) (hnb1 : nb < w1.heap.size) (t0 : τ nb = 0) (hV : V = ((n, er), s')) (hP : MdP τ w1 b s' W) (hz : W.heap[nb]? = w1.heap[nb]?) : Calls2 nb n er W w b τ V := by
  have hW := hz.trans hz1
  obtain ⟨r0, r1, r2, _⟩ := three_cells (heap_setCell_same _ nb 2 _ _ (.slice none 0 0) (heap_setCell_same _ nb 1 _ _ (.int .i64 er) (heap_setCell_same _ nb 0 _ _ (.int .i64 n) hW)))
  refine ⟨⟨_, rfl, r0, r1, r2, anp_of hV (hP.zero hb1 ((((Below.refl _ _).setCell (Nat.zero_le _) _).setCell (Nat.zero_le _) _).setCell (Nat.zero_le _) _) fun k hk => ?_)⟩, three_cells hW⟩
  by_cases e : k = nb
  · exact .inr ⟨by omega, by omega, by rw [e]; exact t0⟩
  · exact .inl ((heap_setCell_other _ _ _ _ e).trans ((heap_setCell_other _ _ _ _ e).trans (heap_setCell_other _ _ _ _ e)))
section
variable {τ : Nat → Nat} {w : World} {b i : Nat} {c : Mc} {tv : List Tv} {s : Ms} {x : Th} {R : RcM}
set_option maxRecDepth 1000000 in
set_option maxHeartbeats 16000000 in
theorem mdAdv_any (h : MdAt τ w b c tv s) (hx : s.th[i]? = some x) (hnc : s.cl = false) (hET : Fault.ErrType w) (hlen : x.off.length ≤ 1000) (hd p t : Int) (la : Option Addr) (ln lc : Nat) (y : Int)
    (hcl : (R.k ≠ 0 ∧ ∀ W vh vb, Cl.OwnAt W vh vb x.H x.B → Calls Tryz.prog 73 #[.agg #[vh, vb], .int .i64 hd, .int .u64 t] W (CNe R W)) ∨ (R.k = 0 ∧ ∀ W vh vb, Cl.OwnAt W vh vb x.H x.B → Calls Tryz.prog 73 #[.agg #[vh, vb], .int .i64 hd, .int .u64 t] W (CNo R W)))
    (hwH : ∀ e ∈ R.hs, e.Wf) (hwB : ∀ e ∈ R.bs, e.Wf) (hwC : ∀ e ∈ R.ch, e.Wf) (hlC : R.ch.length ≤ 1000) :
    Calls Tryz.prog 40 #[.pointer (some ⟨b, 0, none⟩), .agg #[.int .i64 1, .int .i64 (i : Int), .int .i64 hd, .int .i64 p, .int .u64 t, .slice la ln lc, .int .i64 y]] w (AnP τ w b (chV s i x R 0)) := by
  obtain ⟨g', tt, hth', tg, ht, hT, hgl, hic, d0, d1, d2, d3, df⟩ := h.thr_at hx
  obtain ⟨⟨ha, hn, hc⟩, ⟨ba, bn, bc⟩, so, sr⟩ := tt
  obtain ⟨w1, hw1⟩ : ∃ w1, w1 = (w.alloc (.cells #[.int .i64 1, .int .i64 (i : Int), .int .i64 hd, .int .i64 p, .int .u64 t, .slice la ln lc, .int .i64 y] 53)).alloc (.cells #[.int .i64 0, .int .i64 0, .slice none 0 0] 48) := ⟨_, rfl⟩
  have hb1 : Below w.heap.size w w1 := by rw [hw1]; exact ((Below.refl _ _).alloc (Nat.le_refl _) _).alloc (by simp) _
  have HXO := Lib.hid (show w1.heap[w.heap.size]? = some (.cells #[.int .i64 1, .int .i64 (i : Int), .int .i64 hd, .int .i64 p, .int .u64 t, .slice la ln lc, .int .i64 y] 53 (0, 0)) by rw [hw1, heap_alloc_old _ _ (by simp)]; exact heap_alloc_new w _)
  have HZ := Lib.hid (show w1.heap[w.heap.size + 1]? = some (.cells #[.int .i64 0, .int .i64 0, .slice none 0 0] 48 (0, 0)) by
    rw [hw1]; have h := heap_alloc_new (w.alloc (.cells #[.int .i64 1, .int .i64 (i : Int), .int .i64 hd, .int .i64 p, .int .u64 t, .slice la ln lc, .int .i64 y] 53)) (.cells #[.int .i64 0, .int .i64 0, .slice none 0 0] 48); simpa using h)
  have HS1 := Lib.hid (show w1.heap.size = w.heap.size + 1 + 1 by rw [hw1]; simp)
  have HM := Lib.hid (h.below hb1)
  have HB1 := Lib.hid hb1
  have HX := Lib.hid hx
  have HTH := Lib.hid hth'
  have HTT := Lib.hid ht
  have HTG := Lib.hid tg
  have HET := Lib.hid hET
  have HG0 := Lib.hid hgl
  have HLW := Lib.hid (And.intro hlen (And.intro hwH (And.intro hwB (And.intro hwC hlC))))
  have HN := Lib.hid (show w.heap.size < w1.heap.size ∧ w.heap.size + 1 < w1.heap.size ∧ g' < w1.heap.size by rw [HS1.out]; omega)
  have t0 : τ (w.heap.size + 1) = 0 := Classical.byContradiction fun h' => by have := h.tz _ h'; omega
  have HT0 := Lib.hid t0
  have HK := Lib.hid (And.intro ((hb1.cell (p := ⟨g', i * 4, none⟩) hgl).trans d0) ((hb1.cell (p := ⟨g', i * 4 + 1, none⟩) hgl).trans d1))
  have k8 := (h.below hb1).mc.c8
  rw [h.cl, hnc] at k8
  have k3 := (h.below hb1).mc.c3
  rw [hth'] at k3
  obtain ⟨x0, x1, x2, x3, x4, x5, x6⟩ := cells7 HXO.out
  have q0 : (0 : Int) ≤ (i : Int) := Int.natCast_nonneg _
  have q1 : (i : Int) < (c.n : Int) := by omega
  have HFIN := Lib.hid (fun (n er : Int) (s' : Ms) (W : World) (V : (Int × Int) × Ms) (hV : V = ((n, er), s')) (hP : MdP τ w1 b s' W) (hz : W.heap[w.heap.size + 1]? = w1.heap[w.heap.size + 1]?) => calls2 HZ.out HB1.out (Nat.le_succ _) HN.out.2.1 HT0.out hV hP hz)
  rcases hcl with ⟨hk, hcl⟩ | ⟨hk, hcl⟩
  · have HV := Lib.hid (show chV s i x R 0 = ((0, R.k), s) by unfold chV; rw [if_pos hk])
    have HCL := Lib.hid hcl
    clear h hb1 hx hth' tg ht hT hgl hic d0 d1 d2 d3 df hET hlen hwH hwB hwC hlC t0 hnc hcl hk
    go_enter Tryz.func40, Tryz.ntmps40
    go_upto_region 1 with fail
    rw [← hw1]
    clear hw1
    go_wp2_with fail
    go_quiet (fail)
    obtain ⟨w2, hw2⟩ : ∃ w2, w2 = w1.drewN nq := ⟨_, rfl⟩
    rw [← hw2]
    have hb12 : Below w1.heap.size w1 w2 := by rw [hw2]; exact below_drewN (Below.refl _ _) nq
    have hs12 : w2.heap.size = w1.heap.size := by rw [hw2]; rfl
    obtain ⟨w3, hw3⟩ : ∃ w3, w3 = w2.alloc (.cells #[.slice none 0 0, .slice none 0 0] 60) := ⟨_, rfl⟩
    have hb23 : Below w2.heap.size w2 w3 := by rw [hw3]; exact (Below.refl _ _).alloc (Nat.le_refl _) _
    have hb13 := hb12.trans (hb23.mono (Nat.le_of_eq hs12.symm))
    have HB13 := Lib.hid hb13
    have hsz2 : w2.heap.size = w.heap.size + 1 + 1 := by rw [hs12, HS1.out]
    have HZ3 := Lib.hid (show w3.heap[w.heap.size + 1 + 1]? = some (.cells #[.slice none 0 0, .slice none 0 0] 60 (0, 0)) by rw [hw3, ← hsz2]; exact heap_alloc_new w2 _)
    have HL3 := Lib.hid (show w.heap.size + 1 + 1 < w3.heap.size by rw [hw3]; simp [hsz2])
    have hxo3 := (hb13.block _ HN.out.1).trans HXO.out
    obtain ⟨_, _, y0, _, y1, _, _⟩ := cells7 hxo3
    obtain ⟨o0, o1, o2, o3, o4, o5, o6⟩ := cells7 ((hb12.block _ HN.out.1).trans HXO.out)
    have y2 := (hb13.cell (p := ⟨g', i * 4, none⟩) HN.out.2.2).trans HK.out.1
    have y3 := (hb13.cell (p := ⟨g', i * 4 + 1, none⟩) HN.out.2.2).trans HK.out.2
    unfold Sx.val at y2 y3
    have HY := Lib.hid (And.intro y0 (And.intro y1 (And.intro y2 y3)))
    have HM3 := Lib.hid (HM.out.below hb13)
    have HOA := Lib.hid (show Cl.OwnAt w3.drew (.slice ha hn hc) (.slice ba bn bc) x.H x.B from ⟨(HM3.out.below (below_drewN (Below.refl w3.heap.size w3) 1)).thr i _ x HTT.out HX.out |>.hs.out, (HM3.out.below (below_drewN (Below.refl w3.heap.size w3) 1)).thr i _ x HTT.out HX.out |>.bs.out⟩)
    have hnn : w.heap.size + 1 + 1 ≠ w.heap.size := by omega
    have hgo : w.heap.size + 1 + 1 ≠ g' := by have := HN.out.2.2; have := HG0.out; omega
    clear x0 x1 x2 x3 x4 x5 x6 k3 k8 hb12 hs12 hb23 hb13 hxo3 hw2
    go_upto_region 12 with fail
    rw [← hw3]
    clear hw3 hsz2 o0 o1 o2 o3 o4 o5 o6
    refine wp_region_held_drew (S := (fun w' => w'.cell? ⟨w.heap.size, 2, none⟩ = some (.int .i64 hd) ∧ w'.cell? ⟨w.heap.size, 4, none⟩ = some (.int .u64 t) ∧ w'.cell? ⟨g', i * 4, none⟩ = some (.slice ha hn hc) ∧ w'.cell? ⟨g', i * 4 + 1, none⟩ = some (.slice ba bn bc))) (by kernel_rfl) ?_ (fun hHeld => ?_)
    · ((try dsimp only); exact ⟨y0, y1, y2, y3⟩)
    refine wpAnyH_take (i := 0) (v := ?_) rfl (by kernel_rfl) (by kernel_rfl) (by kernel_rfl) (fun _ _ _ h => h) (Or.inl ⟨by rfl, ?_⟩) (by assumption) ?_
    rotate_left 1
    · (intro w hSw; (try dsimp only at hSw); first | (go_simp; done) | (go_simp; with_reducible rfl))
    try simp only [Act.put, List.setIfInBounds_toArray, List.set_cons_zero, List.set_cons_succ, List.getElem_toArray, List.getElem_cons_zero]
    refine wpAnyH_take (i := 1) (v := ?_) rfl (by kernel_rfl) (by kernel_rfl) (by kernel_rfl) (fun _ _ _ h => h) (Or.inl ⟨by rfl, ?_⟩) (by assumption) ?_
    rotate_left 1
    · (intro w hSw; (try dsimp only at hSw); first | (go_simp; done) | (go_simp; with_reducible rfl))
    try simp only [Act.put, List.setIfInBounds_toArray, List.set_cons_zero, List.set_cons_succ, List.getElem_toArray, List.getElem_cons_zero, List.getElem_cons_succ]
    refine wpAnyH_take (i := 2) (v := ?_) rfl (by kernel_rfl) (by kernel_rfl) (by kernel_rfl) (fun _ _ _ h => h) (Or.inl ⟨by rfl, ?_⟩) (by assumption) ?_
    rotate_left 1
    · (intro w hSw; (try dsimp only at hSw); first | (go_simp; done) | (go_simp; with_reducible rfl))
    try simp only [Act.put, List.setIfInBounds_toArray, List.set_cons_zero, List.set_cons_succ, List.getElem_toArray, List.getElem_cons_zero, List.getElem_cons_succ]
    refine wpAnyH_take (i := 3) (v := ?_) rfl (by kernel_rfl) (by kernel_rfl) (by kernel_rfl) (fun _ _ _ h => h) (Or.inl ⟨by rfl, ?_⟩) (by assumption) ?_
    rotate_left 1
    · (intro w hSw; (try dsimp only at hSw); first | (go_simp; done) | (go_simp; with_reducible rfl))
    try simp only [Act.put, List.setIfInBounds_toArray, List.set_cons_zero, List.set_cons_succ, List.getElem_toArray, List.getElem_cons_zero, List.getElem_cons_succ]
    refine wpAnyH_take (i := 4) (v := ?_) rfl (by kernel_rfl) (by kernel_rfl) (by kernel_rfl) (fun _ _ _ h => h) (Or.inl ⟨by rfl, ?_⟩) (by assumption) ?_
    rotate_left 1
    · (intro w hSw; (try dsimp only at hSw); first | (go_simp; done) | (go_simp; with_reducible rfl))
    try simp only [Act.put, List.setIfInBounds_toArray, List.set_cons_zero, List.set_cons_succ, List.getElem_toArray, List.getElem_cons_zero, List.getElem_cons_succ]
    refine wpAnyH_take (i := 5) (v := ?_) rfl (by kernel_rfl) (by kernel_rfl) (by kernel_rfl) (fun _ _ _ h => h) (Or.inl ⟨by rfl, ?_⟩) (by assumption) ?_
    rotate_left 1
    · (intro w hSw; (try dsimp only at hSw); first | (go_simp; done) | (go_simp; with_reducible rfl))
    try simp only [Act.put, List.setIfInBounds_toArray, List.set_cons_zero, List.set_cons_succ, List.getElem_toArray, List.getElem_cons_zero, List.getElem_cons_succ]
    refine wpAnyH_take (i := 6) (v := ?_) rfl (by kernel_rfl) (by kernel_rfl) (by kernel_rfl) (fun _ _ _ h => h) (Or.inl ⟨by rfl, ?_⟩) (by assumption) ?_
    rotate_left 1
    · (intro w hSw; (try dsimp only at hSw); first | (go_simp; done) | (go_simp; with_reducible rfl))
    try simp only [Act.put, List.setIfInBounds_toArray, List.set_cons_zero, List.set_cons_succ, List.getElem_toArray, List.getElem_cons_zero, List.getElem_cons_succ]
    refine wpAnyH_take (i := 7) (v := ?_) rfl (by kernel_rfl) (by kernel_rfl) (by kernel_rfl) (fun _ _ _ h => h) (Or.inl ⟨by rfl, ?_⟩) (by assumption) ?_
    rotate_left 1
    · (intro w hSw; (try dsimp only at hSw); first | (go_simp; done) | (go_simp; with_reducible rfl))
    try simp only [Act.put, List.setIfInBounds_toArray, List.set_cons_zero, List.set_cons_succ, List.getElem_toArray, List.getElem_cons_zero, List.getElem_cons_succ]
    refine wpAnyH_ready (rs := [8]) (by kernel_rfl) (by simp) ?_
    refine AllReadyH.cons rfl (fun K hK => ?_) AllReadyH.nil
    go_simp
    go_at_call 73
    refine (HCL.out _ _ _ HOA.out).mono ?_
    rintro e w4 ⟨a1, n1, c1, a2, n2, c2, a3, n3, c3, u, xx, l, rfl, her, hb⟩
    have hb34 : Below w3.heap.size w3 w4 := (below_drewN (Below.refl w3.heap.size w3) 1).trans hb
    have HB34 := Lib.hid hb34
    have hz4 := (hb34.block _ HL3.out).trans HZ3.out
    obtain ⟨v0, v1, vf⟩ := pair_cells hz4
    have vf0 := vf 0
    have vf1 := vf 1
    have HZ4 := Lib.hid hz4
    have HER := Lib.hid her
    clear her hb hz4 vf
    try go_wp2_with fail
    refine hK.out _ _ ?_ (fun hHeld => ?_)
    · ((try dsimp only); exact ⟨(hb34.cell (p := ⟨w.heap.size, 2, none⟩) (Lib.lt_of_cell HY.out.1)).trans HY.out.1, (hb34.cell (p := ⟨w.heap.size, 4, none⟩) (Lib.lt_of_cell HY.out.2.1)).trans HY.out.2.1, (hb34.cell (p := ⟨g', i * 4, none⟩) (Lib.lt_of_cell HY.out.2.2.1)).trans HY.out.2.2.1, (hb34.cell (p := ⟨g', i * 4 + 1, none⟩) (Lib.lt_of_cell HY.out.2.2.2)).trans HY.out.2.2.2⟩)
    clear hK K
    try simp only [Act.put, List.setIfInBounds_toArray, List.set_cons_zero, List.set_cons_succ, List.getElem_toArray, List.getElem_cons_zero, List.getElem_cons_succ]
    refine wpAnyH_take (i := 9) (v := ?_) rfl (by kernel_rfl) (by kernel_rfl) (by kernel_rfl) (fun _ _ _ h => h) (Or.inl ⟨by rfl, ?_⟩) (by assumption) ?_
    rotate_left 1
    · (intro w hSw; (try dsimp only at hSw); first | (go_simp; done) | (go_simp; with_reducible rfl))
    try simp only [Act.put, List.setIfInBounds_toArray, List.set_cons_zero, List.set_cons_succ, List.getElem_toArray, List.getElem_cons_zero, List.getElem_cons_succ]
    refine wpAnyH_take (i := 10) (v := ?_) rfl (by kernel_rfl) (by kernel_rfl) (by kernel_rfl) (fun _ _ _ h => h) (Or.inl ⟨by rfl, ?_⟩) (by assumption) ?_
    rotate_left 1
    · (intro w hSw; (try dsimp only at hSw); first | (go_simp; done) | (go_simp; with_reducible rfl))
    try simp only [Act.put, List.setIfInBounds_toArray, List.set_cons_zero, List.set_cons_succ, List.getElem_toArray, List.getElem_cons_zero, List.getElem_cons_succ]
    refine wpAnyH_take (i := 11) (v := ?_) rfl (by kernel_rfl) (by kernel_rfl) (by kernel_rfl) (fun _ _ _ h => h) (Or.inl ⟨by rfl, ?_⟩) (by assumption) ?_
    rotate_left 1
    · (intro w hSw; (try dsimp only at hSw); first | (go_simp; done) | (go_simp; with_reducible rfl))
    try simp only [Act.put, List.setIfInBounds_toArray, List.set_cons_zero, List.set_cons_succ, List.getElem_toArray, List.getElem_cons_zero, List.getElem_cons_succ]
    refine wpAnyH_take (i := 12) (v := ?_) rfl (by kernel_rfl) (by kernel_rfl) (by kernel_rfl) (fun _ _ _ h => h) (Or.inl ⟨by rfl, ?_⟩) (by assumption) ?_
    rotate_left 1
    · (intro w hSw; (try dsimp only at hSw); first | (go_simp; done) | (go_simp; with_reducible rfl))
    try simp only [Act.put, List.setIfInBounds_toArray, List.set_cons_zero, List.set_cons_succ, List.getElem_toArray, List.getElem_cons_zero, List.getElem_cons_succ]
    have hH := hHeld
    refine wpAnyH_ready (rs := [13]) (by kernel_rfl) (by simp) ?_
    refine AllReadyH.cons rfl (fun K hK => ?_) AllReadyH.nil
    go_simp
    refine hK.out _ _ ?_ (fun hHeld => ?_)
    · ((try dsimp only); exact ⟨(World.cell?_setCell_far _ _ _ _ hnn).trans ((World.cell?_setCell_far _ _ _ _ hnn).trans hH.1), (World.cell?_setCell_far _ _ _ _ hnn).trans ((World.cell?_setCell_far _ _ _ _ hnn).trans hH.2.1), (World.cell?_setCell_far _ _ _ _ hgo).trans ((World.cell?_setCell_far _ _ _ _ hgo).trans hH.2.2.1), (World.cell?_setCell_far _ _ _ _ hgo).trans ((World.cell?_setCell_far _ _ _ _ hgo).trans hH.2.2.2)⟩)
    clear hK K hH
    try simp only [Act.put, List.setIfInBounds_toArray, List.set_cons_zero, List.set_cons_succ, List.getElem_toArray, List.getElem_cons_zero, List.getElem_cons_succ]
    refine wpAnyH_take (i := 14) (v := ?_) rfl (by kernel_rfl) (by kernel_rfl) (by kernel_rfl) (fun _ _ _ h => h) (Or.inl ⟨by rfl, ?_⟩) (by assumption) ?_
    rotate_left 1
    · (intro w hSw; (try dsimp only at hSw); first | (go_simp; done) | (go_simp; with_reducible rfl))
    try simp only [Act.put, List.setIfInBounds_toArray, List.set_cons_zero, List.set_cons_succ, List.getElem_toArray, List.getElem_cons_zero, List.getElem_cons_succ]
    refine wpAnyH_take (i := 15) (v := ?_) rfl (by kernel_rfl) (by kernel_rfl) (by kernel_rfl) (fun _ _ _ h => h) (Or.inl ⟨by rfl, ?_⟩) (by assumption) ?_
    rotate_left 1
    · (intro w hSw; (try dsimp only at hSw); first | (go_simp; done) | (go_simp; with_reducible rfl))
    try simp only [Act.put, List.setIfInBounds_toArray, List.set_cons_zero, List.set_cons_succ, List.getElem_toArray, List.getElem_cons_zero, List.getElem_cons_succ]
    refine wpAnyH_done (by kernel_rfl) ?_ _
    obtain ⟨w5, hw5⟩ : ∃ w5, w5 = (w4.setCell ⟨w.heap.size + 1 + 1, 0, none⟩ (.slice a1 n1 c1)).setCell ⟨w.heap.size + 1 + 1, 1, none⟩ (.slice a2 n2 c2) := ⟨_, rfl⟩
    rw [← hw5]
    have hb15 : Below w1.heap.size w1 w5 := by
      rw [hw5]
      exact ((HB13.out.trans (HB34.out.mono HB13.out.size)).setCell (p := ⟨w.heap.size + 1 + 1, 0, none⟩) (Nat.le_of_eq HS1.out) _).setCell (p := ⟨w.heap.size + 1 + 1, 1, none⟩) (Nat.le_of_eq HS1.out) _
    have hE5 : Fault.Chain w5 (.iface u xx) l (Fault.errnoV R.k) := by
      rcases HER.out with ⟨_, _, h⟩ | ⟨_, h, _⟩
      · simp at h
      · rw [hw5]
        exact chain_setm (slbm_of (heap_setCell_same _ (w.heap.size + 1 + 1) 0 _ _ (.slice a1 n1 c1) HZ4.out)) _ _ _ _ _ (chain_setm (slbm_of HZ4.out) _ _ _ _ _ h)
    have hET5 : Fault.ErrType w5 := ((HB1.out.trans (hb15.mono HB1.out.size)).cell (p := ⟨_, 0, none⟩) (Lib.lt_of_cell HET.out)).trans HET.out
    have HKI := Lib.hid (Fault.kind_errno R.k hET5 hE5)
    have HB15 := Lib.hid hb15
    clear hw5 hb15 hE5 hET5 v0 v1 vf0 vf1 hHeld y0 y1 y2 y3 hb34 hgo hnn
    go_wp2_with fail
    go_at_call 10
    refine HKI.out.mono ?_
    rintro e w6 ⟨rfl, hb6⟩
    have hb16 := HB15.out.trans (hb6.mono HB15.out.size)
    obtain ⟨⟨W3, hW3, r0, r1, r2, hF⟩, z0, z1, z2, zf⟩ := HFIN.out 0 R.k s w6 _ HV.out (MdP.same ⟨c, tv, HM.out⟩ hb16) (hb16.block _ HN.out.2.1)
    have zf0 := zf 0
    have zf1 := zf 1
    have zf2 := zf 2
    have HF := Lib.hid hF
    have HW3 := Lib.hid hW3
    clear zf hF hW3 hb16 hb6
    go_wp2_with fail
    rw [HW3.out] at r0 r1 r2
    exact bodyPost_ret (v := .agg #[.int .i64 0, .int .i64 R.k, .slice none 0 0]) (by simp [results, Tryz.results40, go_sem, r0, r1, r2]) rfl (by have h := HF.out; rw [HW3.out] at h; exact h)
  · have HK0 := Lib.hid hk
    have HCL := Lib.hid hcl
    clear h hb1 hx hth' tg ht hT hgl hic d0 d1 d2 d3 df hET hlen hwH hwB hwC hlC t0 hnc hcl hk
    go_enter Tryz.func40, Tryz.ntmps40
    go_upto_region 1 with fail
    rw [← hw1]
    clear hw1
    go_wp2_with fail
    go_quiet (fail)
    obtain ⟨w2, hw2⟩ : ∃ w2, w2 = w1.drewN nq := ⟨_, rfl⟩
    rw [← hw2]
    have hb12 : Below w1.heap.size w1 w2 := by rw [hw2]; exact below_drewN (Below.refl _ _) nq
    have hs12 : w2.heap.size = w1.heap.size := by rw [hw2]; rfl
    obtain ⟨w3, hw3⟩ : ∃ w3, w3 = w2.alloc (.cells #[.slice none 0 0, .slice none 0 0] 60) := ⟨_, rfl⟩
    have hb23 : Below w2.heap.size w2 w3 := by rw [hw3]; exact (Below.refl _ _).alloc (Nat.le_refl _) _
    have hb13 := hb12.trans (hb23.mono (Nat.le_of_eq hs12.symm))
    have HB13 := Lib.hid hb13
    have hsz2 : w2.heap.size = w.heap.size + 1 + 1 := by rw [hs12, HS1.out]
    have HZ3 := Lib.hid (show w3.heap[w.heap.size + 1 + 1]? = some (.cells #[.slice none 0 0, .slice none 0 0] 60 (0, 0)) by rw [hw3, ← hsz2]; exact heap_alloc_new w2 _)
    have HL3 := Lib.hid (show w.heap.size + 1 + 1 < w3.heap.size by rw [hw3]; simp [hsz2])
    have hxo3 := (hb13.block _ HN.out.1).trans HXO.out
    obtain ⟨_, _, y0, _, y1, _, _⟩ := cells7 hxo3
    obtain ⟨o0, o1, o2, o3, o4, o5, o6⟩ := cells7 ((hb12.block _ HN.out.1).trans HXO.out)
    have y2 := (hb13.cell (p := ⟨g', i * 4, none⟩) HN.out.2.2).trans HK.out.1
    have y3 := (hb13.cell (p := ⟨g', i * 4 + 1, none⟩) HN.out.2.2).trans HK.out.2
    unfold Sx.val at y2 y3
    have HY := Lib.hid (And.intro y0 (And.intro y1 (And.intro y2 y3)))
    have HM3 := Lib.hid (HM.out.below hb13)
    have HOA := Lib.hid (show Cl.OwnAt w3.drew (.slice ha hn hc) (.slice ba bn bc) x.H x.B from ⟨(HM3.out.below (below_drewN (Below.refl w3.heap.size w3) 1)).thr i _ x HTT.out HX.out |>.hs.out, (HM3.out.below (below_drewN (Below.refl w3.heap.size w3) 1)).thr i _ x HTT.out HX.out |>.bs.out⟩)
    have hnn : w.heap.size + 1 + 1 ≠ w.heap.size := by omega
    have hgo : w.heap.size + 1 + 1 ≠ g' := by have := HN.out.2.2; have := HG0.out; omega
    clear x0 x1 x2 x3 x4 x5 x6 k3 k8 hb12 hs12 hb23 hb13 hxo3 hw2
    go_upto_region 12 with fail
    rw [← hw3]
    clear hw3 hsz2 o0 o1 o2 o3 o4 o5 o6
    refine wp_region_held_drew (S := (fun w' => w'.cell? ⟨w.heap.size, 2, none⟩ = some (.int .i64 hd) ∧ w'.cell? ⟨w.heap.size, 4, none⟩ = some (.int .u64 t) ∧ w'.cell? ⟨g', i * 4, none⟩ = some (.slice ha hn hc) ∧ w'.cell? ⟨g', i * 4 + 1, none⟩ = some (.slice ba bn bc))) (by kernel_rfl) ?_ (fun hHeld => ?_)
    · ((try dsimp only); exact ⟨y0, y1, y2, y3⟩)
    refine wpAnyH_take (i := 0) (v := ?_) rfl (by kernel_rfl) (by kernel_rfl) (by kernel_rfl) (fun _ _ _ h => h) (Or.inl ⟨by rfl, ?_⟩) (by assumption) ?_
    rotate_left 1
    · (intro w hSw; (try dsimp only at hSw); first | (go_simp; done) | (go_simp; with_reducible rfl))
    try simp only [Act.put, List.setIfInBounds_toArray, List.set_cons_zero, List.set_cons_succ, List.getElem_toArray, List.getElem_cons_zero]
    refine wpAnyH_take (i := 1) (v := ?_) rfl (by kernel_rfl) (by kernel_rfl) (by kernel_rfl) (fun _ _ _ h => h) (Or.inl ⟨by rfl, ?_⟩) (by assumption) ?_
    rotate_left 1
    · (intro w hSw; (try dsimp only at hSw); first | (go_simp; done) | (go_simp; with_reducible rfl))
    try simp only [Act.put, List.setIfInBounds_toArray, List.set_cons_zero, List.set_cons_succ, List.getElem_toArray, List.getElem_cons_zero, List.getElem_cons_succ]
    refine wpAnyH_take (i := 2) (v := ?_) rfl (by kernel_rfl) (by kernel_rfl) (by kernel_rfl) (fun _ _ _ h => h) (Or.inl ⟨by rfl, ?_⟩) (by assumption) ?_
    rotate_left 1
    · (intro w hSw; (try dsimp only at hSw); first | (go_simp; done) | (go_simp; with_reducible rfl))
    try simp only [Act.put, List.setIfInBounds_toArray, List.set_cons_zero, List.set_cons_succ, List.getElem_toArray, List.getElem_cons_zero, List.getElem_cons_succ]
    refine wpAnyH_take (i := 3) (v := ?_) rfl (by kernel_rfl) (by kernel_rfl) (by kernel_rfl) (fun _ _ _ h => h) (Or.inl ⟨by rfl, ?_⟩) (by assumption) ?_
    rotate_left 1
    · (intro w hSw; (try dsimp only at hSw); first | (go_simp; done) | (go_simp; with_reducible rfl))
    try simp only [Act.put, List.setIfInBounds_toArray, List.set_cons_zero, List.set_cons_succ, List.getElem_toArray, List.getElem_cons_zero, List.getElem_cons_succ]
    refine wpAnyH_take (i := 4) (v := ?_) rfl (by kernel_rfl) (by kernel_rfl) (by kernel_rfl) (fun _ _ _ h => h) (Or.inl ⟨by rfl, ?_⟩) (by assumption) ?_
    rotate_left 1
    · (intro w hSw; (try dsimp only at hSw); first | (go_simp; done) | (go_simp; with_reducible rfl))
    try simp only [Act.put, List.setIfInBounds_toArray, List.set_cons_zero, List.set_cons_succ, List.getElem_toArray, List.getElem_cons_zero, List.getElem_cons_succ]
    refine wpAnyH_take (i := 5) (v := ?_) rfl (by kernel_rfl) (by kernel_rfl) (by kernel_rfl) (fun _ _ _ h => h) (Or.inl ⟨by rfl, ?_⟩) (by assumption) ?_
    rotate_left 1
    · (intro w hSw; (try dsimp only at hSw); first | (go_simp; done) | (go_simp; with_reducible rfl))
    try simp only [Act.put, List.setIfInBounds_toArray, List.set_cons_zero, List.set_cons_succ, List.getElem_toArray, List.getElem_cons_zero, List.getElem_cons_succ]
    refine wpAnyH_take (i := 6) (v := ?_) rfl (by kernel_rfl) (by kernel_rfl) (by kernel_rfl) (fun _ _ _ h => h) (Or.inl ⟨by rfl, ?_⟩) (by assumption) ?_
    rotate_left 1
    · (intro w hSw; (try dsimp only at hSw); first | (go_simp; done) | (go_simp; with_reducible rfl))
    try simp only [Act.put, List.setIfInBounds_toArray, List.set_cons_zero, List.set_cons_succ, List.getElem_toArray, List.getElem_cons_zero, List.getElem_cons_succ]
    refine wpAnyH_take (i := 7) (v := ?_) rfl (by kernel_rfl) (by kernel_rfl) (by kernel_rfl) (fun _ _ _ h => h) (Or.inl ⟨by rfl, ?_⟩) (by assumption) ?_
    rotate_left 1
    · (intro w hSw; (try dsimp only at hSw); first | (go_simp; done) | (go_simp; with_reducible rfl))
    try simp only [Act.put, List.setIfInBounds_toArray, List.set_cons_zero, List.set_cons_succ, List.getElem_toArray, List.getElem_cons_zero, List.getElem_cons_succ]
    refine wpAnyH_ready (rs := [8]) (by kernel_rfl) (by simp) ?_
    refine AllReadyH.cons rfl (fun K hK => ?_) AllReadyH.nil
    go_simp
    go_at_call 73
    refine (HCL.out _ _ _ HOA.out).mono ?_
    rintro e w4 ⟨a1, n1, c1, a2, n2, c2, a3, c3, rfl, ho1, ho2, ho3, hb⟩
    have hb34 : Below w3.heap.size w3 w4 := (below_drewN (Below.refl w3.heap.size w3) 1).trans hb
    have HB34 := Lib.hid hb34
    have hz4 := (hb34.block _ HL3.out).trans HZ3.out
    obtain ⟨v0, v1, vf⟩ := pair_cells hz4
    have vf0 := vf 0
    have vf1 := vf 1
    have HZ4 := Lib.hid hz4
    have HO1 := Lib.hid ho1
    have HO2 := Lib.hid ho2
    have HO3 := Lib.hid ho3
    clear ho1 ho2 ho3 hb hz4 vf
    try go_wp2_with fail
    refine hK.out _ _ ?_ (fun hHeld => ?_)
    · ((try dsimp only); exact ⟨(hb34.cell (p := ⟨w.heap.size, 2, none⟩) (Lib.lt_of_cell HY.out.1)).trans HY.out.1, (hb34.cell (p := ⟨w.heap.size, 4, none⟩) (Lib.lt_of_cell HY.out.2.1)).trans HY.out.2.1, (hb34.cell (p := ⟨g', i * 4, none⟩) (Lib.lt_of_cell HY.out.2.2.1)).trans HY.out.2.2.1, (hb34.cell (p := ⟨g', i * 4 + 1, none⟩) (Lib.lt_of_cell HY.out.2.2.2)).trans HY.out.2.2.2⟩)
    clear hK K
    try simp only [Act.put, List.setIfInBounds_toArray, List.set_cons_zero, List.set_cons_succ, List.getElem_toArray, List.getElem_cons_zero, List.getElem_cons_succ]
    refine wpAnyH_take (i := 9) (v := ?_) rfl (by kernel_rfl) (by kernel_rfl) (by kernel_rfl) (fun _ _ _ h => h) (Or.inl ⟨by rfl, ?_⟩) (by assumption) ?_
    rotate_left 1
    · (intro w hSw; (try dsimp only at hSw); first | (go_simp; done) | (go_simp; with_reducible rfl))
    try simp only [Act.put, List.setIfInBounds_toArray, List.set_cons_zero, List.set_cons_succ, List.getElem_toArray, List.getElem_cons_zero, List.getElem_cons_succ]
    refine wpAnyH_take (i := 10) (v := ?_) rfl (by kernel_rfl) (by kernel_rfl) (by kernel_rfl) (fun _ _ _ h => h) (Or.inl ⟨by rfl, ?_⟩) (by assumption) ?_
    rotate_left 1
    · (intro w hSw; (try dsimp only at hSw); first | (go_simp; done) | (go_simp; with_reducible rfl))
    try simp only [Act.put, List.setIfInBounds_toArray, List.set_cons_zero, List.set_cons_succ, List.getElem_toArray, List.getElem_cons_zero, List.getElem_cons_succ]
    refine wpAnyH_take (i := 11) (v := ?_) rfl (by kernel_rfl) (by kernel_rfl) (by kernel_rfl) (fun _ _ _ h => h) (Or.inl ⟨by rfl, ?_⟩) (by assumption) ?_
    rotate_left 1
    · (intro w hSw; (try dsimp only at hSw); first | (go_simp; done) | (go_simp; with_reducible rfl))
    try simp only [Act.put, List.setIfInBounds_toArray, List.set_cons_zero, List.set_cons_succ, List.getElem_toArray, List.getElem_cons_zero, List.getElem_cons_succ]
    refine wpAnyH_take (i := 12) (v := ?_) rfl (by kernel_rfl) (by kernel_rfl) (by kernel_rfl) (fun _ _ _ h => h) (Or.inl ⟨by rfl, ?_⟩) (by assumption) ?_
    rotate_left 1
    · (intro w hSw; (try dsimp only at hSw); first | (go_simp; done) | (go_simp; with_reducible rfl))
    try simp only [Act.put, List.setIfInBounds_toArray, List.set_cons_zero, List.set_cons_succ, List.getElem_toArray, List.getElem_cons_zero, List.getElem_cons_succ]
    have hH := hHeld
    refine wpAnyH_ready (rs := [13]) (by kernel_rfl) (by simp) ?_
    refine AllReadyH.cons rfl (fun K hK => ?_) AllReadyH.nil
    go_simp
    refine hK.out _ _ ?_ (fun hHeld => ?_)
    · ((try dsimp only); exact ⟨(World.cell?_setCell_far _ _ _ _ hnn).trans ((World.cell?_setCell_far _ _ _ _ hnn).trans hH.1), (World.cell?_setCell_far _ _ _ _ hnn).trans ((World.cell?_setCell_far _ _ _ _ hnn).trans hH.2.1), (World.cell?_setCell_far _ _ _ _ hgo).trans ((World.cell?_setCell_far _ _ _ _ hgo).trans hH.2.2.1), (World.cell?_setCell_far _ _ _ _ hgo).trans ((World.cell?_setCell_far _ _ _ _ hgo).trans hH.2.2.2)⟩)
    clear hK K hH
    try simp only [Act.put, List.setIfInBounds_toArray, List.set_cons_zero, List.set_cons_succ, List.getElem_toArray, List.getElem_cons_zero, List.getElem_cons_succ]
    refine wpAnyH_take (i := 14) (v := ?_) rfl (by kernel_rfl) (by kernel_rfl) (by kernel_rfl) (fun _ _ _ h => h) (Or.inl ⟨by rfl, ?_⟩) (by assumption) ?_
    rotate_left 1
    · (intro w hSw; (try dsimp only at hSw); first | (go_simp; done) | (go_simp; with_reducible rfl))
    try simp only [Act.put, List.setIfInBounds_toArray, List.set_cons_zero, List.set_cons_succ, List.getElem_toArray, List.getElem_cons_zero, List.getElem_cons_succ]
    refine wpAnyH_take (i := 15) (v := ?_) rfl (by kernel_rfl) (by kernel_rfl) (by kernel_rfl) (fun _ _ _ h => h) (Or.inl ⟨by rfl, ?_⟩) (by assumption) ?_
    rotate_left 1
    · (intro w hSw; (try dsimp only at hSw); first | (go_simp; done) | (go_simp; with_reducible rfl))
    try simp only [Act.put, List.setIfInBounds_toArray, List.set_cons_zero, List.set_cons_succ, List.getElem_toArray, List.getElem_cons_zero, List.getElem_cons_succ]
    refine wpAnyH_done (by kernel_rfl) ?_ _
    obtain ⟨w5, hw5⟩ : ∃ w5, w5 = (w4.setCell ⟨w.heap.size + 1 + 1, 0, none⟩ (.slice a1 n1 c1)).setCell ⟨w.heap.size + 1 + 1, 1, none⟩ (.slice a2 n2 c2) := ⟨_, rfl⟩
    rw [← hw5]
    obtain ⟨u0, u1, _⟩ := pair_cells (show w5.heap[w.heap.size + 1 + 1]? = some (.cells #[.slice a1 n1 c1, .slice a2 n2 c2] 60 (0, 0)) by rw [hw5]; exact heap_setCell_same _ (w.heap.size + 1 + 1) 1 _ _ (.slice a2 n2 c2) (heap_setCell_same _ (w.heap.size + 1 + 1) 0 _ _ (.slice a1 n1 c1) HZ4.out))
    obtain ⟨τ1, hτ1⟩ : ∃ τ1, τ1 = cov τ w3.heap.size w4.heap.size := ⟨_, rfl⟩
    have hM4 := HM3.out.cov HB34.out
    have st34 : StepM τ (cov τ w3.heap.size w4.heap.size) w3 w4 := StepM.cov HB34.out
    have tn : cov τ w3.heap.size w4.heap.size (w.heap.size + 1 + 1) = 0 := by
      rw [st34.ext _ HL3.out]
      exact Classical.byContradiction fun h' => by have h1 := HM.out.tz _ h'; rw [HS1.out] at h1; omega
    have zr : Zr (cov τ w3.heap.size w4.heap.size) w4 w5 := by rw [hw5]; exact ((Zr.refl _ _).set tn _).set tn _
    have hM5 := hM4.zero zr
    have hp1 : Pers (cov τ w3.heap.size w4.heap.size) w5 (fun W => Sl W (.slice a1 n1 c1) R.hs) := ((Pers.own HO1.out fun k hk => by have h1 : w3.heap.size ≤ k ∧ k < w4.heap.size := own_has HO1.out hk; exact cov_new h1.1 h1.2).imp fun W (hW : Own W w3.heap.size _ (.slice a1 n1 c1) R.hs) => hW.sl HLW.out.2.1).zero zr
    have hp2 : Pers (cov τ w3.heap.size w4.heap.size) w5 (fun W => Batch.Sl W (.slice a2 n2 c2) R.bs) := ((Pers.own HO2.out fun k hk => by have h1 : w3.heap.size ≤ k ∧ k < w4.heap.size := own_has HO2.out hk; exact cov_new h1.1 h1.2).imp fun W (hW : Batch.Own W w3.heap.size _ (.slice a2 n2 c2) R.bs) => hW.sl HLW.out.2.2.1).zero zr
    have hp3 : Pers (cov τ w3.heap.size w4.heap.size) w5 (fun W => Batch.Sl W (.slice a3 R.ch.length c3) R.ch) := ((Pers.own HO3.out fun k hk => by have h1 : w3.heap.size ≤ k ∧ k < w4.heap.size := own_has HO3.out hk; exact cov_new h1.1 h1.2).imp fun W (hW : Batch.Own W w3.heap.size _ (.slice a3 R.ch.length c3) R.ch) => hW.sl HLW.out.2.2.2.1).zero zr
    have hb15 : Below w1.heap.size w1 w5 := by
      rw [hw5]
      exact ((HB13.out.trans (HB34.out.mono HB13.out.size)).setCell (p := ⟨w.heap.size + 1 + 1, 0, none⟩) (Nat.le_of_eq HS1.out) _).setCell (p := ⟨w.heap.size + 1 + 1, 1, none⟩) (Nat.le_of_eq HS1.out) _
    have st15 : StepM τ (cov τ w3.heap.size w4.heap.size) w1 w5 := ⟨hb15.mono (Nat.zero_le _), fun k hk => st34.ext k (Nat.lt_of_lt_of_le hk HB13.out.size), fun k hk _ => hb15.block k hk⟩
    rw [← hτ1] at hM5 hp1 hp2 hp3 st15
    have hrow5 := hM5.row
    rw [HTH.out] at hrow5
    obtain ⟨p0, p1, p2, _, pf⟩ := th_cells hrow5 HTT.out
    have pf0 := pf (i * 4)
    have pf1 := pf (i * 4 + 1)
    unfold Sx.val at p0 p1
    obtain ⟨w6, hw6⟩ : ∃ w6, w6 = (w5.setCell ⟨g', i * 4, none⟩ (.slice a1 n1 c1)).setCell ⟨g', i * 4 + 1, none⟩ (.slice a2 n2 c2) := ⟨_, rfl⟩
    obtain ⟨hM6, st56⟩ := hM5.setOwn (sh := ⟨a1, n1, c1⟩) (sb := ⟨a2, n2, c2⟩) HX.out HTH.out HTT.out hp1 hp2 hw6
    have HM6 := Lib.hid hM6
    have HST6 := Lib.hid (st15.trans st56)
    have HP6 := Lib.hid (hp3.size st56)
    have HW6 := Lib.hid hw6
    have hz16 : w6.heap[w.heap.size + 1]? = w1.heap[w.heap.size + 1]? := by
      have hne : w.heap.size + 1 ≠ g' := by have := HG0.out; omega
      rw [hw6]
      exact (heap_setCell_other _ _ _ _ hne).trans ((heap_setCell_other _ _ _ _ hne).trans (hb15.block _ HN.out.2.1))
    have HZ16 := Lib.hid hz16
    clear hw5 hτ1 hM4 st34 tn zr hM5 hp1 hp2 hp3 hb15 st15 hrow5 p2 pf hw6 hM6 st56 hz16 v0 v1 vf0 vf1 hHeld y0 y1 y2 y3 hb34 hgo hnn
    go_upto_region 20 with fail
    rw [← HW6.out]
    clear u0 u1 p0 p1 pf0 pf1
    by_cases hch : R.ch = []
    · have HV := Lib.hid (show chV s i x R 0 = ((0, 0), { s with th := s.th.set i { x with H := R.hs, B := R.bs } }) by unfold chV; rw [if_neg (fun h => h HK0.out), if_pos hch])
      have hl0 : R.ch.length = 0 := by rw [hch]; rfl
      obtain ⟨⟨W3, hW3, r0, r1, r2, hF⟩, z0, z1, z2, zf⟩ := HFIN.out 0 0 _ w6 _ HV.out ⟨τ1, ⟨_, _, HM6.out⟩, HST6.out, fun _ => HM6.out.mc.c3.trans HM.out.mc.c3.symm⟩ HZ16.out
      have zf0 := zf 0
      have zf1 := zf 1
      have zf2 := zf 2
      have HF := Lib.hid hF
      have HW3 := Lib.hid hW3
      clear zf hF hW3 hch
      generalize R.ch.length = ln3 at *
      subst hl0
      go_wp2_with fail
      rw [HW3.out] at r0 r1 r2
      exact bodyPost_ret (v := .agg #[.int .i64 0, .int .i64 0, .slice none 0 0]) (by simp [results, Tryz.results40, go_sem, r0, r1, r2]) rfl (by have h := HF.out; rw [HW3.out] at h; exact h)
    · have HV := Lib.hid (show chV s i x R 0 = ((0, 0), { s with th := s.th.set i ⟨R.hs, R.bs, x.off ++ [R.ch], x.ring⟩ }) by unfold chV; rw [if_neg (fun h => h HK0.out), if_neg hch])
      have hil : i < s.th.length := (List.getElem?_eq_some_iff.1 HX.out).1
      have hpos : 0 < R.ch.length := List.length_pos_iff.2 hch
      have hpos1 : (0 : Int) < (R.ch.length : Int) := by omega
      have hX6 : (s.th.set i { x with H := R.hs, B := R.bs })[i]? = some { x with H := R.hs, B := R.bs } := List.getElem?_set_self hil
      have hil2 : i < tv.length := (List.getElem?_eq_some_iff.1 HTT.out).1
      have hT6 := List.getElem?_set_self (a := ({ h := ⟨a1, n1, c1⟩, b := ⟨a2, n2, c2⟩, o := so, r := sr } : Tv)) hil2
      have hrow6 := HM6.out.row
      rw [HTH.out] at hrow6
      obtain ⟨_, _, p2, _, pf⟩ := th_cells hrow6 hT6
      have HPU := Lib.hid (mdPush_any (g := g') (o := i * 4 + 2) (u := ⟨a3, R.ch.length, c3⟩) (x := R.ch) (HM6.out.thr i _ _ hT6 hX6).off (by omega) HM6.out.tz (HM6.out.tt _ HTH.out) p2 (pf _) HLW.out.1 HP6.out)
      have HIX := Lib.hid (And.intro hX6 hT6)
      clear hch hil hpos hX6 hil2 hT6 hrow6 p2 pf
      go_wp2_with fail
      go_at_call 68
      refine HPU.out.mono ?_
      rintro e w8 ⟨rfl, τ2, s3, w7, hp7, hq7, hw8⟩
      obtain ⟨hF1, hF2, hF3⟩ := HM6.out.pushed HIX.out.1 HTH.out HIX.out.2 hp7 hq7 hw8
      have hz8 : w8.heap[w.heap.size + 1]? = w1.heap[w.heap.size + 1]? := by
        have hne : w.heap.size + 1 ≠ g' := by have := HG0.out; omega
        have hl6 : w.heap.size + 1 < w6.heap.size := Nat.lt_of_lt_of_le HN.out.2.1 HST6.out.bel.size
        have ht6 : τ1 (w.heap.size + 1) ≠ 4 + 2 * i := by rw [HST6.out.ext _ HN.out.2.1, HT0.out]; omega
        rw [hw8]
        exact (heap_setCell_other _ _ _ _ hne).trans ((hp7.oth _ hl6 ht6).trans HZ16.out)
      obtain ⟨⟨W3, hW3, r0, r1, r2, hF⟩, z0, z1, z2, zf⟩ := HFIN.out 0 0 _ w8 _ HV.out ⟨τ2, (by dsimp only at hF1; rw [List.set_set] at hF1; exact hF1), HST6.out.trans hF2, fun _ => hF3.trans (HM6.out.mc.c3.trans HM.out.mc.c3.symm)⟩ hz8
      have zf0 := zf 0
      have zf1 := zf 1
      have zf2 := zf 2
      have HF := Lib.hid hF
      have HW3 := Lib.hid hW3
      clear zf hF hW3 hz8 hF1 hF2 hF3 hp7 hq7 hw8 hpos1
      go_wp2_with fail
      rw [HW3.out] at r0 r1 r2
      exact bodyPost_ret (v := .agg #[.int .i64 0, .int .i64 0, .slice none 0 0]) (by simp [results, Tryz.results40, go_sem, r0, r1, r2]) rfl (by have h := HF.out; rw [HW3.out] at h; exact h)
end
end Go.Proofs.YtdllgeanmlmmfaaGreatDoor.Md
