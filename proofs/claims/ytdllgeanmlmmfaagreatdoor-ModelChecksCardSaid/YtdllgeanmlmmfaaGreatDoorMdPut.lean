/-
  PACKAGE model: put. (gen/mdput.py)
-/
import Derived.Test.YtdllgeanmlmmfaaGreatDoorJoined19
import Derived.BigQuiet
namespace Go.Proofs.YtdllgeanmlmmfaaGreatDoor.Md
open Go.RowKit Gr Cl
set_option linter.unusedVariables false
set_option linter.unusedSimpArgs false
/-- What a Put is answered, and what there is then. -/
def putV (s : Ms) (i : Nat) (x : Th) (way : Int) : (Int × Int) × Ms :=
  match x.off with
  | [] => ((0, 14), s)
  | q :: r => if way ≠ 0 then (if Batch.sumsE (s.pool ++ q) ≠ 0 then ((0, Batch.sumsE (s.pool ++ q)), s) else ((1, 0), { s with pool := Batch.sumsR (s.pool ++ q), th := s.th.set i { x with off := r } }))
    else if s.room ≤ (x.ring.length : Int) then ((0, 0), s) else ((1, 0), { s with th := s.th.set i { x with off := r, ring := x.ring ++ [q] } })
def AnP (τ : Nat → Nat) (w : World) (b : Nat) (V : (Int × Int) × Ms) (e : Ending) (w' : World) : Prop := e = .returned (askV V.1) ∧ MdP τ w b V.2 w'
theorem anp_of {τ : Nat → Nat} {w w' : World} {b : Nat} {V : (Int × Int) × Ms} {n er : Int} {s : Ms} (hV : V = ((n, er), s)) (h : MdP τ w b s w') : AnP τ w b V (.returned (.agg #[.int .i64 n, .int .i64 er, .slice none 0 0])) w' := by subst hV; exact ⟨rfl, h⟩
section
variable {τ : Nat → Nat} {w w' : World} {b i g : Nat} {c : Mc} {tv : List Tv} {s : Ms} {t : Tv} {x : Th} {v q' : Sx} {rest : List (List Batch.Ch)} {R : List Batch.Ch}
/-- From what was put off into the ring. -/
theorem MdAt.put0 {τ2 : Nat → Nat} {w1 w2 w3 w4 : World} {q2 q3 : Sx} {z : List Batch.Ch} (h : MdAt τ w b c tv s) (hx : s.th[i]? = some x) (hth : c.th = some ⟨g, 0, none⟩) (ht : tv[i]? = some t)
    (hp : QP τ τ w w1 (4 + 2 * i)) (hq : QAt τ w1 (4 + 2 * i) q2 rest) (hw2 : w2 = w1.setCell ⟨g, i * 4 + 2, none⟩ q2.val) (hp3 : QP τ τ2 w2 w3 (5 + 2 * i)) (hq3 : QAt τ2 w3 (5 + 2 * i) q3 (x.ring ++ [z])) (hw4 : w4 = w3.setCell ⟨g, i * 4 + 3, none⟩ q3.val) :
    MdI τ2 w4 b { s with th := s.th.set i { x with off := rest, ring := x.ring ++ [z] } } ∧ StepM τ τ2 w w4 ∧ w4.cell? ⟨b, 3, none⟩ = w.cell? ⟨b, 3, none⟩ := by
  have hbl := h.mc.lt
  have tg := h.tt _ hth
  have tb := h.tb
  dsimp only at tg
  have hil := (List.getElem?_eq_some_iff.1 ht).1
  have hrow := h.row
  rw [hth] at hrow
  have hgl : g < w.heap.size := (own_has hrow (g := g) rfl).2
  have hT := h.thr i t x ht hx
  have st1 := hp.st
  have hz1 : w.heap.size ≤ w1.heap.size := st1.bel.size
  have st2 : StepM τ τ w1 w2 := by rw [hw2]; exact StepM.set (by omega) (by omega) _
  have hz2 : w2.heap.size = w1.heap.size := by rw [hw2]; simp
  have st3 := hp3.st
  have hz3 : w2.heap.size ≤ w3.heap.size := st3.bel.size
  have tg2 : τ2 g = 2 := (st3.ext g (by omega)).trans tg
  have st4 : StepM τ2 τ2 w3 w4 := by rw [hw4]; exact StepM.set (by omega) (by omega) _
  have st := st1.trans (st2.trans (st3.trans st4))
  have hgb : g ≠ b := fun e => by rw [e, tb] at tg; omega
  have e2 : ∀ k, k < w.heap.size → k ≠ g → τ k ≠ 4 + 2 * i → w2.heap[k]? = w.heap[k]? := fun k hk h1 h2 => by rw [hw2]; exact (heap_setCell_other _ _ _ _ h1).trans (hp.oth k hk h2)
  have e4 : ∀ k, k < w.heap.size → k ≠ g → τ k ≠ 4 + 2 * i → τ k ≠ 5 + 2 * i → w4.heap[k]? = w.heap[k]? := fun k hk h1 h2 h3 => by rw [hw4]; exact (heap_setCell_other _ _ _ _ h1).trans ((hp3.oth k (by omega) h3).trans (e2 k hk h1 h2))
  have hr1 : Rw.Own thK w1 0 95 (.slice (some ⟨g, 0, none⟩) c.n c.cth) tv := own_blk hrow fun k hk => by simp [Value.ownBlock] at hk; subst hk; exact hp.oth g hgl (by omega)
  have hr2 := th_set (k := 2) (u := q2) hr1 ht (by decide) (t' := { t with o := q2 }) rfl
  rw [← hw2] at hr2
  have hr3 : Rw.Own thK w3 0 95 (.slice (some ⟨g, 0, none⟩) c.n c.cth) (tv.set i { t with o := q2 }) := own_blk hr2 fun k hk => by simp [Value.ownBlock] at hk; subst hk; exact hp3.oth g (by omega) (by omega)
  have hr4 := th_set (k := 3) (u := q3) (i := i) hr3 (t := { t with o := q2 }) (List.getElem?_set_self hil) (by decide) (t' := { t with o := q2, r := q3 }) rfl
  rw [← hw4, List.set_set] at hr4
  refine ⟨⟨c, tv.set i { t with o := q2, r := q3 }, h.upd (x' := { x with off := rest, ring := x.ring ++ [z] }) st (fun k hk => by rw [hw4]; simpa using hp3.tz k hk) ((e4 b hbl (Ne.symm hgb) (by omega) (by omega)).trans h.mc) rfl rfl rfl (by rw [hth]; exact hr4) hil (fun k hk h4 h5 h6 => e4 k hk (fun e => by rw [e] at h4; omega) h5 h6) ⟨hT.hs.size st, hT.bs.size st, ?_, ?_⟩ rfl (h.paths.size st) (h.tab.size st) (h.pool.size st) (h.staged.size st) (h.folded.size st) h.pp (h.shown.size st) h.rm h.cl⟩, st, World.cell?_of_block (w := w) (e4 b hbl (Ne.symm hgb) (by omega) (by omega))⟩
  · have q1 := hq.step (by omega) st2 (fun k hk h1 => by rw [hw2]; exact heap_setCell_other _ _ _ _ (fun e => by dsimp only at e; rw [e] at h1; omega))
    have q2 := q1.step (by omega) st3 (fun k hk h1 => hp3.oth k hk (by omega))
    exact q2.step (by omega) st4 (fun k hk h1 => by rw [hw4]; exact heap_setCell_other _ _ _ _ (fun e => by dsimp only at e; rw [e] at h1; omega))
  · exact hq3.step (by omega) st4 (fun k hk h1 => by rw [hw4]; exact heap_setCell_other _ _ _ _ (fun e => by dsimp only at e; rw [e] at h1; omega))
def Calls1 (n er : Int) (W w : World) (b : Nat) (τ : Nat → Nat) (V : (Int × Int) × Ms) : Prop :=
  (∃ W3, W3 = ((W.setCell ⟨w.heap.size, 0, none⟩ (.int .i64 n)).setCell ⟨w.heap.size, 1, none⟩ (.int .i64 er)).setCell ⟨w.heap.size, 2, none⟩ (.slice none 0 0) ∧ W3.cell? ⟨w.heap.size, 0, none⟩ = some (.int .i64 n) ∧ W3.cell? ⟨w.heap.size, 1, none⟩ = some (.int .i64 er) ∧ W3.cell? ⟨w.heap.size, 2, none⟩ = some (.slice none 0 0) ∧ AnP τ w b V (.returned (.agg #[.int .i64 n, .int .i64 er, .slice none 0 0])) W3) ∧
  W.cell? ⟨w.heap.size, 0, none⟩ = some (.int .i64 0) ∧ W.cell? ⟨w.heap.size, 1, none⟩ = some (.int .i64 0) ∧ W.cell? ⟨w.heap.size, 2, none⟩ = some (.slice none 0 0) ∧ ∀ o, W.frozen? ⟨w.heap.size, o, none⟩ = false
/-- The answer, laid in its box at last. -/
theorem calls1 {w1 W : World} {n er : Int} {s' : Ms} {V : (Int × Int) × Ms} (hz1 : w1.heap[w.heap.size]? = some (.cells #[.int .i64 0, .int .i64 0, .slice none 0 0] 48 (0, 0))) (hb1 : Below w.heap.size w w1) (hs1 : w1.heap.size = w.heap.size + 1) (t0 : τ w.heap.size = 0) (hV : V = ((n, er), s')) (hP : MdP τ w1 b s' W) (hz : W.heap[w.heap.size]? = w1.heap[w.heap.size]?) : Calls1 n er W w b τ V := by
  have hW := hz.trans hz1
  obtain ⟨r0, r1, r2, _⟩ := three_cells (heap_setCell_same _ w.heap.size 2 _ _ (.slice none 0 0) (heap_setCell_same _ w.heap.size 1 _ _ (.int .i64 er) (heap_setCell_same _ w.heap.size 0 _ _ (.int .i64 n) hW)))
  refine ⟨⟨_, rfl, r0, r1, r2, anp_of hV (hP.zero hb1 ((((Below.refl _ _).setCell (Nat.zero_le _) _).setCell (Nat.zero_le _) _).setCell (Nat.zero_le _) _) fun k hk => ?_)⟩, three_cells hW⟩
  by_cases e : k = w.heap.size
  · exact .inr ⟨by omega, by omega, by rw [e]; exact t0⟩
  · exact .inl ((heap_setCell_other _ _ _ _ e).trans ((heap_setCell_other _ _ _ _ e).trans (heap_setCell_other _ _ _ _ e)))
theorem mvq_0 {τ : Nat → Nat} {w w' : World} {b j g o t : Nat} {rest : List (List Batch.Ch)} {E : Int} {R : List Batch.Ch} {e : Ending} (h : MvQ τ w b j g o t rest E R e w') (hE : E = 0) : e = .returned (.agg #[.int .i64 1, .int .i64 0, .slice none 0 0]) ∧ ∃ τ' v s', MvP τ τ' w w' b j g o t v s' rest R := by
  obtain ⟨h1, h2⟩ := h
  rw [if_pos hE, hE] at h1
  exact ⟨h1, (h2.resolve_left (fun h => h.1 hE)).2⟩
theorem mvq_1 {τ : Nat → Nat} {w w' : World} {b j g o t : Nat} {rest : List (List Batch.Ch)} {E : Int} {R : List Batch.Ch} {e : Ending} (h : MvQ τ w b j g o t rest E R e w') (hE : E ≠ 0) : e = .returned (.agg #[.int .i64 0, .int .i64 E, .slice none 0 0]) ∧ Below w.heap.size w w' := by
  obtain ⟨h1, h2⟩ := h
  rw [if_neg hE] at h1
  exact ⟨h1, (h2.resolve_right (fun h => hE h.1)).2⟩
set_option maxRecDepth 1000000 in
set_option maxHeartbeats 16000000 in
theorem mdPut_any (h : MdAt τ w b c tv s) (hx : s.th[i]? = some x) (hth : c.th = some ⟨g, 0, none⟩) (way : Int) (hsp : Batch.Sorted s.pool) (hso : ∀ q ∈ x.off, Batch.Sorted q ∧ q.length ≤ 1000) (hlp : s.pool.length ≤ 90000) (hlr : x.ring.length ≤ 1000) :
    Calls Tryz.prog 36 #[.pointer (some ⟨b, 0, none⟩), .pointer (some ⟨g, i * 4, none⟩), .int .i64 way] w (AnP τ w b (putV s i x way)) := by
  obtain ⟨g', t, hth', tg, ht, hT, hgl, hic, d0, d1, d2, d3, df⟩ := h.thr_at hx
  obtain rfl : g' = g := by rw [hth] at hth'; simpa using hth'.symm
  obtain ⟨sh, sb, ⟨oa, on, oc⟩, ⟨ra, rn, rc⟩⟩ := t
  obtain ⟨w1, hw1⟩ : ∃ w1, w1 = w.alloc (.cells #[.int .i64 0, .int .i64 0, .slice none 0 0] 48) := ⟨_, rfl⟩
  have hb1 : Below w.heap.size w w1 := by rw [hw1]; exact (Below.refl _ _).alloc (Nat.le_refl _) _
  have HZ := Lib.hid (show w1.heap[w.heap.size]? = some (.cells #[.int .i64 0, .int .i64 0, .slice none 0 0] 48 (0, 0)) by rw [hw1]; exact heap_alloc_new w _)
  have HS1 := Lib.hid (show w1.heap.size = w.heap.size + 1 by rw [hw1]; simp)
  have HM0 := Lib.hid h
  have HM := Lib.hid (h.below hb1)
  have HB1 := Lib.hid hb1
  have HX := Lib.hid hx
  have HTH := Lib.hid hth
  have HTT := Lib.hid ht
  have HTG := Lib.hid tg
  have HSO := Lib.hid (And.intro hsp (And.intro hso (And.intro hlp hlr)))
  have hon : on = x.off.length := hT.off.1
  have hrn : rn = x.ring.length := hT.ring.1
  have k2 := (hb1.cell (p := ⟨g', i * 4 + 2, none⟩) hgl).trans d2
  have k3 := (hb1.cell (p := ⟨g', i * 4 + 3, none⟩) hgl).trans d3
  have kf2 := (hb1.frozen (p := ⟨g', i * 4 + 2, none⟩) hgl).trans (df _)
  have kf3 := (hb1.frozen (p := ⟨g', i * 4 + 3, none⟩) hgl).trans (df _)
  have HK := Lib.hid (And.intro k2 (And.intro k3 (And.intro kf2 kf3)))
  have k1 := (h.below hb1).mc.c1
  rw [h.rm] at k1
  have t0 : τ w.heap.size = 0 := Classical.byContradiction fun h' => absurd (h.tz _ h') (Nat.lt_irrefl _)
  have HT0 := Lib.hid t0
  obtain ⟨z0, z1, z2, zf⟩ := three_cells HZ.out
  have zf0 := zf 0
  have zf1 := zf 1
  have zf2 := zf 2
  unfold Sx.val at k2 k3
  dsimp only at k2 k3
  clear h hb1 hx hth hth' tg ht hT hgl hic d0 d1 d2 d3 df zf hsp hso hlp hlr kf2 kf3 t0
  have HFIN := Lib.hid (fun (n er : Int) (s' : Ms) (W : World) (V : (Int × Int) × Ms) (hV : V = ((n, er), s')) (hP : MdP τ w1 b s' W) (hz : W.heap[w.heap.size]? = w1.heap[w.heap.size]?) => calls1 HZ.out HB1.out HS1.out HT0.out hV hP hz)
  cases hoff : x.off with
  | nil =>
    rw [hoff] at hon
    obtain rfl : on = 0 := hon
    have HV := Lib.hid (show putV s i x way = ((0, 14), s) by unfold putV; rw [hoff])
    clear hoff k1 k3
    go_enter Tryz.func36, Tryz.ntmps36
    go_upto_region 1 with fail
    rw [← hw1]
    clear hw1
    go_wp2_with fail
    obtain ⟨⟨W3, rfl, r0, r1, r2, hF⟩, _⟩ := HFIN.out 0 14 s w1 _ HV.out (MdP.same ⟨c, tv, HM.out⟩ (Below.refl _ _)) rfl
    exact bodyPost_ret (v := .agg #[.int .i64 0, .int .i64 14, .slice none 0 0]) (by simp [results, Tryz.results36, go_sem, r0, r1, r2]) rfl hF
  | cons q r =>
    rw [hoff, List.length_cons] at hon
    have hn0 : ((on : Int) == 0) = false := by simp; omega
    by_cases hway : way = 0
    · subst hway
      have HRING0 := Lib.hid (HM.out.thr i _ x HTT.out HX.out)
      have HGL1 := Lib.hid (show g' < w1.heap.size from Lib.lt_of_cell HK.out.1)
      have HV := Lib.hid (show putV s i x 0 = if s.room ≤ (x.ring.length : Int) then ((0, 0), s) else ((1, 0), { s with th := s.th.set i { x with off := r, ring := x.ring ++ [q] } }) by unfold putV; rw [hoff]; rfl)
      have HOF := Lib.hid hoff
      clear hoff
      by_cases hfull : s.room ≤ (x.ring.length : Int)
      · have HV := Lib.hid (show putV s i x 0 = ((0, 0), s) by rw [HV.out, if_pos hfull])
        have df : decide (s.room ≤ (rn : Int)) = true := decide_eq_true (by rw [hrn]; exact hfull)
        clear hfull hrn
        go_enter Tryz.func36, Tryz.ntmps36
        go_upto_region 1 with fail
        rw [← hw1]
        clear hw1
        go_wp2_with fail
        go_quiet (fail)
        obtain ⟨w2, hw2⟩ : ∃ w2, w2 = w1.drewN nq := ⟨_, rfl⟩
        rw [← hw2]
        have hb2 : Below w1.heap.size w1 w2 := by rw [hw2]; exact below_drewN (Below.refl _ _) nq
        obtain ⟨⟨W3, rfl, r0, r1, r2, hF⟩, q0, q1, q2, qf⟩ := HFIN.out 0 0 s w2 _ HV.out (MdP.same ⟨c, tv, HM.out⟩ hb2) (hb2.block _ (by rw [HS1.out]; exact Nat.lt_succ_self _))
        have qf0 := qf 0
        have qf1 := qf 1
        have qf2 := qf 2
        clear hw2 hb2 qf z0 z1 z2 zf0 zf1 zf2 k1 k2 k3
        go_wp2_with fail
        exact bodyPost_ret (v := .agg #[.int .i64 0, .int .i64 0, .slice none 0 0]) (by simp [results, Tryz.results36, go_sem, r0, r1, r2]) rfl hF
      · have HV := Lib.hid (show putV s i x 0 = ((1, 0), { s with th := s.th.set i { x with off := r, ring := x.ring ++ [q] } }) by rw [HV.out, if_neg hfull])
        have df : decide (s.room ≤ (rn : Int)) = false := decide_eq_false (by rw [hrn]; exact hfull)
        clear hfull hrn
        go_enter Tryz.func36, Tryz.ntmps36
        go_upto_region 1 with fail
        rw [← hw1]
        clear hw1
        go_wp2_with fail
        go_quiet (fail)
        obtain ⟨w2, hw2⟩ : ∃ w2, w2 = w1.drewN nq := ⟨_, rfl⟩
        rw [← hw2]
        have hb2 : Below w1.heap.size w1 w2 := by rw [hw2]; exact below_drewN (Below.refl _ _) nq
        have hb2d : Below w1.heap.size w1 w2.drew := below_drewN hb2 1
        have HB12 := Lib.hid hb2d
        have HMD2 := Lib.hid (HM.out.below hb2d)
        have HGL := Lib.hid (show g' < w2.drew.heap.size from Nat.lt_of_lt_of_le HGL1.out hb2d.size)
        have HK2 := Lib.hid (And.intro ((hb2d.cell (p := ⟨g', i * 4 + 2, none⟩) HGL1.out).trans HK.out.1) (And.intro ((hb2d.cell (p := ⟨g', i * 4 + 3, none⟩) HGL1.out).trans HK.out.2.1) (And.intro ((hb2d.frozen (p := ⟨g', i * 4 + 2, none⟩) HGL1.out).trans HK.out.2.2.1) ((hb2d.frozen (p := ⟨g', i * 4 + 3, none⟩) HGL1.out).trans HK.out.2.2.2))))
        have hT2 := HMD2.out.thr i _ x HTT.out HX.out
        have HRING := Lib.hid hT2.ring
        have hq1 := hT2.off
        rw [HOF.out] at hq1
        have HPOP := Lib.hid (mdPop_any (g := g') (o := i * 4 + 2) hq1 (by omega) HMD2.out.tz HTG.out HK2.out.1 HK2.out.2.2.1)
        clear hw2 hb2 hb2d hT2 hq1 z0 z1 z2 zf0 zf1 zf2 k1 k2 k3
        go_upto_region 7 with fail
        refine wp_region_held_drew (S := (fun _ => True)) (by kernel_rfl) ?_ (fun hHeld => ?_)
        · ((try dsimp only); first | done | trivial)
        refine wpAnyH_take (i := 0) (v := ?_) rfl (by kernel_rfl) (by kernel_rfl) (by kernel_rfl) (fun _ _ _ h => h) (Or.inl ⟨by rfl, ?_⟩) (by assumption) ?_
        rotate_left 1
        · (intro w hSw; (try dsimp only at hSw); first | (go_simp; done) | (go_simp; with_reducible rfl))
        try simp only [Act.put, List.setIfInBounds_toArray, List.set_cons_zero, List.set_cons_succ, List.getElem_toArray, List.getElem_cons_zero]
        refine wpAnyH_take (i := 1) (v := ?_) rfl (by kernel_rfl) (by kernel_rfl) (by kernel_rfl) (fun _ _ _ h => h) (Or.inl ⟨by rfl, ?_⟩) (by assumption) ?_
        rotate_left 1
        · (intro w hSw; (try dsimp only at hSw); first | (go_simp; done) | (go_simp; with_reducible rfl))
        try simp only [Act.put, List.setIfInBounds_toArray, List.set_cons_zero, List.set_cons_succ, List.getElem_toArray, List.getElem_cons_zero, List.getElem_cons_succ]
        refine wpAnyH_take (i := 2) (v := ?_) rfl (by kernel_rfl) (by kernel_rfl) (by kernel_rfl) (fun _ _ _ h => h) (Or.inl ⟨by rfl, ?_⟩) (by assumption) ?_
        rotate_left 1
        · (intro w hSw; (try dsimp only at hSw); first | (go_simp; done) | (go_simp; with_reducible rfl))
        try simp only [Act.put, List.setIfInBounds_toArray, List.set_cons_zero, List.set_cons_succ, List.getElem_toArray, List.getElem_cons_zero, List.getElem_cons_succ]
        refine wpAnyH_take (i := 3) (v := ?_) rfl (by kernel_rfl) (by kernel_rfl) (by kernel_rfl) (fun _ _ _ h => h) (Or.inl ⟨by rfl, ?_⟩) (by assumption) ?_
        rotate_left 1
        · (intro w hSw; (try dsimp only at hSw); first | (go_simp; done) | (go_simp; with_reducible rfl))
        try simp only [Act.put, List.setIfInBounds_toArray, List.set_cons_zero, List.set_cons_succ, List.getElem_toArray, List.getElem_cons_zero, List.getElem_cons_succ]
        refine wpAnyH_take (i := 4) (v := ?_) rfl (by kernel_rfl) (by kernel_rfl) (by kernel_rfl) (fun _ _ _ h => h) (Or.inl ⟨by rfl, ?_⟩) (by assumption) ?_
        rotate_left 1
        · (intro w hSw; (try dsimp only at hSw); first | (go_simp; done) | (go_simp; with_reducible rfl))
        try simp only [Act.put, List.setIfInBounds_toArray, List.set_cons_zero, List.set_cons_succ, List.getElem_toArray, List.getElem_cons_zero, List.getElem_cons_succ]
        refine wpAnyH_take (i := 5) (v := ?_) rfl (by kernel_rfl) (by kernel_rfl) (by kernel_rfl) (fun _ _ _ h => h) (Or.inl ⟨by rfl, ?_⟩) (by assumption) ?_
        rotate_left 1
        · (intro w hSw; (try dsimp only at hSw); first | (go_simp; done) | (go_simp; with_reducible rfl))
        try simp only [Act.put, List.setIfInBounds_toArray, List.set_cons_zero, List.set_cons_succ, List.getElem_toArray, List.getElem_cons_zero, List.getElem_cons_succ]
        refine wpAnyH_ready (rs := [6]) (by kernel_rfl) (by simp) ?_
        refine AllReadyH.cons rfl (fun K hK => ?_) AllReadyH.nil
        go_simp
        go_at_call 69
        refine HPOP.out.mono ?_
        rintro e w5 ⟨u, s', w4, rfl, hu, hqp, hqa, hw5⟩
        have st4 := hqp.st
        have hgw4 : g' < w4.heap.size := Nat.lt_of_lt_of_le HGL.out st4.bel.size
        have st5 : StepM τ τ w4 w5 := by rw [hw5]; exact StepM.set (by rw [HTG.out]; decide) (by rw [HTG.out]; decide) _
        have hr5 : QAt τ w5 (5 + 2 * i) ⟨ra, rn, rc⟩ x.ring := (HRING.out.step (by omega) st4 (fun k hk h1 => hqp.oth k hk (by omega))).step (by omega) st5 (fun k hk h1 => by rw [hw5]; exact heap_setCell_other _ _ _ _ (fun e => by dsimp only at e; rw [e, HTG.out] at h1; omega))
        have hg4 : w4.heap[g']? = w2.drew.heap[g']? := hqp.oth g' HGL.out (by rw [HTG.out]; omega)
        have hk5 : w5.cell? ⟨g', i * 4 + 3, none⟩ = some (Sx.val ⟨ra, rn, rc⟩) := by
          rw [hw5, World.cell?_setCell_other _ _ _ _ (by simp)]
          exact (World.cell?_of_block (w := w2.drew) hg4).trans HK2.out.2.1
        have hf5 : w5.frozen? ⟨g', i * 4 + 3, none⟩ = false := by
          rw [hw5, World.frozen?_setCell]
          exact (World.frozen?_of_block (w := w2.drew) hg4).trans HK2.out.2.2.2
        have HPUSH := Lib.hid (mdPush_any (u := u) (x := q) hr5 (by omega) (fun k hk => by rw [hw5]; simpa using hqp.tz k hk) HTG.out hk5 hf5 HSO.out.2.2.2 ((hu.size st4).size st5))
        have HPP := Lib.hid (And.intro hqp (And.intro hqa hw5))
        clear hu hqp hqa hw5 st4 st5 hr5 hg4 hk5 hf5 hgw4
        try go_wp2_with fail
        refine hK.out _ _ ?_ (fun hHeld => ?_)
        · ((try dsimp only); first | done | trivial)
        clear hK K
        try simp only [Act.put, List.setIfInBounds_toArray, List.set_cons_zero, List.set_cons_succ, List.getElem_toArray, List.getElem_cons_zero, List.getElem_cons_succ]
        refine wpAnyH_ready (rs := [7]) (by kernel_rfl) (by simp) ?_
        refine AllReadyH.cons rfl (fun K hK => ?_) AllReadyH.nil
        go_simp
        go_at_call 68
        refine HPUSH.out.mono ?_
        rintro e w8 ⟨rfl, τ2, s3, w7, hp7, hq7, hw8⟩
        obtain ⟨hF1, hF2, hF3⟩ := HMD2.out.put0 HX.out HTH.out HTT.out HPP.out.1 HPP.out.2.1 HPP.out.2.2 hp7 hq7 hw8
        have e8 : w8.heap[w.heap.size]? = w1.heap[w.heap.size]? := by
          have hlt : w.heap.size < w1.heap.size := by rw [HS1.out]; exact Nat.lt_succ_self _
          have hgn : w.heap.size ≠ g' := fun e => by have h1 := HTG.out; rw [← e, HT0.out] at h1; omega
          have hl2 : w.heap.size < w2.drew.heap.size := Nat.lt_of_lt_of_le hlt HB12.out.size
          have hl4 := Nat.lt_of_lt_of_le hl2 HPP.out.1.st.bel.size
          have e2 : w2.drew.heap[w.heap.size]? = w1.heap[w.heap.size]? := HB12.out.block _ hlt
          have e4 := HPP.out.1.oth _ hl2 (by rw [HT0.out]; omega)
          have e5 : w5.heap[w.heap.size]? = w4.heap[w.heap.size]? := by rw [HPP.out.2.2]; exact heap_setCell_other _ _ _ _ hgn
          have hl5 : w.heap.size < w5.heap.size := by rw [HPP.out.2.2]; simpa using hl4
          have e7 := hp7.oth _ hl5 (by rw [HT0.out]; omega)
          have e8 : w8.heap[w.heap.size]? = w7.heap[w.heap.size]? := by rw [hw8]; exact heap_setCell_other _ _ _ _ hgn
          rw [e8, e7, e5, e4, e2]
        obtain ⟨⟨W3, hW3, r0, r1, r2, hF⟩, z0, z1, z2, zf⟩ := HFIN.out 1 0 _ w8 _ HV.out ⟨τ2, hF1, (StepM.below HB12.out).trans hF2, fun hl => hF3.trans (HB12.out.cell (p := ⟨b, 3, none⟩) hl)⟩ e8
        have zf0 := zf 0
        have zf1 := zf 1
        have zf2 := zf 2
        have HF := Lib.hid hF
        have HW3 := Lib.hid hW3
        clear zf hF1 hF2 hF3 hp7 hq7 hw8 e8 hF hW3
        try go_wp2_with fail
        refine hK.out _ _ ?_ (fun hHeld => ?_)
        · ((try dsimp only); first | done | trivial)
        clear hK K
        try simp only [Act.put, List.setIfInBounds_toArray, List.set_cons_zero, List.set_cons_succ, List.getElem_toArray, List.getElem_cons_zero, List.getElem_cons_succ]
        refine wpAnyH_done (by kernel_rfl) ?_ _
        go_wp2_with fail
        rw [HW3.out] at r0 r1 r2
        exact bodyPost_ret (v := .agg #[.int .i64 1, .int .i64 0, .slice none 0 0]) (by simp [results, Tryz.results36, go_sem, r0, r1, r2]) rfl (by have h := HF.out; rw [HW3.out] at h; exact h)
    · have hwn : (way != 0) = true := by simp [hway]
      have HV := Lib.hid (show putV s i x way = if Batch.sumsE (s.pool ++ q) ≠ 0 then ((0, Batch.sumsE (s.pool ++ q)), s) else ((1, 0), { s with pool := Batch.sumsR (s.pool ++ q), th := s.th.set i { x with off := r } }) by unfold putV; rw [hoff]; exact if_pos hway)
      have HMD := Lib.hid (HM.out.below (below_drewN (Below.refl w1.heap.size w1) 1))
      have hT1 := HMD.out.thr i _ x HTT.out HX.out
      obtain ⟨pa, pc, hpv, _⟩ := id HMD.out.pool.out
      have hq1 := hT1.off
      rw [hoff] at hq1
      have HMV := Lib.hid (mdMove_any (g := g') (o := i * 4 + 2) (t := 4 + 2 * i) (b := b) (j := 4) (a := ⟨pa, s.pool.length, pc⟩) (A := s.pool) hq1 (by omega) HMD.out.tz HTG.out HMD.out.tb ((below_drewN (Below.refl w1.heap.size w1) 1).cell (p := ⟨g', i * 4 + 2, none⟩) (Lib.lt_of_cell HK.out.1) |>.trans HK.out.1) HK.out.2.2.1 (by rw [HMD.out.mc.c4, hpv]; rfl) (HMD.out.mc.free 4) (HMD.out.pool.imp fun W hW => by rw [hpv] at hW; exact hW) HSO.out.1 (HSO.out.2.1 q (by rw [hoff]; exact List.mem_cons_self ..)).1 (by have h1 := (HSO.out.2.1 q (by rw [hoff]; exact List.mem_cons_self ..)).2; have h2 := HSO.out.2.2.1; omega))
      by_cases hE : Batch.sumsE (s.pool ++ q) = 0
      · have HV := Lib.hid (show putV s i x way = ((1, 0), { s with pool := Batch.sumsR (s.pool ++ q), th := s.th.set i { x with off := r } }) by rw [HV.out, if_neg (fun h => h hE)])
        have HMV := Lib.hid (HMV.out.mono fun e w' hq => mvq_0 hq hE)
        clear hoff k1 k3 hT1 hq1 hpv hway hE
        go_enter Tryz.func36, Tryz.ntmps36
        go_upto_region 1 with fail
        rw [← hw1]
        clear hw1
        go_upto_region 4 with fail
        clear z0 z1 z2 zf0 zf1 zf2 k2
        refine wp_region_held_drew (S := (fun _ => True)) (by kernel_rfl) ?_ (fun hHeld => ?_)
        · ((try dsimp only); first | done | trivial)
        refine wpAnyH_take (i := 0) (v := ?_) rfl (by kernel_rfl) (by kernel_rfl) (by kernel_rfl) (fun _ _ _ h => h) (Or.inl ⟨by rfl, ?_⟩) (by assumption) ?_
        rotate_left 1
        · (intro w hSw; (try dsimp only at hSw); first | (go_simp; done) | (go_simp; with_reducible rfl))
        try simp only [Act.put, List.setIfInBounds_toArray, List.set_cons_zero, List.set_cons_succ, List.getElem_toArray, List.getElem_cons_zero]
        refine wpAnyH_take (i := 1) (v := ?_) rfl (by kernel_rfl) (by kernel_rfl) (by kernel_rfl) (fun _ _ _ h => h) (Or.inl ⟨by rfl, ?_⟩) (by assumption) ?_
        rotate_left 1
        · (intro w hSw; (try dsimp only at hSw); first | (go_simp; done) | (go_simp; with_reducible rfl))
        try simp only [Act.put, List.setIfInBounds_toArray, List.set_cons_zero, List.set_cons_succ, List.getElem_toArray, List.getElem_cons_zero, List.getElem_cons_succ]
        refine wpAnyH_take (i := 2) (v := ?_) rfl (by kernel_rfl) (by kernel_rfl) (by kernel_rfl) (fun _ _ _ h => h) (Or.inl ⟨by rfl, ?_⟩) (by assumption) ?_
        rotate_left 1
        · (intro w hSw; (try dsimp only at hSw); first | (go_simp; done) | (go_simp; with_reducible rfl))
        try simp only [Act.put, List.setIfInBounds_toArray, List.set_cons_zero, List.set_cons_succ, List.getElem_toArray, List.getElem_cons_zero, List.getElem_cons_succ]
        refine wpAnyH_take (i := 3) (v := ?_) rfl (by kernel_rfl) (by kernel_rfl) (by kernel_rfl) (fun _ _ _ h => h) (Or.inl ⟨by rfl, ?_⟩) (by assumption) ?_
        rotate_left 1
        · (intro w hSw; (try dsimp only at hSw); first | (go_simp; done) | (go_simp; with_reducible rfl))
        try simp only [Act.put, List.setIfInBounds_toArray, List.set_cons_zero, List.set_cons_succ, List.getElem_toArray, List.getElem_cons_zero, List.getElem_cons_succ]
        refine wpAnyH_take (i := 4) (v := ?_) rfl (by kernel_rfl) (by kernel_rfl) (by kernel_rfl) (fun _ _ _ h => h) (Or.inl ⟨by rfl, ?_⟩) (by assumption) ?_
        rotate_left 1
        · (intro w hSw; (try dsimp only at hSw); first | (go_simp; done) | (go_simp; with_reducible rfl))
        try simp only [Act.put, List.setIfInBounds_toArray, List.set_cons_zero, List.set_cons_succ, List.getElem_toArray, List.getElem_cons_zero, List.getElem_cons_succ]
        refine wpAnyH_take (i := 5) (v := ?_) rfl (by kernel_rfl) (by kernel_rfl) (by kernel_rfl) (fun _ _ _ h => h) (Or.inl ⟨by rfl, ?_⟩) (by assumption) ?_
        rotate_left 1
        · (intro w hSw; (try dsimp only at hSw); first | (go_simp; done) | (go_simp; with_reducible rfl))
        try simp only [Act.put, List.setIfInBounds_toArray, List.set_cons_zero, List.set_cons_succ, List.getElem_toArray, List.getElem_cons_zero, List.getElem_cons_succ]
        refine wpAnyH_ready (rs := [6]) (by kernel_rfl) (by simp) ?_
        refine AllReadyH.cons rfl (fun K hK => ?_) AllReadyH.nil
        go_simp
        go_at_call 67
        refine HMV.out.mono ?_
        rintro e w3 ⟨rfl, τ', v, s'', hm⟩
        obtain ⟨⟨W3, rfl, r0, r1, r2, hF⟩, z0, z1, z2, zf⟩ := HFIN.out 1 0 _ w3 _ HV.out ⟨τ', HMD.out.put1 HX.out HTH.out HTT.out hm, (StepM.below (below_drewN (Below.refl w1.heap.size w1) 1)).trans hm.st, fun _ => hm.c3 (by decide)⟩ (hm.oth _ (show w.heap.size < w1.heap.size by rw [HS1.out]; exact Nat.lt_succ_self _) (fun e => by have h1 := HM.out.tb; rw [← e, HT0.out] at h1; omega) (fun e => by have h1 := HTG.out; rw [← e, HT0.out] at h1; omega) (by rw [HT0.out]; omega))
        have zf0 := zf 0
        have zf1 := zf 1
        have zf2 := zf 2
        clear zf hm
        try go_wp2_with fail
        refine hK.out _ _ ?_ (fun hHeld => ?_)
        · ((try dsimp only); first | done | trivial)
        clear hK K
        try simp only [Act.put, List.setIfInBounds_toArray, List.set_cons_zero, List.set_cons_succ, List.getElem_toArray, List.getElem_cons_zero, List.getElem_cons_succ]
        refine wpAnyH_ready (rs := [7]) (by kernel_rfl) (by simp) ?_
        refine AllReadyH.cons rfl (fun K hK => ?_) AllReadyH.nil
        go_simp
        refine hK.out _ _ trivial (fun hHeld => ?_)
        clear hK K
        try simp only [Act.put, List.setIfInBounds_toArray, List.set_cons_zero, List.set_cons_succ, List.getElem_toArray, List.getElem_cons_zero, List.getElem_cons_succ]
        refine wpAnyH_done (by kernel_rfl) ?_ _
        go_wp2_with fail
        exact bodyPost_ret (v := .agg #[.int .i64 1, .int .i64 0, .slice none 0 0]) (by simp [results, Tryz.results36, go_sem, r0, r1, r2]) rfl hF
      · have HV := Lib.hid (show putV s i x way = ((0, Batch.sumsE (s.pool ++ q)), s) by rw [HV.out, if_pos hE])
        have HMV := Lib.hid (HMV.out.mono fun e w' hq => mvq_1 hq hE)
        generalize Batch.sumsE (s.pool ++ q) = E at *
        clear hoff k1 k3 hT1 hq1 hpv hway hE
        go_enter Tryz.func36, Tryz.ntmps36
        go_upto_region 1 with fail
        rw [← hw1]
        clear hw1
        go_upto_region 4 with fail
        clear z0 z1 z2 zf0 zf1 zf2 k2
        refine wp_region_held_drew (S := (fun _ => True)) (by kernel_rfl) ?_ (fun hHeld => ?_)
        · ((try dsimp only); first | done | trivial)
        refine wpAnyH_take (i := 0) (v := ?_) rfl (by kernel_rfl) (by kernel_rfl) (by kernel_rfl) (fun _ _ _ h => h) (Or.inl ⟨by rfl, ?_⟩) (by assumption) ?_
        rotate_left 1
        · (intro w hSw; (try dsimp only at hSw); first | (go_simp; done) | (go_simp; with_reducible rfl))
        try simp only [Act.put, List.setIfInBounds_toArray, List.set_cons_zero, List.set_cons_succ, List.getElem_toArray, List.getElem_cons_zero]
        refine wpAnyH_take (i := 1) (v := ?_) rfl (by kernel_rfl) (by kernel_rfl) (by kernel_rfl) (fun _ _ _ h => h) (Or.inl ⟨by rfl, ?_⟩) (by assumption) ?_
        rotate_left 1
        · (intro w hSw; (try dsimp only at hSw); first | (go_simp; done) | (go_simp; with_reducible rfl))
        try simp only [Act.put, List.setIfInBounds_toArray, List.set_cons_zero, List.set_cons_succ, List.getElem_toArray, List.getElem_cons_zero, List.getElem_cons_succ]
        refine wpAnyH_take (i := 2) (v := ?_) rfl (by kernel_rfl) (by kernel_rfl) (by kernel_rfl) (fun _ _ _ h => h) (Or.inl ⟨by rfl, ?_⟩) (by assumption) ?_
        rotate_left 1
        · (intro w hSw; (try dsimp only at hSw); first | (go_simp; done) | (go_simp; with_reducible rfl))
        try simp only [Act.put, List.setIfInBounds_toArray, List.set_cons_zero, List.set_cons_succ, List.getElem_toArray, List.getElem_cons_zero, List.getElem_cons_succ]
        refine wpAnyH_take (i := 3) (v := ?_) rfl (by kernel_rfl) (by kernel_rfl) (by kernel_rfl) (fun _ _ _ h => h) (Or.inl ⟨by rfl, ?_⟩) (by assumption) ?_
        rotate_left 1
        · (intro w hSw; (try dsimp only at hSw); first | (go_simp; done) | (go_simp; with_reducible rfl))
        try simp only [Act.put, List.setIfInBounds_toArray, List.set_cons_zero, List.set_cons_succ, List.getElem_toArray, List.getElem_cons_zero, List.getElem_cons_succ]
        refine wpAnyH_take (i := 4) (v := ?_) rfl (by kernel_rfl) (by kernel_rfl) (by kernel_rfl) (fun _ _ _ h => h) (Or.inl ⟨by rfl, ?_⟩) (by assumption) ?_
        rotate_left 1
        · (intro w hSw; (try dsimp only at hSw); first | (go_simp; done) | (go_simp; with_reducible rfl))
        try simp only [Act.put, List.setIfInBounds_toArray, List.set_cons_zero, List.set_cons_succ, List.getElem_toArray, List.getElem_cons_zero, List.getElem_cons_succ]
        refine wpAnyH_take (i := 5) (v := ?_) rfl (by kernel_rfl) (by kernel_rfl) (by kernel_rfl) (fun _ _ _ h => h) (Or.inl ⟨by rfl, ?_⟩) (by assumption) ?_
        rotate_left 1
        · (intro w hSw; (try dsimp only at hSw); first | (go_simp; done) | (go_simp; with_reducible rfl))
        try simp only [Act.put, List.setIfInBounds_toArray, List.set_cons_zero, List.set_cons_succ, List.getElem_toArray, List.getElem_cons_zero, List.getElem_cons_succ]
        refine wpAnyH_ready (rs := [6]) (by kernel_rfl) (by simp) ?_
        refine AllReadyH.cons rfl (fun K hK => ?_) AllReadyH.nil
        go_simp
        go_at_call 67
        refine HMV.out.mono ?_
        rintro e w3 ⟨rfl, hb⟩
        obtain ⟨⟨W3, rfl, r0, r1, r2, hF⟩, z0, z1, z2, zf⟩ := HFIN.out 0 E s w3 _ HV.out (MdP.same ⟨c, tv, HM.out⟩ ((below_drewN (Below.refl w1.heap.size w1) 1).trans hb)) (hb.block _ (show w.heap.size < w1.heap.size by rw [HS1.out]; exact Nat.lt_succ_self _))
        have zf0 := zf 0
        have zf1 := zf 1
        have zf2 := zf 2
        clear zf hb
        try go_wp2_with fail
        refine hK.out _ _ ?_ (fun hHeld => ?_)
        · ((try dsimp only); first | done | trivial)
        clear hK K
        try simp only [Act.put, List.setIfInBounds_toArray, List.set_cons_zero, List.set_cons_succ, List.getElem_toArray, List.getElem_cons_zero, List.getElem_cons_succ]
        refine wpAnyH_ready (rs := [7]) (by kernel_rfl) (by simp) ?_
        refine AllReadyH.cons rfl (fun K hK => ?_) AllReadyH.nil
        go_simp
        refine hK.out _ _ trivial (fun hHeld => ?_)
        clear hK K
        try simp only [Act.put, List.setIfInBounds_toArray, List.set_cons_zero, List.set_cons_succ, List.getElem_toArray, List.getElem_cons_zero, List.getElem_cons_succ]
        refine wpAnyH_done (by kernel_rfl) ?_ _
        go_wp2_with fail
        exact bodyPost_ret (v := .agg #[.int .i64 0, .int .i64 E, .slice none 0 0]) (by simp [results, Tryz.results36, go_sem, r0, r1, r2]) rfl hF
end
end Go.Proofs.YtdllgeanmlmmfaaGreatDoor.Md
