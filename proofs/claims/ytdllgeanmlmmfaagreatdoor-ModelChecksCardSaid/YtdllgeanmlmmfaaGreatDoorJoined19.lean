/-
  PACKAGE model: move: the first Batch of a queue is merged into something. (gen/mdmove.py)
  PACKAGE model: one thread is another one; what a call leaves.
-/
import Derived.Test.YtdllgeanmlmmfaaGreatDoorJoined18
import Derived.Deep.RegionHeldLaw
namespace Go.Proofs.YtdllgeanmlmmfaaGreatDoor.Md
open Go.RowKit Gr Cl
set_option linter.unusedVariables false
set_option linter.unusedSimpArgs false
/-- What move leaves, where it came off. -/
structure MvP (τ τ' : Nat → Nat) (w w' : World) (b j g o t : Nat) (v s' : Sx) (rest : List (List Batch.Ch)) (R : List Batch.Ch) : Prop where
  st : StepM τ τ' w w'
  tz : ∀ k, τ' k ≠ 0 → k < w'.heap.size
  hb : w'.heap[b]? = (w.setCell ⟨b, j, none⟩ v.val).heap[b]?
  hg : w'.heap[g]? = (w.setCell ⟨g, o, none⟩ s'.val).heap[g]?
  oth : ∀ k, k < w.heap.size → k ≠ b → k ≠ g → τ k ≠ t → w'.heap[k]? = w.heap[k]?
  q : QAt τ' w' t s' rest
  m : Pers τ' w' (fun w => Batch.Sl w v.val R)
theorem set_blk {w1 w2 : World} {b : Nat} (h : w1.heap[b]? = w2.heap[b]?) (j : Nat) (u : Value) : (w1.setCell ⟨b, j, none⟩ u).heap[b]? = (w2.setCell ⟨b, j, none⟩ u).heap[b]? := by
  simp only [World.setCell, Array.getElem?_modify]
  simp [h]
theorem mv_done {τ τ1 : Nat → Nat} {w w1 w4 w5 : World} {b j g o t : Nat} {s' : Sx} {v : Sx} {rest : List (List Batch.Ch)} {R : List Batch.Ch} (htz : ∀ k, τ k ≠ 0 → k < w.heap.size) (h1 : Below w.heap.size w w1) (hτ : τ1 = cov τ w.heap.size w1.heap.size) (tb : τ b = 1) (tg : τ g = 2) (ht : 4 ≤ t) (hbl : b < w.heap.size) (hgl : g < w.heap.size)
    (hv : Batch.Own w1 w.heap.size 103 v.val R) (hR : ∀ x ∈ R, x.Wf) (hq : QP τ1 τ1 (w1.setCell ⟨b, j, none⟩ v.val) w4 t) (hqa : QAt τ1 w4 t s' rest) (hw5 : w5 = w4.setCell ⟨g, o, none⟩ s'.val) : MvP τ τ1 w w5 b j g o t v s' rest R := by
  have s0 : StepM τ τ1 w w1 := by rw [hτ]; exact StepM.cov h1
  have hs := h1.size
  have tb1 : τ1 b = 1 := (s0.ext b hbl).trans tb
  have tg1 : τ1 g = 2 := (s0.ext g hgl).trans tg
  have s1 : StepM τ1 τ1 w1 (w1.setCell ⟨b, j, none⟩ v.val) := StepM.set (by omega) (by omega) _
  have hz1 : (w1.setCell ⟨b, j, none⟩ v.val).heap.size = w1.heap.size := by simp
  have s2 := hq.st
  have s3 : StepM τ1 τ1 w4 w5 := by rw [hw5]; exact StepM.set (by omega) (by omega) _
  have hs4 := s2.bel.size
  rw [hz1] at hs4
  have hgb : g ≠ b := fun e => by rw [e, tb] at tg; omega
  have e4 : ∀ k, k < w.heap.size → k ≠ b → τ k ≠ t → w4.heap[k]? = w.heap[k]? := fun k hk h2 h3 => (hq.oth k (by rw [hz1]; omega) (by rw [s0.ext k hk]; exact h3)).trans ((heap_setCell_other _ _ _ _ h2).trans (h1.block k hk))
  have eb : w4.heap[b]? = (w.setCell ⟨b, j, none⟩ v.val).heap[b]? := (hq.oth b (by rw [hz1]; omega) (by rw [tb1]; omega)).trans (set_blk (h1.block b hbl) j _)
  have hvb : ∀ k, v.val.ownBlock = some k → w.heap.size ≤ k ∧ k < w1.heap.size := fun k hk => own_has hv hk
  have hv5 : w5.ownsRow w.heap.size 103 3 v.val R.length (Batch.cellsL R) := own_blk hv fun k hk => by
    have h2 := hvb k hk
    have h3 : τ1 k = 3 := by rw [hτ]; exact cov_new h2.1 h2.2
    rw [hw5]
    exact (heap_setCell_other _ _ _ _ (by show k ≠ g; omega)).trans ((hq.oth k (by rw [hz1]; exact h2.2) (by omega)).trans (heap_setCell_other _ _ _ _ (by show k ≠ b; omega)))
  refine ⟨s0.trans (s1.trans (s2.trans s3)), fun k hk => ?_, ?_, ?_, fun k hk h2 h3 h4 => ?_, ?_, ?_⟩
  · rw [hw5]; simpa using hq.tz k hk
  · rw [hw5]
    exact (heap_setCell_other _ _ _ _ (Ne.symm hgb)).trans eb
  · rw [hw5]
    exact set_blk (e4 g hgl hgb (by omega)) o _
  · rw [hw5]
    exact (heap_setCell_other _ _ _ _ h3).trans (e4 k hk h2 h4)
  · refine hqa.step (by omega) s3 fun k hk h2 => ?_
    rw [hw5]
    exact heap_setCell_other _ _ _ _ (fun e => by dsimp only at e; rw [e, tg1] at h2; omega)
  · exact (Pers.own hv5 fun k hk => by have h2 := hvb k hk; rw [hτ]; exact cov_new h2.1 h2.2).imp fun W (hW : Batch.Own W w.heap.size _ v.val R) => hW.sl hR
theorem MvP.fin {τ τ' : Nat → Nat} {w w1 w5 w6 : World} {b j g o t : Nat} {v s' : Sx} {rest : List (List Batch.Ch)} {R : List Batch.Ch} (h : MvP τ τ' w1 w5 b j g o t v s' rest R) (hb : Below w.heap.size w w1) (ht : t ≠ 0) (tb : τ b ≠ 0) (tg : τ g ≠ 0) (hbl : b < w.heap.size) (hgl : g < w.heap.size) (z : Zr τ' w5 w6) (hz : Below 0 w5 w6) (hz0 : ∀ k, k < w.heap.size → w6.heap[k]? = w5.heap[k]?) : MvP τ τ' w w6 b j g o t v s' rest R := by
  have s0 : StepM τ τ w w1 := StepM.below hb
  have s1 := s0.trans h.st
  refine ⟨⟨s1.bel.trans hz, s1.ext, fun k hk h1 => (hz0 k hk).trans (s1.out k hk h1)⟩, fun k hk => Nat.lt_of_lt_of_le (h.tz k hk) z.1, ?_, ?_, fun k hk h1 h2 h3 => ?_, h.q.zero ht z, h.m.zero z⟩
  · exact (hz0 b hbl).trans (h.hb.trans (set_blk (hb.block b hbl) j _))
  · exact (hz0 g hgl).trans (h.hg.trans (set_blk (hb.block g hgl) o _))
  · exact (hz0 k hk).trans ((h.oth k (Nat.lt_of_lt_of_le hk hb.size) h1 h2 h3).trans (hb.block k hk))
def MvQ (τ : Nat → Nat) (w : World) (b j g o t : Nat) (rest : List (List Batch.Ch)) (E : Int) (R : List Batch.Ch) (e : Ending) (w' : World) : Prop :=
  e = .returned (.agg #[.int .i64 (if E = 0 then 1 else 0), .int .i64 E, .slice none 0 0]) ∧ ((E ≠ 0 ∧ Below w.heap.size w w') ∨ (E = 0 ∧ ∃ τ' v s', MvP τ τ' w w' b j g o t v s' rest R))
theorem mvq_no {τ : Nat → Nat} {w w' : World} {b j g o t : Nat} {rest : List (List Batch.Ch)} {E : Int} {R : List Batch.Ch} (h : E ≠ 0) (hb : Below w.heap.size w w') : MvQ τ w b j g o t rest E R (.returned (.agg #[.int .i64 0, .int .i64 E, .slice none 0 0])) w' := ⟨by rw [if_neg h], .inl ⟨h, hb⟩⟩
theorem mvq_yes {τ τ' : Nat → Nat} {w w' : World} {b j g o t : Nat} {v s' : Sx} {rest : List (List Batch.Ch)} {R : List Batch.Ch} (h : MvP τ τ' w w' b j g o t v s' rest R) : MvQ τ w b j g o t rest 0 R (.returned (.agg #[.int .i64 1, .int .i64 0, .slice none 0 0])) w' := ⟨rfl, .inr ⟨rfl, _, _, _, h⟩⟩
section
variable {τ : Nat → Nat} {w : World} {b j g o t : Nat} {s a : Sx} {A x : List Batch.Ch} {rest : List (List Batch.Ch)}
set_option maxRecDepth 1000000 in
set_option maxHeartbeats 16000000 in
theorem mdMove_any (h : QAt τ w t s (x :: rest)) (ht : 4 ≤ t) (htz : ∀ k, τ k ≠ 0 → k < w.heap.size) (hg : τ g = 2) (hb : τ b = 1) (hc : w.cell? ⟨g, o, none⟩ = some s.val) (hf : w.frozen? ⟨g, o, none⟩ = false) (ha : w.cell? ⟨b, j, none⟩ = some a.val) (haf : w.frozen? ⟨b, j, none⟩ = false) (hA : Pers τ w (fun w => Batch.Sl w a.val A))
    (hsA : Batch.Sorted A) (hsx : Batch.Sorted x) (hl : A.length + x.length ≤ 100000) :
    Calls Tryz.prog 67 #[.pointer (some ⟨b, j, none⟩), .pointer (some ⟨g, o, none⟩)] w (MvQ τ w b j g o t rest (Batch.sumsE (A ++ x)) (Batch.sumsR (A ++ x))) := by
  obtain ⟨gq, off, e, h5, h6, h7, h8, h9⟩ := h.2.2.2.resolve_left (fun h => by simp at h)
  obtain ⟨⟨ua, un, uc⟩, hu, hup⟩ := h9 0 x rfl
  rw [Nat.add_zero] at hu
  obtain ⟨sa, sn, sc⟩ := s
  obtain ⟨aa, an, ac⟩ := a
  dsimp only at e
  subst e
  have hsn : sn = rest.length + 1 := h.1
  have hgl : g < w.heap.size := Lib.lt_of_cell hc
  have hbl : b < w.heap.size := Lib.lt_of_cell ha
  obtain ⟨w1, hw1⟩ : ∃ w1, w1 = w.alloc (.cells #[.int .i64 0, .int .i64 0, .slice none 0 0] 48) := ⟨_, rfl⟩
  have hb1 : Below w.heap.size w w1 := by rw [hw1]; exact (Below.refl _ _).alloc (Nat.le_refl _) _
  have HZ := Lib.hid (show w1.heap[w.heap.size]? = some (.cells #[.int .i64 0, .int .i64 0, .slice none 0 0] 48 (0, 0)) by rw [hw1]; exact heap_alloc_new w _)
  have HMD := Lib.hid (Batch.merge_any (w := w1.drew) (hA.out.below (below_drewN hb1 1)) (hup.out.below (below_drewN hb1 1)) hsA hsx hl)
  have HWF := Lib.hid (Batch.sumsR_wf (Batch.both_wf hA.out.wf hup.out.wf))
  have HQ := Lib.hid h
  have HTZ := Lib.hid htz
  have HTT := Lib.hid (And.intro ht (And.intro hg (And.intro hb (And.intro hgl hbl))))
  have HB1 := Lib.hid hb1
  have HAC := Lib.hid ((hb1.cell (p := ⟨b, j, none⟩) hbl).trans ha)
  have HAF := Lib.hid ((hb1.frozen (p := ⟨b, j, none⟩) hbl).trans haf)
  have HGC := Lib.hid ((hb1.cell (p := ⟨g, o, none⟩) hgl).trans hc)
  have HGF := Lib.hid ((hb1.frozen (p := ⟨g, o, none⟩) hgl).trans hf)
  have y0 := (hb1.cell (p := ⟨b, j, none⟩) hbl).trans ha
  have y1 := (hb1.cell (p := ⟨g, o, none⟩) hgl).trans hc
  have y2 := (hb1.cell (p := ⟨gq, off, none⟩) h6).trans hu
  unfold Sx.val at y0 y1 y2
  have HY := Lib.hid (And.intro y0 (And.intro y1 y2))
  have q0 : (0 : Int) < (sn : Int) := by omega
  have q0n : 0 < sn := by omega
  clear h h5 h6 h7 h8 h9 hup hu ht htz hg hb hc hf ha haf hA hsA hsx hl hgl hbl hb1 hsn
  go_enter Tryz.func67, Tryz.ntmps67
  go_upto_region 1 with fail
  rw [← hw1]
  clear hw1
  refine wp_region_held_drew (S := (fun w' => w'.cell? ⟨b, j, none⟩ = some (.slice aa an ac) ∧ w'.cell? ⟨g, o, none⟩ = some (.slice (some ⟨gq, off, none⟩) sn sc) ∧ w'.cell? ⟨gq, off, none⟩ = some (.slice ua un uc))) (by kernel_rfl) ?_ (fun hHeld => ?_)
  · ((try dsimp only); exact ⟨y0, y1, y2⟩)
  refine wpAnyH_take (i := 0) (v := ?_) rfl (by kernel_rfl) (by kernel_rfl) (by kernel_rfl) (fun _ _ _ h => h) (Or.inl ⟨by rfl, ?_⟩) (by assumption) ?_
  rotate_left 1
  · (intro w hSw; (try dsimp only at hSw); first | (go_simp; done) | (go_simp; with_reducible rfl))
  try simp only [Act.put, List.setIfInBounds_toArray, List.set_cons_zero, List.set_cons_succ, List.getElem_toArray, List.getElem_cons_zero]
  refine wpAnyH_take (i := 1) (v := ?_) rfl (by kernel_rfl) (by kernel_rfl) (by kernel_rfl) (fun _ _ _ h => h) (Or.inl ⟨by rfl, ?_⟩) (by assumption) ?_
  rotate_left 1
  · (intro w hSw; (try dsimp only at hSw); first | (go_simp; done) | (go_simp; with_reducible rfl))
  try simp only [Act.put, List.setIfInBounds_toArray, List.set_cons_zero, List.set_cons_succ, List.getElem_toArray, List.getElem_cons_zero, List.getElem_cons_succ]
  refine wpAnyH_take (i := 2) (v := ?_) rfl (by kernel_rfl) (by kernel_rfl) (by kernel_rfl) (fun _ _ _ h => h) (Or.inl ⟨by rfl, ?_⟩) (by assumption) ?_
  rotate_left 1
  · (intro w hSw; (try dsimp only at hSw); first | (go_simp; done) | (go_simp; with_reducible rfl))
  try simp only [Act.put, List.setIfInBounds_toArray, List.set_cons_zero, List.set_cons_succ, List.getElem_toArray, List.getElem_cons_zero, List.getElem_cons_succ]
  refine wpAnyH_take (i := 3) (v := ?_) rfl (by kernel_rfl) (by kernel_rfl) (by kernel_rfl) (fun _ _ _ h => h) (Or.inl ⟨by rfl, ?_⟩) (by assumption) ?_
  rotate_left 1
  · (intro w hSw; (try dsimp only at hSw); first | (go_simp; done) | (go_simp; with_reducible rfl))
  try simp only [Act.put, List.setIfInBounds_toArray, List.set_cons_zero, List.set_cons_succ, List.getElem_toArray, List.getElem_cons_zero, List.getElem_cons_succ]
  refine wpAnyH_take (i := 4) (v := ?_) rfl (by kernel_rfl) (by kernel_rfl) (by kernel_rfl) (fun _ _ _ h => h) (Or.inl ⟨by rfl, ?_⟩) (by assumption) ?_
  rotate_left 1
  · (intro w hSw; (try dsimp only at hSw); first | (go_simp; done) | (go_simp; with_reducible rfl))
  try simp only [Act.put, List.setIfInBounds_toArray, List.set_cons_zero, List.set_cons_succ, List.getElem_toArray, List.getElem_cons_zero, List.getElem_cons_succ]
  refine wpAnyH_take (i := 5) (v := ?_) rfl (by kernel_rfl) (by kernel_rfl) (by kernel_rfl) (fun _ _ _ h => h) (Or.inl ⟨by rfl, ?_⟩) (by assumption) ?_
  rotate_left 1
  · (intro w hSw; (try dsimp only at hSw); first | (go_simp; done) | (go_simp; with_reducible rfl))
  try simp only [Act.put, List.setIfInBounds_toArray, List.set_cons_zero, List.set_cons_succ, List.getElem_toArray, List.getElem_cons_zero, List.getElem_cons_succ]
  refine wpAnyH_take (i := 6) (v := ?_) rfl (by kernel_rfl) (by kernel_rfl) (by kernel_rfl) (fun _ _ _ h => h) (Or.inl ⟨by rfl, ?_⟩) (by assumption) ?_
  rotate_left 1
  · (intro w hSw; (try dsimp only at hSw); first | (go_simp; done) | (go_simp; with_reducible rfl))
  try simp only [Act.put, List.setIfInBounds_toArray, List.set_cons_zero, List.set_cons_succ, List.getElem_toArray, List.getElem_cons_zero, List.getElem_cons_succ]
  refine wpAnyH_take (i := 7) (v := ?_) rfl (by kernel_rfl) (by kernel_rfl) (by kernel_rfl) (fun _ _ _ h => h) (Or.inl ⟨by rfl, ?_⟩) (by assumption) ?_
  rotate_left 1
  · (intro w hSw; (try dsimp only at hSw); first | (go_simp; done) | (go_simp; with_reducible rfl))
  try simp only [Act.put, List.setIfInBounds_toArray, List.set_cons_zero, List.set_cons_succ, List.getElem_toArray, List.getElem_cons_zero, List.getElem_cons_succ]
  refine wpAnyH_ready (rs := [8]) (by kernel_rfl) (by simp) ?_
  refine AllReadyH.cons rfl (fun K hK => ?_) AllReadyH.nil
  go_simp
  go_at_call 41
  refine (HMD.out).mono ?_
  rintro e w2 ⟨v, rfl, ho, hb⟩
  obtain ⟨va, vn, vc, rfl⟩ : ∃ a n c, v = .slice a n c := by
    obtain ⟨a, c, h, _⟩ := ho.sl HWF.out
    exact ⟨a, _, c, h⟩
  have hbq : Below w1.heap.size w1 w2 := (below_drewN (Below.refl w1.heap.size w1) 1).trans hb
  have HO := Lib.hid ho
  have HB2 := Lib.hid hbq
  clear ho hb
  try go_wp2_with fail
  refine hK.out _ _ ?_ (fun hHeld => ?_)
  · ((try dsimp only); exact ⟨(hbq.cell (p := ⟨b, j, none⟩) (Lib.lt_of_cell HY.out.1)).trans HY.out.1, (hbq.cell (p := ⟨g, o, none⟩) (Lib.lt_of_cell HY.out.2.1)).trans HY.out.2.1, (hbq.cell (p := ⟨gq, off, none⟩) (Lib.lt_of_cell HY.out.2.2)).trans HY.out.2.2⟩)
  clear hK K
  try simp only [Act.put, List.setIfInBounds_toArray, List.set_cons_zero, List.set_cons_succ, List.getElem_toArray, List.getElem_cons_zero, List.getElem_cons_succ]
  refine wpAnyH_take (i := 9) (v := ?_) rfl (by kernel_rfl) (by kernel_rfl) (by kernel_rfl) (fun _ _ _ h => h) (Or.inl ⟨by rfl, ?_⟩) (by assumption) ?_
  rotate_left 1
  · (intro w hSw; (try dsimp only at hSw); first | (go_simp; done) | (go_simp; with_reducible rfl))
  try simp only [Act.put, List.setIfInBounds_toArray, List.set_cons_zero, List.set_cons_succ, List.getElem_toArray, List.getElem_cons_zero, List.getElem_cons_succ]
  refine wpAnyH_take (i := 10) (v := ?_) rfl (by kernel_rfl) (by kernel_rfl) (by kernel_rfl) (fun _ _ _ h => h) (Or.inl ⟨by rfl, ?_⟩) (by assumption) ?_
  rotate_left 1
  · (intro w hSw; (try dsimp only at hSw); first | (go_simp; done) | (go_simp; with_reducible rfl))
  try simp only [Act.put, List.setIfInBounds_toArray, List.set_cons_zero, List.set_cons_succ, List.getElem_toArray, List.getElem_cons_zero, List.getElem_cons_succ]
  refine wpAnyH_take (i := 11) (v := ?_) rfl (by kernel_rfl) (by kernel_rfl) (by kernel_rfl) (fun _ _ _ h => h) (Or.inl ⟨by rfl, ?_⟩) (by assumption) ?_
  rotate_left 1
  · (intro w hSw; (try dsimp only at hSw); first | (go_simp; done) | (go_simp; with_reducible rfl))
  try simp only [Act.put, List.setIfInBounds_toArray, List.set_cons_zero, List.set_cons_succ, List.getElem_toArray, List.getElem_cons_zero, List.getElem_cons_succ]
  refine wpAnyH_take (i := 12) (v := ?_) rfl (by kernel_rfl) (by kernel_rfl) (by kernel_rfl) (fun _ _ _ h => h) (Or.inl ⟨by rfl, ?_⟩) (by assumption) ?_
  rotate_left 1
  · (intro w hSw; (try dsimp only at hSw); first | (go_simp; done) | (go_simp; with_reducible rfl))
  try simp only [Act.put, List.setIfInBounds_toArray, List.set_cons_zero, List.set_cons_succ, List.getElem_toArray, List.getElem_cons_zero, List.getElem_cons_succ]
  refine wpAnyH_take (i := 13) (v := ?_) rfl (by kernel_rfl) (by kernel_rfl) (by kernel_rfl) (fun _ _ _ h => h) (Or.inl ⟨by rfl, ?_⟩) (by assumption) ?_
  rotate_left 1
  · (intro w hSw; (try dsimp only at hSw); first | (go_simp; done) | (go_simp; with_reducible rfl))
  try simp only [Act.put, List.setIfInBounds_toArray, List.set_cons_zero, List.set_cons_succ, List.getElem_toArray, List.getElem_cons_zero, List.getElem_cons_succ]
  refine wpAnyH_done (by kernel_rfl) ?_ _
  have hz2 := (HB2.out.block _ (Array.getElem?_eq_some_iff.1 HZ.out).1).trans HZ.out
  have hs12 := HB1.out.size
  have HB02 := Lib.hid (HB1.out.trans (HB2.out.mono hs12))
  have HZ2 := Lib.hid hz2
  have HS1 := Lib.hid (show w.heap.size < w1.heap.size from (Array.getElem?_eq_some_iff.1 HZ.out).1)
  clear hHeld hbq
  obtain ⟨E, hE⟩ : ∃ E, E = Batch.sumsE (A ++ x) := ⟨_, rfl⟩
  rw [← hE]
  by_cases h0 : E = 0
  · subst h0
    have HE := Lib.hid hE
    have x0 := (HB2.out.cell (p := ⟨b, j, none⟩) (Lib.lt_of_cell HAC.out)).trans HAC.out
    have xf := (HB2.out.frozen (p := ⟨b, j, none⟩) (Lib.lt_of_cell HAC.out)).trans HAF.out
    unfold Sx.val at x0
    have st1 : StepM τ (cov τ w1.heap.size w2.heap.size) w1 w2 := StepM.cov HB2.out
    have htz1 : ∀ k, τ k ≠ 0 → k < w1.heap.size := fun k hk => Nat.lt_of_lt_of_le (HTZ.out k hk) hs12
    have hgb : g ≠ b := fun e => by have h1 := HTT.out.2.1; have h2 := HTT.out.2.2.1; rw [e, h2] at h1; omega
    have hbl1 : b < w1.heap.size := Nat.lt_of_lt_of_le HTT.out.2.2.2.2 hs12
    have hgl1 : g < w1.heap.size := Nat.lt_of_lt_of_le HTT.out.2.2.2.1 hs12
    obtain ⟨w3, hw3⟩ : ∃ w3, w3 = w2.setCell ⟨b, j, none⟩ (.slice va vn vc) := ⟨_, rfl⟩
    have tb1 : cov τ w1.heap.size w2.heap.size b = 1 := (st1.ext b hbl1).trans HTT.out.2.2.1
    have tg1 : cov τ w1.heap.size w2.heap.size g = 2 := (st1.ext g hgl1).trans HTT.out.2.1
    have st2 : StepM (cov τ w1.heap.size w2.heap.size) (cov τ w1.heap.size w2.heap.size) w2 w3 := by rw [hw3]; exact StepM.set (by omega) (by omega) _
    have hq1 : QAt τ w1 t ⟨some ⟨gq, off, none⟩, sn, sc⟩ (x :: rest) := HQ.out.zero (by have := HTT.out.1; omega) (Zr.below HB1.out)
    have hq2 : QAt (cov τ w1.heap.size w2.heap.size) w2 t ⟨some ⟨gq, off, none⟩, sn, sc⟩ (x :: rest) := hq1.step (by have := HTT.out.1; omega) st1 (fun k hk _ => HB2.out.block k hk)
    have hq3 : QAt (cov τ w1.heap.size w2.heap.size) w3 t ⟨some ⟨gq, off, none⟩, sn, sc⟩ (x :: rest) := hq2.step (by have := HTT.out.1; omega) st2 (fun k hk h2 => by
      rw [hw3]
      exact heap_setCell_other _ _ _ _ (fun e => by dsimp only at e; rw [e, tb1] at h2; have := HTT.out.1; omega))
    have HPOP := Lib.hid (mdPop_any (g := g) (o := o) hq3 HTT.out.1 (fun k hk => Nat.lt_of_lt_of_le (cov_tz htz1 HB2.out.size k hk) st2.bel.size) tg1 (by
      rw [hw3, World.cell?_setCell_far _ _ _ _ (Ne.symm hgb)]
      exact (HB2.out.cell (p := ⟨g, o, none⟩) hgl1).trans HGC.out) (by
      rw [hw3, World.frozen?_setCell]
      exact (HB2.out.frozen (p := ⟨g, o, none⟩) hgl1).trans HGF.out))
    have HW3 := Lib.hid hw3
    clear hq1 hq2 hq3 st1 st2 hw3
    go_wp2_with fail
    go_at_call 69
    rw [← HW3.out]
    refine HPOP.out.mono ?_
    rintro e w5 ⟨u', s', w4, rfl, _, hqp, hqa, hw5⟩
    rw [HW3.out] at hqp
    have hmv := mv_done (w := w1) (w1 := w2) (τ := τ) (b := b) (j := j) (g := g) (o := o) (v := ⟨va, vn, vc⟩) htz1 HB2.out rfl HTT.out.2.2.1 HTT.out.2.1 HTT.out.1 hbl1 hgl1 (HO.out.mono (by show w1.heap.size ≤ _; exact Nat.le_refl _)) HWF.out hqp hqa hw5
    have hz5 : w5.heap[w.heap.size]? = w1.heap[w.heap.size]? := hmv.oth _ HS1.out (fun e => by have := HTT.out.2.2.2.2; omega) (fun e => by have := HTT.out.2.2.2.1; omega) (fun e => by
      have h1 : τ w.heap.size = 0 := Classical.byContradiction fun h => absurd (HTZ.out _ h) (Nat.lt_irrefl _)
      have := HTT.out.1
      omega)
    have HMV := Lib.hid hmv
    obtain ⟨z0, z1, z2, zf⟩ := three_cells (hz5.trans HZ.out)
    have zf0 := zf 0
    have zf1 := zf 1
    have zf2 := zf 2
    have HR := Lib.hid (three_cells (heap_setCell_same _ w.heap.size 2 _ _ (.slice none 0 0) (heap_setCell_same _ w.heap.size 1 _ _ (.int .i64 0) (heap_setCell_same _ w.heap.size 0 _ _ (.int .i64 1) (hz5.trans HZ.out)))))
    have HT1 := Lib.hid (And.intro tb1 tg1)
    clear zf hqp hqa hmv hz5 hw5 x0 xf htz1 hgb hbl1 hgl1 tb1 tg1 hE hs12 hz2
    go_wp2_with fail
    obtain ⟨r0, r1, r2, _⟩ := HR.out
    have t0 : cov τ w1.heap.size w2.heap.size w.heap.size = 0 := by
      unfold cov
      rw [if_pos HS1.out]
      exact Classical.byContradiction fun h => absurd (HTZ.out _ h) (Nat.lt_irrefl _)
    refine bodyPost_ret (v := .agg #[.int .i64 1, .int .i64 0, .slice none 0 0]) (by simp [results, Tryz.results67, go_sem, r0, r1, r2]) rfl (HE.out ▸ mvq_yes (v := ⟨va, vn, vc⟩) (s' := s') (HMV.out.fin HB1.out (by have := HTT.out.1; omega) (by rw [HTT.out.2.2.1]; decide) (by rw [HTT.out.2.1]; decide) HTT.out.2.2.2.2 HTT.out.2.2.2.1 ((((Zr.refl _ _).set t0 _).set t0 _).set t0 _) ((((Below.refl _ _).setCell (Nat.zero_le _) _).setCell (Nat.zero_le _) _).setCell (Nat.zero_le _) _) ?_))
    intro k hk
    have hne : k ≠ w.heap.size := Nat.ne_of_lt hk
    exact (heap_setCell_other _ _ _ _ hne).trans ((heap_setCell_other _ _ _ _ hne).trans (heap_setCell_other _ _ _ _ hne))
  · have d0 : (E != 0) = true := by simp [h0]
    have HE := Lib.hid (And.intro hE h0)
    obtain ⟨z0, z1, z2, zf⟩ := three_cells HZ2.out
    have zf0 := zf 0
    have zf1 := zf 1
    have zf2 := zf 2
    have HR := Lib.hid (three_cells (heap_setCell_same _ w.heap.size 2 _ _ (.slice none 0 0) (heap_setCell_same _ w.heap.size 1 _ _ (.int .i64 E) (heap_setCell_same _ w.heap.size 0 _ _ (.int .i64 0) HZ2.out))))
    clear zf hE h0 hz2
    go_wp2_with fail
    obtain ⟨r0, r1, r2, _⟩ := HR.out
    refine bodyPost_ret (v := .agg #[.int .i64 0, .int .i64 E, .slice none 0 0]) (by simp [results, Tryz.results67, go_sem, r0, r1, r2]) rfl (HE.out.1 ▸ mvq_no HE.out.2 (((HB02.out.setCell (p := ⟨w.heap.size, 0, none⟩) (Nat.le_refl _) _).setCell (p := ⟨w.heap.size, 1, none⟩) (Nat.le_refl _) _).setCell (p := ⟨w.heap.size, 2, none⟩) (Nat.le_refl _) _))
end
end Go.Proofs.YtdllgeanmlmmfaaGreatDoor.Md
namespace Go.Proofs.YtdllgeanmlmmfaaGreatDoor.Md
open Go.RowKit Gr Cl
set_option linter.unusedVariables false
set_option linter.unusedSimpArgs false
section
variable {τ τ' : Nat → Nat} {w w' : World} {b i : Nat} {c c' : Mc} {tv : List Tv} {s s' : Ms} {y' : Tv} {x' : Th}
/-- One thread is another one. -/
theorem MdAt.upd (h : MdAt τ w b c tv s) (st : StepM τ τ' w w') (htz : ∀ k, τ' k ≠ 0 → k < w'.heap.size) (hmc : McAt w' b c') (h1 : c'.th = c.th) (h2 : c'.n = c.n) (h3 : c'.cth = c.cth) (hrow : Rw.Own thK w' 0 95 (.slice c.th c.n c.cth) (tv.set i y')) (hi : i < tv.length) (hq : ∀ k, k < w.heap.size → 4 ≤ τ k → τ k ≠ 4 + 2 * i → τ k ≠ 5 + 2 * i → w'.heap[k]? = w.heap[k]?)
    (ht : ThAt τ' w' i y' x') (h4 : s'.th = s.th.set i x')
    (hp : Pers τ' w' (fun w => Mat w 0 c'.vp s'.p s'.D)) (hta : Pers τ' w' (fun w => Rw.Sl Tb.slK w c'.vt s'.T)) (hpo : Pers τ' w' (fun w => Batch.Sl w c'.pool s'.pool)) (hst : Pers τ' w' (fun w => Batch.Sl w c'.staged s'.staged)) (hfo : Pers τ' w' (fun w => Batch.Sl w c'.folded s'.folded)) (hpp : c'.p = s'.p) (hsh : Pers τ' w' (fun w => ShR w c'.sh s'.p s'.shown)) (hrm : c'.room = s'.room) (hcl : c'.cl = s'.cl) : MdAt τ' w' b c' (tv.set i y') s' := by
  have hbl := h.mc.lt
  refine ⟨hmc, (st.ext b hbl).trans h.tb, htz, by rw [h1, h2, h3]; exact hrow, fun g hg => ?_, by rw [h2, List.length_set]; exact h.nn, by rw [h4, List.length_set, List.length_set]; exact h.ln, fun j t x h5 h6 => ?_, hp, hta, hpo, hst, hfo, hpp, hsh, hrm, hcl⟩
  · rw [h1] at hg
    have hl := (own_has h.row (g := g.block) (by rw [hg]; rfl)).2
    exact (st.ext _ hl).trans (h.tt g hg)
  · rw [h4] at h6
    by_cases e : i = j
    · subst e
      rw [List.getElem?_set_self hi] at h5
      rw [List.getElem?_set_self (by rw [← h.ln]; exact hi)] at h6
      obtain rfl := Option.some.inj h5
      obtain rfl := Option.some.inj h6
      exact ht
    · rw [List.getElem?_set_ne e] at h5 h6
      exact (h.thr j t x h5 h6).step st (fun k h7 h8 => hq k h7 (by omega) (by omega) (by omega)) (fun k h7 h8 => hq k h7 (by omega) (by omega) (by omega))
end
/-- What a call leaves. -/
def MdP (τ : Nat → Nat) (w : World) (b : Nat) (s' : Ms) (w' : World) : Prop := ∃ τ', MdI τ' w' b s' ∧ StepM τ τ' w w' ∧ (b < w.heap.size → w'.cell? ⟨b, 3, none⟩ = w.cell? ⟨b, 3, none⟩)
theorem MdP.same {τ : Nat → Nat} {w w' : World} {b : Nat} {s : Ms} (h : MdI τ w b s) (hb : Below w.heap.size w w') : MdP τ w b s w' := ⟨τ, h.below hb, StepM.below hb, fun hl => hb.cell (p := ⟨b, 3, none⟩) hl⟩
theorem MdP.zero {τ : Nat → Nat} {w w1 w2 w3 : World} {b : Nat} {s : Ms} (h : MdP τ w1 b s w2) (hb : Below w.heap.size w w1) (hz : Below 0 w2 w3) (z : ∀ k, k < w2.heap.size → w3.heap[k]? = w2.heap[k]? ∨ (k < w1.heap.size ∧ w.heap.size ≤ k ∧ τ k = 0)) : MdP τ w b s w3 := by
  obtain ⟨τ', hm, st, h3⟩ := h
  have s0 : StepM τ τ w w1 := StepM.below hb
  have s1 := s0.trans st
  have hbm : w3.heap[b]? = w2.heap[b]? ∧ b < w2.heap.size := by
    obtain ⟨c, tv, hM⟩ := hm
    refine ⟨(z b hM.mc.lt).resolve_right fun h => ?_, hM.mc.lt⟩
    have h5 := st.ext b h.1
    rw [hM.tb, h.2.2] at h5
    omega
  refine ⟨τ', hm.zero ⟨hz.size, fun k hk ht => ?_⟩, ⟨s1.bel.trans hz, s1.ext, fun k hk ht => ?_⟩, ?_⟩
  · rcases z k hk with h | ⟨h1, h2, h3⟩
    · exact h
    · rw [st.ext k h1, h3] at ht; exact absurd rfl ht
  · rcases z k (Nat.lt_of_lt_of_le hk s1.bel.size) with h | ⟨h1, h2, h3⟩
    · exact h.trans (s1.out k hk ht)
    · omega
  · exact fun hbw => (World.cell?_of_block (w := w2) hbm.1).trans ((h3 (Nat.lt_of_lt_of_le hbw hb.size)).trans (hb.cell (p := ⟨b, 3, none⟩) hbw))
theorem MvP.c3 {τ τ' : Nat → Nat} {w w' : World} {b j g o t : Nat} {v s' : Sx} {rest : List (List Batch.Ch)} {R : List Batch.Ch} (h : MvP τ τ' w w' b j g o t v s' rest R) (hj : j ≠ 3) : w'.cell? ⟨b, 3, none⟩ = w.cell? ⟨b, 3, none⟩ :=
  (World.cell?_of_block (w := w.setCell ⟨b, j, none⟩ v.val) h.hb).trans (World.cell?_setCell_other _ _ _ _ (fun e => hj (congrArg Addr.off e)))
/-- A thread's place. -/
theorem MdAt.thr_at {τ : Nat → Nat} {w : World} {b i : Nat} {c : Mc} {tv : List Tv} {s : Ms} (h : MdAt τ w b c tv s) {x : Th} (hx : s.th[i]? = some x) : ∃ g t, c.th = some ⟨g, 0, none⟩ ∧ τ g = 2 ∧ tv[i]? = some t ∧ ThAt τ w i t x ∧ g < w.heap.size ∧ i < c.n ∧ w.cell? ⟨g, i * 4, none⟩ = some t.h.val ∧ w.cell? ⟨g, i * 4 + 1, none⟩ = some t.b.val ∧ w.cell? ⟨g, i * 4 + 2, none⟩ = some t.o.val ∧ w.cell? ⟨g, i * 4 + 3, none⟩ = some t.r.val ∧ ∀ o, w.frozen? ⟨g, o, none⟩ = false := by
  have hi : i < tv.length := by rw [h.ln]; exact (List.getElem?_eq_some_iff.1 hx).1
  obtain ⟨t, ht⟩ : ∃ t, tv[i]? = some t := ⟨_, List.getElem?_eq_getElem hi⟩
  obtain ⟨g, hg, hn, hl⟩ := th_form h.row hi
  have hrow := h.row
  rw [hg] at hrow
  obtain ⟨c0, c1, c2, c3, cf⟩ := th_cells hrow ht
  exact ⟨g, t, hg, h.tt _ hg, ht, h.thr i t x ht hx, hl, by rw [hn]; exact hi, c0, c1, c2, c3, cf⟩
section
variable {τ τ' : Nat → Nat} {w w' : World} {b i g : Nat} {c : Mc} {tv : List Tv} {s : Ms} {t : Tv} {x : Th} {v q' : Sx} {rest : List (List Batch.Ch)} {R : List Batch.Ch}
/-- move of the first that was put off into the pool. -/
theorem MdAt.put1 (h : MdAt τ w b c tv s) (hx : s.th[i]? = some x) (hth : c.th = some ⟨g, 0, none⟩) (ht : tv[i]? = some t) (hm : MvP τ τ' w w' b 4 g (i * 4 + 2) (4 + 2 * i) v q' rest R) :
    MdI τ' w' b { s with pool := R, th := s.th.set i { x with off := rest } } := by
  have st := hm.st
  have hbl := h.mc.lt
  have tg := h.tt _ hth
  have tb := h.tb
  dsimp only at tg
  have hil := (List.getElem?_eq_some_iff.1 ht).1
  have hrow := h.row
  rw [hth] at hrow
  have hT := h.thr i t x ht hx
  refine ⟨{ c with pool := v.val }, tv.set i { t with o := q' }, h.upd (x' := { x with off := rest }) st hm.tz (hm.hb.trans ?_) rfl rfl rfl ?_ hil (fun k hk h4 h5 h6 => hm.oth k hk (fun e => by rw [e] at h4; omega) (fun e => by rw [e] at h4; omega) h5) ⟨hT.hs.size st, hT.bs.size st, hm.q, hT.ring.step (by omega) st (fun k hk h5 => hm.oth k hk (fun e => by rw [e] at h5; omega) (fun e => by rw [e] at h5; omega) (by omega))⟩ rfl (h.paths.size st) (h.tab.size st) hm.m (h.staged.size st) (h.folded.size st) h.pp (h.shown.size st) h.rm h.cl⟩
  · exact heap_setCell_same w b 4 _ _ v.val h.mc
  · rw [hth]
    exact own_blk (th_set (k := 2) hrow ht (by decide) (t' := { t with o := q' }) rfl) fun k hk => by
      simp [Value.ownBlock] at hk
      subst hk
      exact hm.hg
/-- move of a ring's first into what is staged. -/
theorem MdAt.pop1 (h : MdAt τ w b c tv s) (hx : s.th[i]? = some x) (hth : c.th = some ⟨g, 0, none⟩) (ht : tv[i]? = some t) (hm : MvP τ τ' w w' b 5 g (i * 4 + 3) (5 + 2 * i) v q' rest R) :
    MdI τ' w' b { s with staged := R, th := s.th.set i { x with ring := rest } } := by
  have st := hm.st
  have hbl := h.mc.lt
  have tg := h.tt _ hth
  have tb := h.tb
  dsimp only at tg
  have hil := (List.getElem?_eq_some_iff.1 ht).1
  have hrow := h.row
  rw [hth] at hrow
  have hT := h.thr i t x ht hx
  refine ⟨{ c with staged := v.val }, tv.set i { t with r := q' }, h.upd (x' := { x with ring := rest }) st hm.tz (hm.hb.trans ?_) rfl rfl rfl ?_ hil (fun k hk h4 h5 h6 => hm.oth k hk (fun e => by rw [e] at h4; omega) (fun e => by rw [e] at h4; omega) h6) ⟨hT.hs.size st, hT.bs.size st, hT.off.step (by omega) st (fun k hk h5 => hm.oth k hk (fun e => by rw [e] at h5; omega) (fun e => by rw [e] at h5; omega) (by omega)), hm.q⟩ rfl (h.paths.size st) (h.tab.size st) (h.pool.size st) hm.m (h.folded.size st) h.pp (h.shown.size st) h.rm h.cl⟩
  · exact heap_setCell_same w b 5 _ _ v.val h.mc
  · rw [hth]
    exact own_blk (th_set (k := 3) hrow ht (by decide) (t' := { t with r := q' }) rfl) fun k hk => by
      simp [Value.ownBlock] at hk
      subst hk
      exact hm.hg
end
theorem McAt.c1 {w : World} {b : Nat} {c : Mc} (h : McAt w b c) : w.cell? ⟨b, 1, none⟩ = some (.int .i64 c.room) := by unfold McAt at h; simp [World.cell?, h]
theorem McAt.c4 {w : World} {b : Nat} {c : Mc} (h : McAt w b c) : w.cell? ⟨b, 4, none⟩ = some c.pool := by unfold McAt at h; simp [World.cell?, h]
theorem McAt.c5 {w : World} {b : Nat} {c : Mc} (h : McAt w b c) : w.cell? ⟨b, 5, none⟩ = some c.staged := by unfold McAt at h; simp [World.cell?, h]
theorem McAt.c6 {w : World} {b : Nat} {c : Mc} (h : McAt w b c) : w.cell? ⟨b, 6, none⟩ = some c.folded := by unfold McAt at h; simp [World.cell?, h]
theorem McAt.c0 {w : World} {b : Nat} {c : Mc} (h : McAt w b c) : w.cell? ⟨b, 0, none⟩ = some c.vp := by unfold McAt at h; simp [World.cell?, h]
end Go.Proofs.YtdllgeanmlmmfaaGreatDoor.Md
