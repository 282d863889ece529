/-
  A RING, an act of each end under way, the document's queue and the law's own arrays, at one moment.
-/
import Derived.Test.YtjmkcgkkgamafaaRgPop3
import Derived.Test.YtjmkcgkkgamafaaRgMath
import Derived.Test.YtjmkcgkkgamafaaRgQs
namespace Go.Proofs.Ytjmkcgkkgamafaa.Rg
open Go.RowKit Rw Pk Go.Maps Mm
set_option linter.unusedVariables false
def pt (p : Option Nat) : Value := .pointer (p.map fun a => ⟨a, 0, none⟩)
/-- The blocks that are written. -/
def wl (nw st q : Nat) (p0 p1 : Option Nat) : List Nat := nw :: st :: q :: (p0.toList ++ p1.toList)
/-- An act that is under way. -/
structure Ca (w : World) (fs wl : List Nat) (r a : Nat) (A : Ac) (l : List Batch.Ch) : Prop where
  ac : AcAt w a A
  ar : A.r = r
  sl : Batch.Sl w A.bv l
  bv : ∀ g, A.bv.ownBlock = some g → g ∈ fs ∧ g ∉ wl
structure Rt (n : Nat) (w0 : World) (r nw st q N : Nat) (zs fs fq : List Nat) (L : List (List Batch.Ch)) (R : Ri) (M : Mm.St) (w : World) (v : Value) (ss : List Sv) (p0 p1 : Option Nat) (A0 A1 : Ac) (l0 l1 : List Batch.Ch) (s0 s1 : Int) : Prop where
  hq : Rq n w0 w fs zs r R M w
  nr : r ∉ fs
  nf : ∀ j ∈ fs, n ≤ j
  qs : Qs fq q N L w v ss
  qf : ∀ j ∈ fq, j = q ∨ (j ∈ fs ∧ j ∉ wl nw st q p0 p1)
  cn : ∃ T, w.heap[nw]? = some (.cells #[pt p0, pt p1] T (0, 0))
  cs : ∃ T, w.heap[st]? = some (.cells #[.int .i64 s0, .int .i64 s1] T (0, 0))
  nd : (wl nw st q p0 p1).Nodup
  wf : ∀ j ∈ wl nw st q p0 p1, j ∈ fs
  a0 : ∀ a, p0 = some a → Ca w fs (wl nw st q p0 p1) r a A0 l0
  a1 : ∀ a, p1 = some a → Ca w fs (wl nw st q p0 p1) r a A1 l1
section
variable {n r nw st q N a : Nat} {w0 w w' w1 : World} {zs zs' fs fs' fq : List Nat} {L L' : List (List Batch.Ch)} {R R' : Ri} {M M' : Mm.St} {v v' : Value} {ss ss' : List Sv} {p0 p1 : Option Nat} {A0 A1 A' : Ac} {l0 l1 l' : List Batch.Ch} {s0 s1 : Int}
theorem Ca.keep {x : List Nat} (h : Ca w fs x r a A' l') {x' : List Nat} (hf : ∀ j ∈ fs, j ∈ fs') (hx : ∀ j ∈ fs, j ∉ x → j ∉ x') (ha : w'.heap[a]? = w.heap[a]?) (hb : ∀ g ∈ fs, g ∉ x → w'.heap[g]? = w.heap[g]?) : Ca w' fs' x' r a A' l' :=
  ⟨h.ac.of_block ha, h.ar, sl_block h.sl (fun g hg => hb g (h.bv g hg).1 (h.bv g hg).2), fun g hg => ⟨hf g (h.bv g hg).1, hx g (h.bv g hg).1 (h.bv g hg).2⟩⟩
theorem Rt.lt (h : Rt n w0 r nw st q N zs fs fq L R M w v ss p0 p1 A0 A1 l0 l1 s0 s1) : ∀ j ∈ fs, j < w.heap.size := fun j hj => h.hq.flt j (h.hq.fz j hj)
theorem mem_nw : nw ∈ wl nw st q p0 p1 := by simp [wl]
theorem mem_st : st ∈ wl nw st q p0 p1 := by simp [wl]
theorem mem_q : q ∈ wl nw st q p0 p1 := by simp [wl]
theorem mem_0 (e : p0 = some a) : a ∈ wl nw st q p0 p1 := by simp [wl, e]
theorem mem_1 (e : p1 = some a) : a ∈ wl nw st q p0 p1 := by simp [wl, e]
theorem Rt.ne3 (h : Rt n w0 r nw st q N zs fs fq L R M w v ss p0 p1 A0 A1 l0 l1 s0 s1) : nw ≠ st ∧ nw ≠ q ∧ st ≠ q := by
  have := h.nd
  simp [wl] at this
  exact ⟨this.1.1, this.1.2.1, this.2.1.1⟩
theorem Rt.ne0 (h : Rt n w0 r nw st q N zs fs fq L R M w v ss p0 p1 A0 A1 l0 l1 s0 s1) (e : p0 = some a) : a ≠ nw ∧ a ≠ st ∧ a ≠ q ∧ p1 ≠ some a := by
  have := h.nd
  subst e
  simp [wl] at this
  refine ⟨fun e => ?_, fun e => ?_, fun e => ?_, fun e => ?_⟩ <;> subst e <;> simp_all
theorem Rt.ne1 (h : Rt n w0 r nw st q N zs fs fq L R M w v ss p0 p1 A0 A1 l0 l1 s0 s1) (e : p1 = some a) : a ≠ nw ∧ a ≠ st ∧ a ≠ q ∧ p0 ≠ some a := by
  have := h.nd
  subst e
  simp [wl] at this
  refine ⟨fun e => ?_, fun e => ?_, fun e => ?_, fun e => ?_⟩ <;> subst e <;> simp_all
theorem Rt.nwr (h : Rt n w0 r nw st q N zs fs fq L R M w v ss p0 p1 A0 A1 l0 l1 s0 s1) {j : Nat} (hj : j ∈ wl nw st q p0 p1) : j ≠ r := fun e => h.nr (e ▸ h.wf j hj)
theorem Rt.below (h : Rt n w0 r nw st q N zs fs fq L R M w v ss p0 p1 A0 A1 l0 l1 s0 s1) (hb : Below w.heap.size w w') : Rt n w0 r nw st q N zs fs fq L R M w' v ss p0 p1 A0 A1 l0 l1 s0 s1 := by
  have hk : ∀ j ∈ fs, w'.heap[j]? = w.heap[j]? := fun j hj => hb.block j (h.lt j hj)
  refine ⟨(h.hq.below hb).rebase h.hq.fz, h.nr, h.nf, h.qs.keep (fun j hj => hk j ((h.qf j hj).elim (fun e => e ▸ h.wf q mem_q) (fun e => e.1))), h.qf, ?_, ?_, h.nd, h.wf, fun a e => (h.a0 a e).keep (fun _ h => h) (fun _ _ h => h) (hk a (h.wf a (mem_0 e))) (fun g hg _ => hk g hg), fun a e => (h.a1 a e).keep (fun _ h => h) (fun _ _ h => h) (hk a (h.wf a (mem_1 e))) (fun g hg _ => hk g hg)⟩
  · obtain ⟨T, hT⟩ := h.cn; exact ⟨T, (hk nw (h.wf nw mem_nw)).trans hT⟩
  · obtain ⟨T, hT⟩ := h.cs; exact ⟨T, (hk st (h.wf st mem_st)).trans hT⟩
theorem Rt.cells (h : Rt n w0 r nw st q N zs fs fq L R M w v ss p0 p1 A0 A1 l0 l1 s0 s1) :
    w.cell? ⟨nw, 0, none⟩ = some (pt p0) ∧ w.cell? ⟨nw, 1, none⟩ = some (pt p1) ∧ w.cell? ⟨st, 0, none⟩ = some (.int .i64 s0) ∧ w.cell? ⟨st, 1, none⟩ = some (.int .i64 s1) ∧ (∀ o, w.frozen? ⟨nw, o, none⟩ = false) ∧ ∀ o, w.frozen? ⟨st, o, none⟩ = false := by
  obtain ⟨T, hT⟩ := h.cn
  obtain ⟨S, hS⟩ := h.cs
  simp [World.cell?, World.frozen?, hT, hS]
/-- The pusher's act, as a call of it wants it. -/
theorem Rt.rg0 (h : Rt n w0 r nw st q N zs fs fq L R M w v ss p0 p1 A0 A1 l0 l1 s0 s1) (e : p0 = some a) : Rg n w0 w fs zs a r R A0 l0 M w := by
  have c := h.a0 a e
  have hf := h.wf a (mem_0 e)
  exact ⟨h.hq.mz, h.hq.ri, c.ac, h.hq.fz a hf, h.hq.rm, h.nf a hf, h.hq.nr, h.nwr (mem_0 e), c.ar, c.sl, fun g hg => ⟨h.hq.fz g (c.bv g hg).1, fun e' => (c.bv g hg).2 (e' ▸ mem_0 e), fun e' => h.nr (e' ▸ (c.bv g hg).1)⟩, h.hq.fz, fun _ _ _ _ => rfl, Nat.le_refl _⟩
theorem Rt.rg1 (h : Rt n w0 r nw st q N zs fs fq L R M w v ss p0 p1 A0 A1 l0 l1 s0 s1) (e : p1 = some a) : Rg n w0 w fs zs a r R A1 l1 M w := by
  have c := h.a1 a e
  have hf := h.wf a (mem_1 e)
  exact ⟨h.hq.mz, h.hq.ri, c.ac, h.hq.fz a hf, h.hq.rm, h.nf a hf, h.hq.nr, h.nwr (mem_1 e), c.ar, c.sl, fun g hg => ⟨h.hq.fz g (c.bv g hg).1, fun e' => (c.bv g hg).2 (e' ▸ mem_1 e), fun e' => h.nr (e' ▸ (c.bv g hg).1)⟩, h.hq.fz, fun _ _ _ _ => rfl, Nat.le_refl _⟩
theorem Rg.rq (h : Rg n w0 w fs zs a r R A' l' M w') (hf : ∀ j ∈ fs', j ∈ zs) : Rq n w0 w' fs' zs r R M w' := ⟨h.mz, h.ri, h.rm, h.nr, hf, fun _ _ _ => rfl, Nat.le_refl _⟩
/-- Back from it. -/
theorem Rt.back0 (h : Rt n w0 r nw st q N zs fs fq L R M w v ss p0 p1 A0 A1 l0 l1 s0 s1) (e : p0 = some a) (hg : Rg n w0 w fs zs' a r R' A' l' M' w') (f1 : ∀ j ∈ fs, j ∈ fs') (f2 : ∀ j ∈ fs', j ∈ zs') (f3 : ∀ j ∈ fs', j ∈ fs ∨ w.heap.size ≤ j) (hv : ∀ g, A'.bv.ownBlock = some g → g ∈ fs' ∧ g ∉ wl nw st q p0 p1) :
    Rt n w0 r nw st q N zs' fs' fq L R' M' w' v ss p0 p1 A' A1 l' l1 s0 s1 := by
  have hk : ∀ j ∈ fs, j ≠ a → w'.heap[j]? = w.heap[j]? := fun j hj hja => hg.fr j hj hja (fun e' => h.nr (e' ▸ hj))
  obtain ⟨d1, d2, d3, d4⟩ := h.ne0 e
  have hr := h.hq.ri.lt
  have hn := h.hq.mz.nl
  refine ⟨hg.rq f2, fun hx => (f3 r hx).elim h.nr (fun e => by omega), fun j hj => (f3 j hj).elim (h.nf j) (fun e => by omega), h.qs.keep (fun j hj => ?_), fun j hj => (h.qf j hj).imp id (fun e => ⟨f1 j e.1, e.2⟩), ?_, ?_, h.nd, fun j hj => f1 j (h.wf j hj), fun a' e' => ?_, fun a' e' => (h.a1 a' e').keep f1 (fun _ _ h => h) (hk a' (h.wf a' (mem_1 e')) (fun x => d4 (x ▸ e'))) (fun g hg hx => hk g hg (fun x => hx (x ▸ mem_0 e)))⟩
  · rcases h.qf j hj with rfl | ⟨x1, x2⟩
    · exact hk _ (h.wf _ mem_q) (Ne.symm d3)
    · exact hk j x1 (fun x => x2 (x ▸ mem_0 e))
  · obtain ⟨T, hT⟩ := h.cn; exact ⟨T, (hk nw (h.wf nw mem_nw) (Ne.symm d1)).trans hT⟩
  · obtain ⟨T, hT⟩ := h.cs; exact ⟨T, (hk st (h.wf st mem_st) (Ne.symm d2)).trans hT⟩
  · obtain rfl : a = a' := by rw [e] at e'; simpa using e'
    exact ⟨hg.ac, hg.ar, hg.sl, hv⟩
theorem Rt.back1 (h : Rt n w0 r nw st q N zs fs fq L R M w v ss p0 p1 A0 A1 l0 l1 s0 s1) (e : p1 = some a) (hg : Rg n w0 w fs zs' a r R' A' l' M' w') (f1 : ∀ j ∈ fs, j ∈ fs') (f2 : ∀ j ∈ fs', j ∈ zs') (f3 : ∀ j ∈ fs', j ∈ fs ∨ w.heap.size ≤ j) (hv : ∀ g, A'.bv.ownBlock = some g → g ∈ fs' ∧ g ∉ wl nw st q p0 p1) :
    Rt n w0 r nw st q N zs' fs' fq L R' M' w' v ss p0 p1 A0 A' l0 l' s0 s1 := by
  have hk : ∀ j ∈ fs, j ≠ a → w'.heap[j]? = w.heap[j]? := fun j hj hja => hg.fr j hj hja (fun e' => h.nr (e' ▸ hj))
  obtain ⟨d1, d2, d3, d4⟩ := h.ne1 e
  have hr := h.hq.ri.lt
  have hn := h.hq.mz.nl
  refine ⟨hg.rq f2, fun hx => (f3 r hx).elim h.nr (fun e => by omega), fun j hj => (f3 j hj).elim (h.nf j) (fun e => by omega), h.qs.keep (fun j hj => ?_), fun j hj => (h.qf j hj).imp id (fun e => ⟨f1 j e.1, e.2⟩), ?_, ?_, h.nd, fun j hj => f1 j (h.wf j hj), fun a' e' => (h.a0 a' e').keep f1 (fun _ _ h => h) (hk a' (h.wf a' (mem_0 e')) (fun x => d4 (x ▸ e'))) (fun g hg hx => hk g hg (fun x => hx (x ▸ mem_1 e))), fun a' e' => ?_⟩
  · rcases h.qf j hj with rfl | ⟨x1, x2⟩
    · exact hk _ (h.wf _ mem_q) (Ne.symm d3)
    · exact hk j x1 (fun x => x2 (x ▸ mem_1 e))
  · obtain ⟨T, hT⟩ := h.cn; exact ⟨T, (hk nw (h.wf nw mem_nw) (Ne.symm d1)).trans hT⟩
  · obtain ⟨T, hT⟩ := h.cs; exact ⟨T, (hk st (h.wf st mem_st) (Ne.symm d2)).trans hT⟩
  · obtain rfl : a = a' := by rw [e] at e'; simpa using e'
    exact ⟨hg.ac, hg.ar, hg.sl, hv⟩
/-- A store to one of the law's arrays. -/
theorem Rt.keepSet (h : Rt n w0 r nw st q N zs fs fq L R M w v ss p0 p1 A0 A1 l0 l1 s0 s1) {g : Nat} (hg : g = nw ∨ g = st) (o : Nat) (u : Value) :
    Rq n w0 (w.setCell ⟨g, o, none⟩ u) fs zs r R M (w.setCell ⟨g, o, none⟩ u) ∧ Qs fq q N L (w.setCell ⟨g, o, none⟩ u) v ss ∧ (∀ a, p0 = some a → Ca (w.setCell ⟨g, o, none⟩ u) fs (wl nw st q p0 p1) r a A0 l0) ∧ ∀ a, p1 = some a → Ca (w.setCell ⟨g, o, none⟩ u) fs (wl nw st q p0 p1) r a A1 l1 := by
  have hgw : g ∈ wl nw st q p0 p1 := by rcases hg with rfl | rfl; exact mem_nw; exact mem_st
  have hk : ∀ j, j ≠ g → (w.setCell ⟨g, o, none⟩ u).heap[j]? = w.heap[j]? := fun j hj => Below.heap_setCell _ _ _ _ hj
  obtain ⟨e1, e2, e3⟩ := h.ne3
  have hgq : q ≠ g := by rcases hg with rfl | rfl; exact Ne.symm e2; exact Ne.symm e3
  refine ⟨(h.hq.store (h.hq.fz g (h.wf g hgw)) (h.nf g (h.wf g hgw)) (h.nwr hgw) o u).rebase h.hq.fz, h.qs.keep (fun j hj => hk j ?_), fun a e => (h.a0 a e).keep (fun _ h => h) (fun _ _ h => h) (hk a ?_) (fun j _ hx => hk j (fun x => hx (x ▸ hgw))), fun a e => (h.a1 a e).keep (fun _ h => h) (fun _ _ h => h) (hk a ?_) (fun j _ hx => hk j (fun x => hx (x ▸ hgw)))⟩
  · rcases h.qf j hj with rfl | ⟨_, x2⟩
    · exact hgq
    · exact fun x => x2 (x ▸ hgw)
  · obtain ⟨d1, d2, _⟩ := h.ne0 e
    rcases hg with rfl | rfl
    · exact d1
    · exact d2
  · obtain ⟨d1, d2, _⟩ := h.ne1 e
    rcases hg with rfl | rfl
    · exact d1
    · exact d2
theorem Rt.setS0 (h : Rt n w0 r nw st q N zs fs fq L R M w v ss p0 p1 A0 A1 l0 l1 s0 s1) (x : Int) : Rt n w0 r nw st q N zs fs fq L R M (w.setCell ⟨st, 0, none⟩ (.int .i64 x)) v ss p0 p1 A0 A1 l0 l1 x s1 := by
  obtain ⟨h1, h2, h3, h4⟩ := h.keepSet (.inr rfl) 0 (.int .i64 x)
  obtain ⟨e1, e2, e3⟩ := h.ne3
  refine ⟨h1, h.nr, h.nf, h2, h.qf, ?_, ?_, h.nd, h.wf, h3, h4⟩
  · obtain ⟨T, hT⟩ := h.cn; exact ⟨T, (Below.heap_setCell _ _ _ _ e1).trans hT⟩
  · obtain ⟨T, hT⟩ := h.cs; exact ⟨T, heap_setCell_same w st 0 _ _ _ hT⟩
theorem Rt.setS1 (h : Rt n w0 r nw st q N zs fs fq L R M w v ss p0 p1 A0 A1 l0 l1 s0 s1) (x : Int) : Rt n w0 r nw st q N zs fs fq L R M (w.setCell ⟨st, 1, none⟩ (.int .i64 x)) v ss p0 p1 A0 A1 l0 l1 s0 x := by
  obtain ⟨h1, h2, h3, h4⟩ := h.keepSet (.inr rfl) 1 (.int .i64 x)
  obtain ⟨e1, e2, e3⟩ := h.ne3
  refine ⟨h1, h.nr, h.nf, h2, h.qf, ?_, ?_, h.nd, h.wf, h3, h4⟩
  · obtain ⟨T, hT⟩ := h.cn; exact ⟨T, (Below.heap_setCell _ _ _ _ e1).trans hT⟩
  · obtain ⟨T, hT⟩ := h.cs; exact ⟨T, heap_setCell_same w st 1 _ _ _ hT⟩
theorem less0 {j : Nat} (h : j ∉ wl nw st q p0 p1) : j ∉ wl nw st q none p1 := fun hj => h (by simp [wl] at hj ⊢; rcases hj with e | e | e | e <;> simp [e])
theorem less1 {j : Nat} (h : j ∉ wl nw st q p0 p1) : j ∉ wl nw st q p0 none := fun hj => h (by simp [wl] at hj ⊢; rcases hj with e | e | e | e <;> simp [e])
/-- The pusher's act is over and gone. -/
theorem Rt.end0 (h : Rt n w0 r nw st q N zs fs fq L R M w v ss p0 p1 A0 A1 l0 l1 s0 s1) (A : Ac) (l : List Batch.Ch) : Rt n w0 r nw st q N zs fs fq L R M (w.setCell ⟨nw, 0, none⟩ (.pointer none)) v ss none p1 A A1 l l1 s0 s1 := by
  obtain ⟨h1, h2, h3, h4⟩ := h.keepSet (.inl rfl) 0 (.pointer none)
  obtain ⟨e1, e2, e3⟩ := h.ne3
  refine ⟨h1, h.nr, h.nf, h2, fun j hj => (h.qf j hj).imp id (fun e => ⟨e.1, less0 e.2⟩), ?_, ?_, ?_, fun j hj => h.wf j ?_, fun a e => (by cases e), fun a e => ?_⟩
  · obtain ⟨T, hT⟩ := h.cn; exact ⟨T, heap_setCell_same w nw 0 _ _ _ hT⟩
  · obtain ⟨T, hT⟩ := h.cs; exact ⟨T, (Below.heap_setCell _ _ _ _ (Ne.symm e1)).trans hT⟩
  · have := h.nd
    cases p0 with
    | none => exact this
    | some a =>
      simp only [wl, Option.toList_some, Option.toList_none, List.nil_append] at this ⊢
      exact this.sublist (by simp)
  · simp [wl] at hj ⊢
    rcases hj with e | e | e | e <;> simp [e]
  · obtain ⟨c1, c2, c3, c4⟩ := h4 a e
    exact ⟨c1, c2, c3, fun g hg => ⟨(c4 g hg).1, less0 (c4 g hg).2⟩⟩
theorem Rt.end1 (h : Rt n w0 r nw st q N zs fs fq L R M w v ss p0 p1 A0 A1 l0 l1 s0 s1) (A : Ac) (l : List Batch.Ch) : Rt n w0 r nw st q N zs fs fq L R M (w.setCell ⟨nw, 1, none⟩ (.pointer none)) v ss p0 none A0 A l0 l s0 s1 := by
  obtain ⟨h1, h2, h3, h4⟩ := h.keepSet (.inl rfl) 1 (.pointer none)
  obtain ⟨e1, e2, e3⟩ := h.ne3
  refine ⟨h1, h.nr, h.nf, h2, fun j hj => (h.qf j hj).imp id (fun e => ⟨e.1, less1 e.2⟩), ?_, ?_, ?_, fun j hj => h.wf j ?_, fun a e => ?_, fun a e => by cases e⟩
  · obtain ⟨T, hT⟩ := h.cn; exact ⟨T, heap_setCell_same w nw 1 _ _ _ hT⟩
  · obtain ⟨T, hT⟩ := h.cs; exact ⟨T, (Below.heap_setCell _ _ _ _ (Ne.symm e1)).trans hT⟩
  · have := h.nd
    cases p1 with
    | none => exact this
    | some a =>
      simp only [wl, Option.toList_some, Option.toList_none, List.append_nil] at this ⊢
      exact this.sublist (by simp)
  · simp [wl] at hj ⊢
    rcases hj with e | e | e | e <;> simp [e]
  · obtain ⟨c1, c2, c3, c4⟩ := h3 a e
    exact ⟨c1, c2, c3, fun g hg => ⟨(c4 g hg).1, less1 (c4 g hg).2⟩⟩
/-- A new act of the pusher's. -/
theorem Rt.new0 (h : Rt n w0 r nw st q N zs fs fq L R M w v ss none p1 A0 A1 l0 l1 s0 s1) (hg : Rg n w0 w fs zs' a r R' A' l' M' w') (ha : w.heap.size ≤ a) (hv : ∀ g, A'.bv.ownBlock = some g → w.heap.size ≤ g) :
    Rt n w0 r nw st q N zs' (a :: (A'.bv.ownBlock.toList ++ fs)) fq L R' M' (w'.setCell ⟨nw, 0, none⟩ (pt (some a))) v ss (some a) p1 A' A1 l' l1 s0 s1 := by
  obtain ⟨e1, e2, e3⟩ := h.ne3
  have hlt := h.lt
  have hna : ∀ j ∈ fs, j ≠ a := fun j hj e => by have := hlt j hj; omega
  have hnv : ∀ j ∈ fs, ∀ g, A'.bv.ownBlock = some g → j ≠ g := fun j hj g hg e => by have := hlt j hj; have := hv g hg; omega
  have hnwa := hna nw (h.wf nw mem_nw)
  have hk : ∀ j ∈ fs, j ≠ nw → (w'.setCell ⟨nw, 0, none⟩ (pt (some a))).heap[j]? = w.heap[j]? := fun j hj hn => (Below.heap_setCell _ _ _ _ hn).trans (hg.fr j hj (hna j hj) (fun e => h.nr (e ▸ hj)))
  have hr := h.hq.ri.lt
  have hn := h.hq.mz.nl
  have hx : ∀ j ∈ fs, j ∉ wl nw st q none p1 → j ∉ wl nw st q (some a) p1 := fun j hj hj' hc => by
    have := hna j hj
    simp [wl] at hj' hc
    rcases hc with e | e | e | e | e <;> simp_all
  have hfz : ∀ j ∈ a :: (A'.bv.ownBlock.toList ++ fs), j ∈ zs' := fun j hj => by
    rcases List.mem_cons.1 hj with rfl | hj
    · exact hg.am
    · rcases List.mem_append.1 hj with hj | hj
      · exact (hg.bv j (by simpa using hj)).1
      · exact hg.fz j hj
  have hfo : ∀ j ∈ a :: (A'.bv.ownBlock.toList ++ fs), j ∈ fs ∨ w.heap.size ≤ j := fun j hj => by
    rcases List.mem_cons.1 hj with rfl | hj
    · exact .inr ha
    · rcases List.mem_append.1 hj with hj | hj
      · exact .inr (hv j (by simpa using hj))
      · exact .inl hj
  have hfi : ∀ j ∈ fs, j ∈ a :: (A'.bv.ownBlock.toList ++ fs) := fun j hj => List.mem_cons_of_mem _ (List.mem_append.2 (.inr hj))
  have hnw' : nw ∈ zs' := hg.fz nw (h.wf nw mem_nw)
  refine ⟨((hg.rq (fs' := a :: (A'.bv.ownBlock.toList ++ fs)) hfz).store hnw' (h.nf nw (h.wf nw mem_nw)) (h.nwr mem_nw) 0 _).rebase hfz, fun hj => (hfo r hj).elim h.nr (fun e => by omega), fun j hj => (hfo j hj).elim (h.nf j) (fun e => by omega), h.qs.keep (fun j hj => ?_), fun j hj => (h.qf j hj).imp id (fun e => ⟨hfi j e.1, hx j e.1 e.2⟩), ?_, ?_, ?_, fun j hj => ?_, fun a' e => ?_, fun a' e => (h.a1 a' e).keep hfi hx (hk a' (h.wf a' (mem_1 e)) (h.ne1 e).1) (fun g hg hx => hk g hg (fun e => hx (e ▸ mem_nw)))⟩
  · rcases h.qf j hj with rfl | ⟨x1, x2⟩
    · exact hk _ (h.wf _ mem_q) (Ne.symm e2)
    · exact hk j x1 (fun e => x2 (e ▸ mem_nw))
  · obtain ⟨T, hT⟩ := h.cn
    have h1 : w'.heap[nw]? = some (.cells #[pt none, pt p1] T (0, 0)) := (hg.fr nw (h.wf nw mem_nw) hnwa (h.nwr mem_nw)).trans hT
    exact ⟨T, heap_setCell_same w' nw 0 _ _ _ h1⟩
  · obtain ⟨T, hT⟩ := h.cs; exact ⟨T, (hk st (h.wf st mem_st) (Ne.symm e1)).trans hT⟩
  · have h1 := h.nd
    have h2 : ∀ j ∈ wl nw st q none p1, j ≠ a := fun j hj => hna j (h.wf j hj)
    simp [wl] at h1 h2 ⊢
    refine ⟨⟨h1.1.1, h1.1.2.1, h2.1, h1.1.2.2⟩, ⟨h1.2.1.1, h2.2.1, h1.2.1.2⟩, ⟨h2.2.2.1, h1.2.2.1⟩, fun e => h2.2.2.2 a e rfl, h1.2.2.2⟩
  · simp [wl] at hj
    rcases hj with e | e | e | e | e
    · exact hfi _ (h.wf _ (e ▸ mem_nw))
    · exact hfi _ (h.wf _ (e ▸ mem_st))
    · exact hfi _ (h.wf _ (e ▸ mem_q))
    · simp [e]
    · exact hfi _ (h.wf _ (mem_1 e))
  · obtain rfl : a = a' := by simpa using e
    refine ⟨hg.ac.of_block (Below.heap_setCell _ _ _ _ (Ne.symm hnwa)), hg.ar, sl_block hg.sl (fun g hgg => Below.heap_setCell _ _ _ _ (fun e => hnv nw (h.wf nw mem_nw) g hgg e.symm)), fun g hgg => ⟨by simp [hgg], fun hc => ?_⟩⟩
    have h1 := (hg.bv g hgg).2.1
    have h3 : g ∉ wl nw st q none p1 := fun hj => hnv g (h.wf g hj) g hgg rfl
    simp [wl] at hc h3
    rcases hc with e | e | e | e | e <;> simp_all
theorem Rt.new1 (h : Rt n w0 r nw st q N zs fs fq L R M w v ss p0 none A0 A1 l0 l1 s0 s1) (hg : Rg n w0 w fs zs' a r R' A' l' M' w') (ha : w.heap.size ≤ a) (hv : A'.bv = .slice none 0 0) :
    Rt n w0 r nw st q N zs' (a :: fs) fq L R' M' (w'.setCell ⟨nw, 1, none⟩ (pt (some a))) v ss p0 (some a) A0 A' l0 l' s0 s1 := by
  obtain ⟨e1, e2, e3⟩ := h.ne3
  have hlt := h.lt
  have hna : ∀ j ∈ fs, j ≠ a := fun j hj e => by have := hlt j hj; omega
  have hnwa := hna nw (h.wf nw mem_nw)
  have hk : ∀ j ∈ fs, j ≠ nw → (w'.setCell ⟨nw, 1, none⟩ (pt (some a))).heap[j]? = w.heap[j]? := fun j hj hn => (Below.heap_setCell _ _ _ _ hn).trans (hg.fr j hj (hna j hj) (fun e => h.nr (e ▸ hj)))
  have hr := h.hq.ri.lt
  have hn := h.hq.mz.nl
  have hx : ∀ j ∈ fs, j ∉ wl nw st q p0 none → j ∉ wl nw st q p0 (some a) := fun j hj hj' hc => by
    have := hna j hj
    simp [wl] at hj' hc
    rcases hc with e | e | e | e | e <;> simp_all
  have hfz : ∀ j ∈ a :: fs, j ∈ zs' := fun j hj => by
    rcases List.mem_cons.1 hj with rfl | hj
    · exact hg.am
    · exact hg.fz j hj
  have hfo : ∀ j ∈ a :: fs, j ∈ fs ∨ w.heap.size ≤ j := fun j hj => by
    rcases List.mem_cons.1 hj with rfl | hj
    · exact .inr ha
    · exact .inl hj
  have hfi : ∀ j ∈ fs, j ∈ a :: fs := fun j hj => List.mem_cons_of_mem _ hj
  have hnw' : nw ∈ zs' := hg.fz nw (h.wf nw mem_nw)
  refine ⟨((hg.rq (fs' := a :: fs) hfz).store hnw' (h.nf nw (h.wf nw mem_nw)) (h.nwr mem_nw) 1 _).rebase hfz, fun hj => (hfo r hj).elim h.nr (fun e => by omega), fun j hj => (hfo j hj).elim (h.nf j) (fun e => by omega), h.qs.keep (fun j hj => ?_), fun j hj => (h.qf j hj).imp id (fun e => ⟨hfi j e.1, hx j e.1 e.2⟩), ?_, ?_, ?_, fun j hj => ?_, fun a' e => (h.a0 a' e).keep hfi hx (hk a' (h.wf a' (mem_0 e)) (h.ne0 e).1) (fun g hg hx => hk g hg (fun e => hx (e ▸ mem_nw))), fun a' e => ?_⟩
  · rcases h.qf j hj with rfl | ⟨x1, x2⟩
    · exact hk _ (h.wf _ mem_q) (Ne.symm e2)
    · exact hk j x1 (fun e => x2 (e ▸ mem_nw))
  · obtain ⟨T, hT⟩ := h.cn
    have h1 : w'.heap[nw]? = some (.cells #[pt p0, pt none] T (0, 0)) := (hg.fr nw (h.wf nw mem_nw) hnwa (h.nwr mem_nw)).trans hT
    exact ⟨T, heap_setCell_same w' nw 1 _ _ _ h1⟩
  · obtain ⟨T, hT⟩ := h.cs; exact ⟨T, (hk st (h.wf st mem_st) (Ne.symm e1)).trans hT⟩
  · have h1 := h.nd
    have h2 : ∀ j ∈ wl nw st q p0 none, j ≠ a := fun j hj => hna j (h.wf j hj)
    cases p0 with
    | none =>
      simp [wl] at h1 h2 ⊢
      exact ⟨⟨h1.1.1, h1.1.2, h2.1⟩, ⟨h1.2, h2.2.1⟩, h2.2.2⟩
    | some b =>
      simp [wl] at h1 h2 ⊢
      exact ⟨⟨h1.1.1, h1.1.2.1, h1.1.2.2, h2.1⟩, ⟨h1.2.1.1, h1.2.1.2, h2.2.1⟩, ⟨h1.2.2, h2.2.2.1⟩, h2.2.2.2⟩
  · simp [wl] at hj
    rcases hj with e | e | e | e | e
    · exact hfi _ (h.wf _ (e ▸ mem_nw))
    · exact hfi _ (h.wf _ (e ▸ mem_st))
    · exact hfi _ (h.wf _ (e ▸ mem_q))
    · exact hfi _ (h.wf _ (mem_0 e))
    · simp [e]
  · obtain rfl : a = a' := by simpa using e
    refine ⟨hg.ac.of_block (Below.heap_setCell _ _ _ _ (Ne.symm hnwa)), hg.ar, ?_, fun g hgg => by rw [hv] at hgg; simp [Value.ownBlock] at hgg⟩
    exact sl_block hg.sl (fun g hgg => by rw [hv] at hgg; simp [Value.ownBlock] at hgg)
end
end Go.Proofs.Ytjmkcgkkgamafaa.Rg
