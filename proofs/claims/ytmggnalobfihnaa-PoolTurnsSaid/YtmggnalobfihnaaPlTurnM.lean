/-
  THE LAW PoolTurns: what there is at a round, and how it goes on (plain, and in the memory).
-/
import Derived.Test.YtmggnalobfihnaaJoined14
import Derived.Test.YtmggnalobfihnaaJoined15
namespace Go.Proofs.Ytmggnalobfihnaa.Pl
open Go.RowKit Rw Pk Go.Maps Mm
open Batch (Ch tot sumsE sumsR)
set_option linter.unusedVariables false
/-! ### four of each -/
def ptA (x : Option Ax) : Value := .pointer (x.map fun X => ⟨X.a, 0, none⟩)
def upV {α : Type} (g : Nat → α) (k : Nat) (v : α) : Nat → α := fun i => if i = k then v else g i
theorem upV_same {α : Type} (g : Nat → α) (k : Nat) (v : α) : upV g k v k = v := if_pos rfl
theorem upV_other {α : Type} {g : Nat → α} {k i : Nat} {v : α} (h : i ≠ k) : upV g k v i = g i := if_neg h
def four (g : Nat → Value) : Array Value := #[g 0, g 1, g 2, g 3]
theorem four_set {k : Nat} (hk : k < 4) (g : Nat → Value) (v : Value) : (four g).setIfInBounds k v = four (upV g k v) := by
  match k, hk with
  | 0, _ => simp [four, upV]
  | 1, _ => simp [four, upV]
  | 2, _ => simp [four, upV]
  | 3, _ => simp [four, upV]
theorem four_get {k : Nat} (hk : k < 4) (g : Nat → Value) : (four g)[k]? = some (g k) := by
  match k, hk with
  | 0, _ => rfl
  | 1, _ => rfl
  | 2, _ => rfl
  | 3, _ => rfl
def F4 (w : World) (b : Nat) (g : Nat → Value) : Prop := ∃ T, w.heap[b]? = some (.cells (four g) T (0, 0))
section
variable {w w' : World} {b k : Nat} {g : Nat → Value}
theorem F4.cell (h : F4 w b g) (hk : k < 4) : w.cell? ⟨b, k, none⟩ = some (g k) := by
  obtain ⟨T, h⟩ := h
  exact (cell_of_row w b k _ _ _ h).trans (four_get hk g)
theorem F4.fz (h : F4 w b g) (o : Nat) : w.frozen? ⟨b, o, none⟩ = false := by
  obtain ⟨T, h⟩ := h
  exact frozen_of_row w b o _ _ h
theorem F4.lt (h : F4 w b g) : b < w.heap.size := by obtain ⟨T, h⟩ := h; exact (Array.getElem?_eq_some_iff.1 h).1
theorem F4.of_block (h : F4 w b g) (e : w'.heap[b]? = w.heap[b]?) : F4 w' b g := by obtain ⟨T, h⟩ := h; exact ⟨T, e.trans h⟩
theorem F4.set (h : F4 w b g) (hk : k < 4) (v : Value) : F4 (w.setCell ⟨b, k, none⟩ v) b (upV g k v) := by
  obtain ⟨T, h⟩ := h
  exact ⟨T, by rw [heap_setCell_same w b k _ _ _ h, four_set hk]⟩
theorem F4.eq {g' : Nat → Value} (h : F4 w b g) (e : ∀ i, i < 4 → g' i = g i) : F4 w b g' := by
  obtain ⟨T, h⟩ := h
  refine ⟨T, h.trans ?_⟩
  unfold four
  rw [e 0 (by decide), e 1 (by decide), e 2 (by decide), e 3 (by decide)]
end
/-! ### in the memory -/
structure Tc (n0 : Nat) (w0 : World) (s p n r nw wt st kk : Nat) (zs bl : List Nat) (vB : Value) (f : Nat → Option Ax) (nv wv : Nat → Value) (wl : Nat → List Ch) (ai : Nat → Nat) (C Cr : List Ch) (rnd rr : Int) (Bx : Nat → List Ch) (hl : Nat → Option Int) (M : Mm.St) (w : World) : Prop where
  pt : Pt n0 w0 s p n zs (r :: nw :: wt :: st :: bl) f M w
  iv : Iv n kk f (fun _ => none) C rnd Bx hl M
  rs : RPool w r vB rr
  bs : Batch.Sl w vB Cr
  vb : ∀ g, vB.ownBlock = some g → g ∈ bl
  cn : F4 w nw nv
  cw : F4 w wt wv
  cs : F4 w st (fun k => .int .i64 (ai k : Int))
  ws : ∀ k, k < 4 → Batch.Sl w (wv k) (wl k)
  wb : ∀ k, k < 4 → ∀ g, (wv k).ownBlock = some g → g ∈ bl
  nb : r ∉ bl ∧ nw ∉ bl ∧ wt ∉ bl ∧ st ∉ bl
  ne : r ≠ nw ∧ r ≠ wt ∧ r ≠ st ∧ nw ≠ wt ∧ nw ≠ st ∧ wt ≠ st
section
variable {n0 s p n r nw wt st kk kk' k : Nat} {w0 w w' w1 : World} {zs zs' bl : List Nat} {vB v : Value} {f f' : Nat → Option Ax} {nv wv : Nat → Value} {wl : Nat → List Ch} {ai : Nat → Nat} {C C' Cr C1 l : List Ch} {rnd rnd' rr : Int} {Bx Bx' : Nat → List Ch} {hl hl' : Nat → Option Int} {M M' : Mm.St} {X : Ax}
theorem Tc.lt (h : Tc n0 w0 s p n r nw wt st kk zs bl vB f nv wv wl ai C Cr rnd rr Bx hl M w) : ∀ j ∈ r :: nw :: wt :: st :: bl, j < w.heap.size := fun j hj => h.pt.lt j (h.pt.x j hj).1
theorem Tc.keep (h : Tc n0 w0 s p n r nw wt st kk zs bl vB f nv wv wl ai C Cr rnd rr Bx hl M w) (hk : ∀ j ∈ r :: nw :: wt :: st :: bl, w'.heap[j]? = w.heap[j]?) (hp : Pt n0 w0 s p n zs' (r :: nw :: wt :: st :: bl) f' M' w') (hi : Iv n kk' f' (fun _ => none) C' rnd' Bx' hl' M') :
    Tc n0 w0 s p n r nw wt st kk' zs' bl vB f' nv wv wl ai C' Cr rnd' rr Bx' hl' M' w' :=
  ⟨hp, hi, h.rs.of_block (hk r (by simp)), blk_sl h.bs (fun g hg => hk g (by simp [h.vb g hg])), h.vb, h.cn.of_block (hk nw (by simp)), h.cw.of_block (hk wt (by simp)), h.cs.of_block (hk st (by simp)), fun k hk4 => blk_sl (h.ws k hk4) (fun g hg => hk g (by simp [h.wb k hk4 g hg])), h.wb, h.nb, h.ne⟩
theorem Tc.below (h : Tc n0 w0 s p n r nw wt st kk zs bl vB f nv wv wl ai C Cr rnd rr Bx hl M w) (hb : Below w.heap.size w w') : Tc n0 w0 s p n r nw wt st kk zs bl vB f nv wv wl ai C Cr rnd rr Bx hl M w' :=
  h.keep (fun j hj => hb.block j (h.lt j hj)) (h.pt.below hb) h.iv
theorem Iv.more (I : Iv n kk f (fun _ => none) C rnd Bx hl M) (hk : kk ≤ kk') : Iv n kk' f (fun _ => none) C rnd Bx hl M := ⟨I.wp.more hk, I.ok, I.h1, I.h2, I.h3, I.b1, I.b2⟩
theorem Tc.more (h : Tc n0 w0 s p n r nw wt st kk zs bl vB f nv wv wl ai C Cr rnd rr Bx hl M w) (hk : kk ≤ kk') : Tc n0 w0 s p n r nw wt st kk' zs bl vB f nv wv wl ai C Cr rnd rr Bx hl M w :=
  h.keep (fun _ _ => rfl) h.pt (h.iv.more hk)
theorem Tc.kept (h : Tc n0 w0 s p n r nw wt st kk zs bl vB f nv wv wl ai C Cr rnd rr Bx hl M w) : Below n0 w0 w := h.pt.pq.mz.kept
/-- What was made since is kept, too. -/
theorem Tc.withO (h : Tc n0 w0 s p n r nw wt st kk zs bl vB f nv wv wl ai C Cr rnd rr Bx hl M w) (hb : Below w.heap.size w w') (hv : ∀ g, v.ownBlock = some g → w.heap.size ≤ g ∧ g < w'.heap.size) :
    ∃ zs', Tc n0 w0 s p n r nw wt st kk zs' (v.ownBlock.toList ++ bl) vB f nv wv wl ai C Cr rnd rr Bx hl M w' := by
  obtain ⟨zs', _, _, hp⟩ := (show Ps n0 w0 s p n kk zs _ f (fun _ => none) C rnd M w from ⟨h.pt, _, _, h.iv⟩).withO hb hv
  have hlt := h.lt
  have hb2 := h.below hb
  have hno : ∀ j, j ∈ r :: nw :: wt :: st :: bl → j ∉ v.ownBlock.toList := fun j hj e => by
    have := hv j (by simpa using e)
    have := hlt j hj
    omega
  refine ⟨zs', (hp.less (xs' := r :: nw :: wt :: st :: (v.ownBlock.toList ++ bl)) fun j hj => ?_).1, h.iv, hb2.rs, hb2.bs, fun g hg => List.mem_append.2 (.inr (h.vb g hg)), hb2.cn, hb2.cw, hb2.cs, hb2.ws, fun k hk g hg => List.mem_append.2 (.inr (h.wb k hk g hg)), ⟨fun e => ?_, fun e => ?_, fun e => ?_, fun e => ?_⟩, h.ne⟩
  · simp only [List.mem_cons, List.mem_append] at hj ⊢
    rcases hj with hj | hj | hj | hj | hj | hj
    · exact .inr (.inl hj)
    · exact .inr (.inr (.inl hj))
    · exact .inr (.inr (.inr (.inl hj)))
    · exact .inr (.inr (.inr (.inr (.inl hj))))
    · exact .inl hj
    · exact .inr (.inr (.inr (.inr (.inr hj))))
  · exact (List.mem_append.1 e).elim (hno r (by simp)) h.nb.1
  · exact (List.mem_append.1 e).elim (hno nw (by simp)) h.nb.2.1
  · exact (List.mem_append.1 e).elim (hno wt (by simp)) h.nb.2.2.1
  · exact (List.mem_append.1 e).elim (hno st (by simp)) h.nb.2.2.2
theorem off_same (g o : Nat) (u : Value) : ∀ j, j ≠ g → (w.setCell ⟨g, o, none⟩ u).heap[j]? = w.heap[j]? := fun j hj => Below.heap_setCell _ _ _ _ hj
/-- Stores to the law's own. -/
theorem Tc.setN (h : Tc n0 w0 s p n r nw wt st kk zs bl vB f nv wv wl ai C Cr rnd rr Bx hl M w) (hk : k < 4) (u : Value) : Tc n0 w0 s p n r nw wt st kk zs bl vB f (upV nv k u) wv wl ai C Cr rnd rr Bx hl M (w.setCell ⟨nw, k, none⟩ u) := by
  have ho := off_same (w := w) nw k u
  obtain ⟨e1, e2, e3, e4, e5, e6⟩ := h.ne
  have hbl : ∀ g ∈ bl, g ≠ nw := fun g hg e => h.nb.2.1 (e ▸ hg)
  exact ⟨h.pt.store (by simp) k u, h.iv, h.rs.of_block (ho r e1), blk_sl h.bs (fun g hg => ho g (hbl g (h.vb g hg))), h.vb, h.cn.set hk u, h.cw.of_block (ho wt (Ne.symm e4)), h.cs.of_block (ho st (Ne.symm e5)), fun i hi => blk_sl (h.ws i hi) (fun g hg => ho g (hbl g (h.wb i hi g hg))), h.wb, h.nb, h.ne⟩
theorem Tc.setS (h : Tc n0 w0 s p n r nw wt st kk zs bl vB f nv wv wl ai C Cr rnd rr Bx hl M w) (hk : k < 4) (x : Nat) : Tc n0 w0 s p n r nw wt st kk zs bl vB f nv wv wl (upV ai k x) C Cr rnd rr Bx hl M (w.setCell ⟨st, k, none⟩ (.int .i64 (x : Int))) := by
  have ho := off_same (w := w) st k (.int .i64 (x : Int))
  obtain ⟨e1, e2, e3, e4, e5, e6⟩ := h.ne
  have hbl : ∀ g ∈ bl, g ≠ st := fun g hg e => h.nb.2.2.2 (e ▸ hg)
  refine ⟨h.pt.store (by simp) k _, h.iv, h.rs.of_block (ho r e3), blk_sl h.bs (fun g hg => ho g (hbl g (h.vb g hg))), h.vb, h.cn.of_block (ho nw e5), h.cw.of_block (ho wt e6), (h.cs.set hk _).eq (fun i _ => ?_), fun i hi => blk_sl (h.ws i hi) (fun g hg => ho g (hbl g (h.wb i hi g hg))), h.wb, h.nb, h.ne⟩
  unfold upV
  split <;> rfl
theorem Tc.setW (h : Tc n0 w0 s p n r nw wt st kk zs bl vB f nv wv wl ai C Cr rnd rr Bx hl M w) (hk : k < 4) {u : Value} (hs : Batch.Sl w u l) (hu : ∀ g, u.ownBlock = some g → g ∈ bl) : Tc n0 w0 s p n r nw wt st kk zs bl vB f nv (upV wv k u) (upV wl k l) ai C Cr rnd rr Bx hl M (w.setCell ⟨wt, k, none⟩ u) := by
  have ho := off_same (w := w) wt k u
  obtain ⟨e1, e2, e3, e4, e5, e6⟩ := h.ne
  have hbl : ∀ g ∈ bl, g ≠ wt := fun g hg e => h.nb.2.2.1 (e ▸ hg)
  refine ⟨h.pt.store (by simp) k _, h.iv, h.rs.of_block (ho r e2), blk_sl h.bs (fun g hg => ho g (hbl g (h.vb g hg))), h.vb, h.cn.of_block (ho nw e4), h.cw.set hk u, h.cs.of_block (ho st (Ne.symm e6)), fun i hi => ?_, fun i hi g hg => ?_, h.nb, h.ne⟩
  · by_cases e : i = k
    · subst e
      rw [upV_same, upV_same]
      exact blk_sl hs (fun g hg => ho g (hbl g (hu g hg)))
    · rw [upV_other e, upV_other e]
      exact blk_sl (h.ws i hi) (fun g hg => ho g (hbl g (h.wb i hi g hg)))
  · by_cases e : i = k
    · subst e
      rw [upV_same] at hg
      exact hu g hg
    · rw [upV_other e] at hg
      exact h.wb i hi g hg
/-- The document's Drain. -/
theorem Tc.drained (h : Tc n0 w0 s p n r nw wt st kk zs bl vB f nv wv wl ai C Cr rnd rr Bx hl M w) (x : Int) : Tc n0 w0 s p n r nw wt st kk zs bl (.slice none 0 0) f nv wv wl ai C [] rnd x Bx hl M ((w.setCell ⟨r, 0, none⟩ (.slice none 0 0)).setCell ⟨r, 1, none⟩ (.int .u64 x)) := by
  have ho : ∀ j, j ≠ r → ((w.setCell ⟨r, 0, none⟩ (.slice none 0 0)).setCell ⟨r, 1, none⟩ (.int .u64 x)).heap[j]? = w.heap[j]? := fun j hj => (off_same r 1 _ j hj).trans (off_same r 0 _ j hj)
  obtain ⟨e1, e2, e3, e4, e5, e6⟩ := h.ne
  have hbl : ∀ g ∈ bl, g ≠ r := fun g hg e => h.nb.1 (e ▸ hg)
  exact ⟨(h.pt.store (by simp) 0 _).store (by simp) 1 _, h.iv, (h.rs.set0 _).set1 _, Batch.Sl.nil _, by simp [Value.ownBlock], h.cn.of_block (ho nw (Ne.symm e1)), h.cw.of_block (ho wt (Ne.symm e2)), h.cs.of_block (ho st (Ne.symm e3)), fun i hi => blk_sl (h.ws i hi) (fun g hg => ho g (hbl g (h.wb i hi g hg))), h.wb, h.nb, h.ne⟩
/-- .. Put. -/
theorem Tc.wasput (h : Tc n0 w0 s p n r nw wt st kk zs bl vB f nv wv wl ai C Cr rnd rr Bx hl M w) (hb : Below w.heap.size w w1) (ho : Batch.Own w1 w.heap.size 78 v C1) (hwf : ∀ x ∈ C1, x.Wf) :
    ∃ zs', Tc n0 w0 s p n r nw wt st kk zs' (v.ownBlock.toList ++ bl) v f nv wv wl ai C C1 rnd rr Bx hl M (w1.setCell ⟨r, 0, none⟩ v) := by
  obtain ⟨zs', h'⟩ := h.withO hb (fun g hg => World.ownsRow.lt ho g hg)
  have hoff := off_same (w := w1) r 0 v
  obtain ⟨e1, e2, e3, e4, e5, e6⟩ := h'.ne
  have hbl : ∀ g ∈ v.ownBlock.toList ++ bl, g ≠ r := fun g hg e => h'.nb.1 (e ▸ hg)
  have hvb : ∀ g, v.ownBlock = some g → g ∈ v.ownBlock.toList ++ bl := fun g hg => List.mem_append.2 (.inl (by simp [hg]))
  exact ⟨zs', h'.pt.store (by simp) 0 _, h'.iv, h'.rs.set0 _, blk_sl (ho.sl hwf) (fun g hg => hoff g (hbl g (hvb g hg))), hvb, h'.cn.of_block (hoff nw (Ne.symm e1)), h'.cw.of_block (hoff wt (Ne.symm e2)), h'.cs.of_block (hoff st (Ne.symm e3)), fun i hi => blk_sl (h'.ws i hi) (fun g hg => hoff g (hbl g (h'.wb i hi g hg))), h'.wb, h'.nb, h'.ne⟩
theorem Tc.drop (h : Tc n0 w0 s p n r nw wt st kk zs bl vB f nv wv wl ai C Cr rnd rr Bx hl M w) (hf : f k = some X) (hj : X.j = 4 * X.m + X.e) : Tc n0 w0 s p n r nw wt st kk zs bl vB (updF f k none) nv wv wl ai C Cr rnd rr Bx hl M w :=
  h.keep (fun _ _ => rfl) (h.pt.drop k) (h.iv.drop hf hj)
theorem Tc.nveq {nv' : Nat → Value} (h : Tc n0 w0 s p n r nw wt st kk zs bl vB f nv wv wl ai C Cr rnd rr Bx hl M w) (e : ∀ i, nv' i = nv i) : Tc n0 w0 s p n r nw wt st kk zs bl vB f nv' wv wl ai C Cr rnd rr Bx hl M w := by
  obtain rfl : nv' = nv := funext e
  exact h
theorem ptA_upd (f : Nat → Option Ax) (k : Nat) (x : Option Ax) (i : Nat) : ptA (updF f k x i) = upV (fun i => ptA (f i)) k (ptA x) i := by
  by_cases e : i = k
  · subst e; rw [updF_same, upV_same]
  · rw [updF_other e, upV_other e]
theorem ptA_same {X' : Ax} (hf : f k = some X) (ha : X'.a = X.a) (i : Nat) : ptA (updF f k (some X') i) = ptA (f i) := by
  by_cases e : i = k
  · subst e; rw [updF_same, hf]; unfold ptA; simp [ha]
  · rw [updF_other e]
/-- It begins. -/
theorem heap4 (w : World) (x1 x2 x3 x4 : Obj) : ((((w.alloc x1).alloc x2).alloc x3).alloc x4).heap[w.heap.size]? = some x1 ∧ ((((w.alloc x1).alloc x2).alloc x3).alloc x4).heap[w.heap.size + 1]? = some x2 ∧ ((((w.alloc x1).alloc x2).alloc x3).alloc x4).heap[w.heap.size + 1 + 1]? = some x3 ∧ ((((w.alloc x1).alloc x2).alloc x3).alloc x4).heap[w.heap.size + 1 + 1 + 1]? = some x4 := by
  refine ⟨?_, ?_, ?_, ?_⟩
  · rw [heap_alloc_old _ _ (by simp; omega), heap_alloc_old _ _ (by simp; omega), heap_alloc_old _ _ (by simp)]; exact heap_alloc_new w _
  · rw [heap_alloc_old _ _ (by simp), heap_alloc_old _ _ (by simp)]
    have := heap_alloc_new (w.alloc x1) x2
    rw [World.size_alloc] at this; exact this
  · rw [heap_alloc_old _ _ (by simp)]
    have := heap_alloc_new ((w.alloc x1).alloc x2) x3
    rw [World.size_alloc, World.size_alloc] at this; exact this
  · have := heap_alloc_new (((w.alloc x1).alloc x2).alloc x3) x4
    rw [World.size_alloc, World.size_alloc, World.size_alloc] at this; exact this
theorem tc_start (h : Ps n0 w0 s p n 0 zs [] (fun _ => none) (fun _ => none) [] 0 M w) (T1 T2 T3 T4 : TypeId) :
    ∃ zs' Bx hl, Tc n0 w0 s p n (w.heap.size + 1 + 1 + 1) w.heap.size (w.heap.size + 1) (w.heap.size + 1 + 1) 0 zs' [] (.slice none 0 0) (fun _ => none) (fun _ => .pointer none) (fun _ => .slice none 0 0) (fun _ => []) (fun _ => 0) [] [] 0 0 Bx hl M ((((w.alloc (.cells (four (fun _ => .pointer none)) T1)).alloc (.cells (four (fun _ => .slice none 0 0)) T2)).alloc (.cells (four (fun _ => .int .i64 0)) T3)).alloc (.cells #[.slice none 0 0, .int .u64 0] T4)) := by
  obtain ⟨H, Bx, hl, I⟩ := h
  obtain ⟨h1, h2, h3, h4⟩ := heap4 w (.cells (four (fun _ => .pointer none)) T1) (.cells (four (fun _ => .slice none 0 0)) T2) (.cells (four (fun _ => .int .i64 0)) T3) (.cells #[.slice none 0 0, .int .u64 0] T4)
  have hb : Below w.heap.size w ((((w.alloc (.cells (four (fun _ => .pointer none)) T1)).alloc (.cells (four (fun _ => .slice none 0 0)) T2)).alloc (.cells (four (fun _ => .int .i64 0)) T3)).alloc (.cells #[.slice none 0 0, .int .u64 0] T4)) :=
    ((((Below.refl _ _).alloc (Nat.le_refl _) _).alloc (by simp) _).alloc (by simp; omega) _).alloc (by simp; omega) _
  have hsz : ((((w.alloc (.cells (four (fun _ => .pointer none)) T1)).alloc (.cells (four (fun _ => .slice none 0 0)) T2)).alloc (.cells (four (fun _ => .int .i64 0)) T3)).alloc (.cells #[.slice none 0 0, .int .u64 0] T4)).heap.size = w.heap.size + 4 := by simp
  generalize ((((w.alloc (.cells (four (fun _ => .pointer none)) T1)).alloc (.cells (four (fun _ => .slice none 0 0)) T2)).alloc (.cells (four (fun _ => .int .i64 0)) T3)).alloc (.cells #[.slice none 0 0, .int .u64 0] T4)) = W at *
  have hs := H.pq.pi.lt
  have hn := H.pq.mz.nl
  have hno : ∀ g k X, (fun _ : Nat => (none : Option Ax)) k = some X → X.a ≠ g ∧ ¬ Blk X.A g := fun g k X e => by cases e
  have hp := ((((H.all hb).more (g := w.heap.size + 1 + 1) (blk_mem (by omega) (by omega)) (by omega) (by omega) (hno _)).more (g := w.heap.size + 1) (blk_mem (by omega) (by omega)) (by omega) (by omega) (hno _)).more (g := w.heap.size) (blk_mem (by omega) (by omega)) (by omega) (by omega) (hno _)).more (g := w.heap.size + 1 + 1 + 1) (blk_mem (by omega) (by omega)) (by omega) (by omega) (hno _)
  exact ⟨_, Bx, hl, hp, I, ⟨_, h4⟩, Batch.Sl.nil _, by simp [Value.ownBlock], ⟨_, h1⟩, ⟨_, h2⟩, ⟨_, h3⟩, fun k _ => Batch.Sl.nil _, fun k _ => by simp [Value.ownBlock], by simp, by omega, by omega, by omega, by omega, by omega, by omega⟩
end
/-! ### plain -/
def unX (x : Option Ax) : Nat := match x with
  | none => 0
  | some X => if X.A.dr = false ∧ X.j < 3 * X.m + X.e then 1 else 0
def unAll (f : Nat → Option Ax) : Nat := unX (f 0) + unX (f 1) + unX (f 2) + unX (f 3)
def lfX (x : Option Ax) : Nat := match x with
  | none => 0
  | some X => 4 * X.m + X.e - X.j
section
variable {n kk k i P c b : Nat} {f f' : Nat → Option Ax} {wl : Nat → List Ch} {ai : Nat → Nat} {C C' l : List Ch} {rnd rnd' : Int} {Bx : Nat → List Ch} {hl hl' : Nat → Option Int} {lg : List Ev} {ev : Ev} {M : Mm.St} {X X' : Ax} {x : Option Ax}
theorem un_upd (hk : k < 4) : unAll (updF f k x) + unX (f k) = unAll f + unX x := by
  unfold unAll
  match k, hk with
  | 0, _ => rw [updF_same, updF_other (by decide), updF_other (by decide), updF_other (by decide)]; omega
  | 1, _ => rw [updF_same, updF_other (by decide), updF_other (by decide), updF_other (by decide)]; omega
  | 2, _ => rw [updF_same, updF_other (by decide), updF_other (by decide), updF_other (by decide)]; omega
  | 3, _ => rw [updF_same, updF_other (by decide), updF_other (by decide), updF_other (by decide)]; omega
theorem lf_upd (hk : k < 4) : leftAll (updF f k x) + lfX (f k) = leftAll f + lfX x := by
  have h : ∀ g j, left g j = lfX (g j) := fun g j => by
    unfold left lfX
    rfl
  unfold leftAll
  rw [h, h, h, h, h, h, h, h]
  match k, hk with
  | 0, _ => rw [updF_same, updF_other (by decide), updF_other (by decide), updF_other (by decide)]; omega
  | 1, _ => rw [updF_same, updF_other (by decide), updF_other (by decide), updF_other (by decide)]; omega
  | 2, _ => rw [updF_same, updF_other (by decide), updF_other (by decide), updF_other (by decide)]; omega
  | 3, _ => rw [updF_same, updF_other (by decide), updF_other (by decide), updF_other (by decide)]; omega
/-- Behind the picks: how long it may take yet. -/
def Ph (P i : Nat) (f : Nat → Option Ax) (hl : Nat → Option Int) : Prop := P ≤ i → (∀ k, f k = none) ∨ ∃ u, u ≤ 3 ∧ u ≤ i ∧ i + 4 * leftAll f ≤ P + 544 + u ∧ ∀ d, 1 ≤ d → d ≤ u → ∀ X, f ((i - d) % 4) = some X → Stuck hl X
theorem Ph.idle (h : Ph P i f hl) (hP : P ≤ i) (h4 : ∀ k X, f k = some X → k < 4) (hk : ∀ X, f (i % 4) = some X → Stuck hl X) (hnd : (∀ k X, f k = some X → Stuck hl X) → ∀ k, f k = none) : Ph P (i + 1) f hl := by
  intro _
  rcases h hP with h | ⟨u, u3, ui, ul, us⟩
  · exact .inl h
  by_cases hu : u = 3
  · subst hu
    refine .inl (hnd fun k X hX => ?_)
    have hk4 := h4 k X hX
    by_cases e : i % 4 = k
    · exact hk X (by rw [e]; exact hX)
    · by_cases e1 : (i - 1) % 4 = k
      · exact us 1 (by decide) (by decide) X (by rw [e1]; exact hX)
      · by_cases e2 : (i - 2) % 4 = k
        · exact us 2 (by decide) (by decide) X (by rw [e2]; exact hX)
        · exact us 3 (by decide) (by decide) X (by rw [show (i - 3) % 4 = k by omega]; exact hX)
  · refine .inr ⟨u + 1, by omega, by omega, by omega, fun d d1 d2 X hX => ?_⟩
    by_cases e : d = 1
    · subst e
      rw [Nat.add_sub_cancel] at hX
      exact hk X hX
    · rw [show i + 1 - d = i - (d - 1) by omega] at hX
      exact us (d - 1) (by omega) (by omega) X hX
theorem Ph.adv (h : Ph P i f hl) (hP : P ≤ i) (hf : f k = some X) (hle : leftAll f' + 1 ≤ leftAll f) : Ph P (i + 1) f' hl' := by
  intro _
  rcases h hP with h | ⟨u, u3, ui, ul, us⟩
  · rw [h] at hf; cases hf
  · exact .inr ⟨0, by omega, by omega, by omega, fun d d1 d2 => by omega⟩
theorem Ph.new (hi : i < P) (hle : leftAll f ≤ 136) : Ph P (i + 1) f hl := by
  intro hp
  exact .inr ⟨0, by omega, by omega, by omega, fun d d1 d2 => by omega⟩
theorem Ph.none (h : Ph P i f hl) (hi : P + 2000 ≤ i) : ∀ k, f k = none := by
  rcases h (by omega) with h | ⟨u, u3, ui, ul, us⟩
  · exact h
  · omega
/-- All that is plain. -/
structure Tp (n P i b c : Nat) (f : Nat → Option Ax) (wl : Nat → List Ch) (ai : Nat → Nat) (C : List Ch) (rnd : Int) (hl : Nat → Option Int) (lg : List Ev) : Prop where
  fk : ∀ k X, f k = some X → k < 4 ∧ X.j < 4 * X.m + X.e ∧ X.m ≤ 8 ∧ X.Q.Pairwise (· < ·)
  fp : ∀ k X, f k = some X → k < 3 → X.A.dr = false ∧ X.b = wl k
  fd : ∀ X, f 3 = some X → X.A.dr = true ∧ (3 * X.m + X.e ≤ X.j → X.T = wl 3)
  cg : Cg (12000 * (c : Int)) (12 * c) C
  um : c + unAll f ≤ b
  bp : b ≤ P
  rd : 0 ≤ rnd ∧ rnd ≤ (i : Int)
  w3 : (wl 3).length ≤ 20000
  rp : Rp hl lg
  ai : ∀ k, ai k ≤ b
  ph : Ph P i f hl
  pm : P ≤ 900
  lg : lg.length ≤ i
theorem Tp.all136 (h : Tp n P i b c f wl ai C rnd hl lg) : leftAll f ≤ 136 := by
  have hl : ∀ k, left f k ≤ 34 := fun k => by
    unfold left
    cases e : f k with
    | none => simp
    | some X =>
      obtain ⟨_, _, h3, _⟩ := h.fk k X e
      have : X.e ≤ 2 := by unfold Ax.e eN; split <;> omega
      simp only
      omega
  unfold leftAll
  have := hl 0
  have := hl 1
  have := hl 2
  have := hl 3
  omega
theorem Tp.cle (h : Tp n P i b c f wl ai C rnd hl lg) : c ≤ 900 := by have := h.um; have := h.bp; have := h.pm; omega
/-- Nobody does anything. -/
theorem Tp.idle (h : Tp n P i b c f wl ai C rnd hl lg) (I : Iv n kk f (fun _ => none) C rnd Bx hl M) (hk : P ≤ i → f (i % 4) = none) : Tp n P (i + 1) b c f wl ai C rnd hl lg := by
  refine ⟨h.fk, h.fp, h.fd, h.cg, h.um, h.bp, by have := h.rd; omega, h.w3, h.rp, h.ai, ?_, h.pm, by have := h.lg; omega⟩
  by_cases hi : i < P
  · exact Ph.new hi h.all136
  · refine h.ph.idle (by omega) (fun k X hX => (h.fk k X hX).1) (fun X hX => by rw [hk (by omega)] at hX; cases hX) (fun hall k => ?_)
    cases e : f k with
    | none => rfl
    | some X => exact (no_dead I (fun k X hX => (h.fk k X hX).2.2.2) hall e).elim
/-- A Take in vain. -/
theorem Tp.vain (h : Tp n P i b c f wl ai C rnd hl lg) (I : Iv n kk f (fun _ => none) C rnd Bx hl M) (hk : P ≤ i → k = i % 4) (hf : f k = some X) (hs : Stuck hl X) (hev : ¬ (ev.k = 2 ∨ ev.k = 3)) : Tp n P (i + 1) b c f wl ai C rnd hl (lg ++ [ev]) := by
  refine ⟨h.fk, h.fp, h.fd, h.cg, h.um, h.bp, by have := h.rd; omega, h.w3, h.rp.other hev, h.ai, ?_, h.pm, by have := h.lg; simp; omega⟩
  by_cases hi : i < P
  · exact Ph.new hi h.all136
  · refine h.ph.idle (by omega) (fun k X hX => (h.fk k X hX).1) (fun Y hY => ?_) (fun hall k => ?_)
    · rw [← hk (by omega), hf] at hY
      obtain rfl : X = Y := by simpa using hY
      exact hs
    · cases e : f k with
      | none => rfl
      | some X => exact (no_dead I (fun k X hX => (h.fk k X hX).2.2.2) hall e).elim
/-- An access that is made. -/
theorem Tp.adv (h : Tp n P i b c f wl ai C rnd hl lg) (hf : f k = some X) (hcb : Cg 12000 12 X.b) (ha : Adv X X' C rnd C' rnd' ((lg.length + 1 : Nat) : Int)) (he : EvF k hl hl' ev) :
    ∃ c', Tp n P (i + 1) b c' (updF f k (if X.j + 1 = 4 * X.m + X.e then none else some X')) (if k = 3 ∧ X.j + 1 = 3 * X.m + X.e then upV wl 3 C else wl) ai C' rnd' hl' (lg ++ [ev]) := by
  obtain ⟨hk4, hj, hm8, hso⟩ := h.fk k X hf
  have hlf : lfX (f k) = 4 * X.m + X.e - X.j := by rw [hf]; rfl
  have sm := ha.s.m
  have se := ha.s.e
  have sj := ha.s.j
  have hlx : lfX (if X.j + 1 = 4 * X.m + X.e then none else some X') + 1 = 4 * X.m + X.e - X.j := by
    split
    · show 0 + 1 = _; omega
    · show 4 * X'.m + X'.e - X'.j + 1 = _
      omega
  have hleft := lf_upd (f := f) (x := if X.j + 1 = 4 * X.m + X.e then none else some X') hk4
  have hle : leftAll (updF f k (if X.j + 1 = 4 * X.m + X.e then none else some X')) + 1 ≤ leftAll f := by omega
  have hun := un_upd (f := f) (x := if X.j + 1 = 4 * X.m + X.e then none else some X') hk4
  have hph : Ph P (i + 1) (updF f k (if X.j + 1 = 4 * X.m + X.e then none else some X')) hl' := by
    by_cases hi : i < P
    · exact Ph.new hi (by have := h.all136; omega)
    · exact h.ph.adv (by omega) hf hle
  have hin : ∀ k' Y, updF f k (if X.j + 1 = 4 * X.m + X.e then none else some X') k' = some Y → (k' = k ∧ Y = X' ∧ X.j + 1 ≠ 4 * X.m + X.e) ∨ (k' ≠ k ∧ f k' = some Y) := fun k' Y hY => by
    by_cases e : k' = k
    · subst e
      rw [updF_same] at hY
      split at hY
      · cases hY
      · exact .inl ⟨rfl, by simpa using hY.symm, by assumption⟩
    · rw [updF_other e] at hY
      exact .inr ⟨e, hY⟩
  have hfk : ∀ k' Y, updF f k (if X.j + 1 = 4 * X.m + X.e then none else some X') k' = some Y → k' < 4 ∧ Y.j < 4 * Y.m + Y.e ∧ Y.m ≤ 8 ∧ Y.Q.Pairwise (· < ·) := fun k' Y hY => by
    rcases hin k' Y hY with ⟨rfl, rfl, hne⟩ | ⟨_, hY⟩
    · exact ⟨hk4, by omega, by omega, by rw [ha.s.q]; exact hso⟩
    · exact h.fk k' Y hY
  have hc9 := h.cle
  have hrd := h.rd
  by_cases hmk : X.j + 1 = 3 * X.m + X.e
  · obtain ⟨t1, t2, t3, t4⟩ := ha.tk hmk
    by_cases hk3 : k = 3
    · subst hk3
      obtain ⟨hd, _⟩ := h.fd X hf
      obtain ⟨rfl, rfl, hT⟩ := t4 hd
      rw [if_pos (show 3 = 3 ∧ X.j + 1 = 3 * X.m + X.e from ⟨rfl, hmk⟩)]
      have hux : unX (f 3) = 0 := by rw [hf]; unfold unX; simp [hd]
      have hux' : unX (if X.j + 1 = 4 * X.m + X.e then none else some X') = 0 := by
        split
        · rfl
        · unfold unX; simp [ha.s.dr, hd]
      refine ⟨c, hfk, fun k' Y hY hk' => ?_, fun Y hY => ?_, cg_nil (by omega), by have := h.um; omega, h.bp, by omega, ?_, h.rp.step he, h.ai, hph, h.pm, by have := h.lg; simp; omega⟩
      · rcases hin k' Y hY with ⟨rfl, rfl, hne⟩ | ⟨_, hY⟩
        · omega
        · rw [upV_other (by omega)]
          exact h.fp k' Y hY hk'
      · rcases hin 3 Y hY with ⟨_, rfl, hne⟩ | ⟨e, _⟩
        · exact ⟨ha.s.dr.trans hd, fun _ => by rw [upV_same]; exact hT⟩
        · exact absurd rfl e
      · rw [upV_same]; have := h.cg.len; omega
    · obtain ⟨hd, hb⟩ := h.fp k X hf (by omega)
      obtain ⟨rfl, rfl⟩ := t3 hd
      rw [if_neg (show ¬ (k = 3 ∧ X.j + 1 = 3 * X.m + X.e) from fun e => hk3 e.1)]
      have hux : unX (f k) = 1 := by rw [hf]; unfold unX; simp [hd]; omega
      have hux' : unX (if X.j + 1 = 4 * X.m + X.e then none else some X') = 0 := by
        split
        · rfl
        · unfold unX
          simp only
          rw [if_neg (fun e => by have := e.2; omega)]
      have hum := h.um
      refine ⟨c + 1, hfk, fun k' Y hY hk' => ?_, fun Y hY => ?_, ?_, by omega, h.bp, by omega, h.w3, h.rp.step he, h.ai, hph, h.pm, by have := h.lg; simp; omega⟩
      · rcases hin k' Y hY with ⟨rfl, rfl, hne⟩ | ⟨_, hY⟩
        · exact ⟨ha.s.dr.trans hd, ha.s.b.trans hb⟩
        · exact h.fp k' Y hY hk'
      · rcases hin 3 Y hY with ⟨e, _⟩ | ⟨_, hY⟩
        · exact absurd e.symm hk3
        · exact h.fd Y hY
      · have := (h.cg.merge hcb (by omega)).2.1
        exact this.more (by omega) (by omega)
  · obtain ⟨rfl, rfl, hmk'⟩ := ha.no hmk
    rw [if_neg (show ¬ (k = 3 ∧ X.j + 1 = 3 * X.m + X.e) from fun e => hmk e.2)]
    have hux : unX (if X.j + 1 = 4 * X.m + X.e then none else some X') ≤ unX (f k) := by
      rw [hf]
      split
      · exact Nat.zero_le _
      · unfold unX
        simp only
        split
        · rename_i e
          rw [if_pos ⟨ha.s.dr.symm.trans e.1, by omega⟩]
          exact Nat.le_refl _
        · exact Nat.zero_le _
    refine ⟨c, hfk, fun k' Y hY hk' => ?_, fun Y hY => ?_, h.cg, by have := h.um; omega, h.bp, by omega, h.w3, h.rp.step he, h.ai, hph, h.pm, by have := h.lg; simp; omega⟩
    · rcases hin k' Y hY with ⟨rfl, rfl, hne⟩ | ⟨_, hY⟩
      · obtain ⟨hd, hb⟩ := h.fp k' X hf hk'
        exact ⟨ha.s.dr.trans hd, ha.s.b.trans hb⟩
      · exact h.fp k' Y hY hk'
    · rcases hin 3 Y hY with ⟨e, rfl, hne⟩ | ⟨_, hY⟩
      · subst e
        obtain ⟨hd, hT⟩ := h.fd X hf
        exact ⟨ha.s.dr.trans hd, fun h3 => (ha.af (by omega)).1.trans (hT (by omega))⟩
      · exact h.fd Y hY
/-- A Put begins. -/
theorem Tp.put (h : Tp n P i b c f wl ai C rnd hl lg) (hi : i < P) (hb : b ≤ i) (hk : k < 3) (hf : f k = none) (hX : Fresh false k n l X) (hn : 1 ≤ n ∧ n ≤ 8) : Tp n P i (b + 1) c (updF f k (some X)) (upV wl k l) (upV ai k (ai k + 1)) C rnd hl lg := by
  have hun := un_upd (f := f) (x := some X) (show k < 4 by omega)
  have h0 : unX (f k) = 0 := by rw [hf]; rfl
  have h1 : unX (some X) ≤ 1 := by unfold unX; simp only; split <;> omega
  have hee : 1 ≤ X.e := by unfold Ax.e eN; split <;> omega
  have hQ : X.Q = shQ n l := by have := hX.hq; simpa using this
  refine ⟨fun k' Y hY => ?_, fun k' Y hY hk' => ?_, fun Y hY => ?_, h.cg, by have := h.um; omega, by omega, h.rd, ?_, h.rp, fun j => ?_, fun hp => by omega, h.pm, h.lg⟩
  · rcases updF_inv hY with ⟨rfl, rfl⟩ | ⟨_, hY⟩
    · refine ⟨by omega, by have := hX.hj; omega, ?_, ?_⟩
      · unfold Ax.m; rw [hQ]; exact shQ_len _ _
      · rw [hQ]; exact shQ_sorted _ _
    · exact h.fk k' Y hY
  · rcases updF_inv hY with ⟨rfl, rfl⟩ | ⟨e, hY⟩
    · rw [upV_same]; exact ⟨hX.hdr, hX.hb⟩
    · rw [upV_other e]; exact h.fp k' Y hY hk'
  · rcases updF_inv hY with ⟨e, _⟩ | ⟨_, hY⟩
    · omega
    · rw [upV_other (by omega)]; exact h.fd Y hY
  · rw [upV_other (by omega)]; exact h.w3
  · by_cases e : j = k
    · subst e; rw [upV_same]; have := h.ai j; omega
    · rw [upV_other e]; have := h.ai j; omega
/-- A Drain begins. -/
theorem Tp.drain (h : Tp n P i b c f wl ai C rnd hl lg) (hi : i < P) (hf : f 3 = none) (hX : Fresh true 3 n [] X) (hn : 1 ≤ n ∧ n ≤ 8) : Tp n P i b c (updF f 3 (some X)) wl ai C rnd hl lg := by
  have hun := un_upd (f := f) (x := some X) (show 3 < 4 by omega)
  have h1 : unX (some X) = 0 := by unfold unX; simp [hX.hdr]
  have hee : 1 ≤ X.e := by unfold Ax.e eN; split <;> omega
  have hQ : X.Q = List.range n := by have := hX.hq; simpa using this
  refine ⟨fun k' Y hY => ?_, fun k' Y hY hk' => ?_, fun Y hY => ?_, h.cg, by have := h.um; omega, h.bp, h.rd, h.w3, h.rp, h.ai, fun hp => by omega, h.pm, h.lg⟩
  · rcases updF_inv hY with ⟨rfl, rfl⟩ | ⟨_, hY⟩
    · refine ⟨by omega, by have := hX.hj; omega, ?_, ?_⟩
      · unfold Ax.m; rw [hQ]; simp; omega
      · rw [hQ]; exact List.pairwise_lt_range
    · exact h.fk k' Y hY
  · rcases updF_inv hY with ⟨e, _⟩ | ⟨_, hY⟩
    · omega
    · exact h.fp k' Y hY hk'
  · rcases updF_inv hY with ⟨_, rfl⟩ | ⟨e, _⟩
    · exact ⟨hX.hdr, fun h3 => by have := hX.hj; omega⟩
    · exact absurd rfl e
theorem tp_start (n P : Nat) (hP : P ≤ 900) (hl : Nat → Option Int) : Tp n P 0 0 0 (fun _ => none) (fun _ => []) (fun _ => 0) [] 0 hl [] :=
  ⟨(fun k X e => by cases e), (fun k X e => by cases e), (fun X e => by cases e), cg_nil (by omega), by decide, Nat.zero_le _, by decide, by simp, rp_nil hl, fun _ => Nat.le_refl _, fun _ => .inl fun _ => rfl, hP, by simp⟩
end
end Go.Proofs.Ytmggnalobfihnaa.Pl
