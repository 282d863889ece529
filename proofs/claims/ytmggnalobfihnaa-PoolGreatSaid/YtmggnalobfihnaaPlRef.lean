/-
  PACKAGE marchlandref12: Put, Drain; a law's state beside a Pool.
-/
import Derived.Test.YtmggnalobfihnaaJoined16
import Derived.Test.YtmggnalobfihnaaJoined14
namespace Go.Proofs.Ytmggnalobfihnaa.Pl
open Go.RowKit Rw Pk Go.Maps Mm
open Batch (Ch tot sumsE sumsR)
set_option linter.unusedVariables false
theorem plport_of {n : Nat} (x : Int) (h1 : 1 ≤ n) (h2 : n ≤ 100) : ∃ q : Nat, q < n ∧ IntKind.u64.wrap (n : Int) = (n : Int) ∧ wrap64 ((IntKind.u64.wrap x).tmod (n : Int)) = (q : Int) ∧ IntKind.i64.wrap ((IntKind.u64.wrap x).tmod (n : Int)) = (q : Int) := by
  have h3 : (0 : Int) ≤ IntKind.u64.wrap x := by rw [u64_of]; exact Int.emod_nonneg _ (by decide)
  have h4 := Int.emod_nonneg (IntKind.u64.wrap x) (show (n : Int) ≠ 0 by omega)
  have h5 := Int.emod_lt_of_pos (IntKind.u64.wrap x) (show (0 : Int) < (n : Int) by omega)
  refine ⟨((IntKind.u64.wrap x) % (n : Int)).toNat, by omega, u_id ⟨by omega, by omega⟩, ?_, ?_⟩
  · rw [Int.tmod_eq_emod_of_nonneg h3, w64_id ⟨by omega, by omega⟩]; omega
  · rw [Int.tmod_eq_emod_of_nonneg h3, w_id ⟨by omega, by omega⟩]; omega
theorem plone_more {q n : Nat} (h : n = q + 1) (hq : q < 1000) : IntKind.i64.wrap (1 + (q : Int)) = (n : Int) ∧ wrap64 (1 + (q : Int)) = (n : Int) := ⟨by rw [w_id ⟨by omega, by omega⟩]; omega, by rw [w64_id ⟨by omega, by omega⟩]; omega⟩
def RPool (w : World) (r : Nat) (v : Value) (rnd : Int) : Prop := ∃ Ty, w.heap[r]? = some (.cells #[v, .int .u64 rnd] Ty (0, 0))
theorem RPool.cell {w : World} {r : Nat} {v : Value} {rnd : Int} (h : RPool w r v rnd) : w.cell? ⟨r, 0, none⟩ = some v ∧ w.cell? ⟨r, 1, none⟩ = some (.int .u64 rnd) ∧ (∀ o, w.frozen? ⟨r, o, none⟩ = false) ∧ r < w.heap.size := by
  obtain ⟨Ty, h⟩ := h
  exact ⟨by simp [World.cell?, h], by simp [World.cell?, h], by simp [World.frozen?, h], (Array.getElem?_eq_some_iff.1 h).1⟩
theorem RPool.of_block {w w' : World} {r : Nat} {v : Value} {rnd : Int} (h : RPool w r v rnd) (e : w'.heap[r]? = w.heap[r]?) : RPool w' r v rnd := by obtain ⟨Ty, h⟩ := h; exact ⟨Ty, e.trans h⟩
theorem RPool.set0 {w : World} {r : Nat} {v : Value} {rnd : Int} (h : RPool w r v rnd) (u : Value) : RPool (w.setCell ⟨r, 0, none⟩ u) r u rnd := by obtain ⟨Ty, h⟩ := h; exact ⟨Ty, heap_setCell_same w r 0 _ _ _ h⟩
theorem RPool.set1 {w : World} {r : Nat} {v : Value} {rnd : Int} (h : RPool w r v rnd) (x : Int) : RPool (w.setCell ⟨r, 1, none⟩ (.int .u64 x)) r v x := by obtain ⟨Ty, h⟩ := h; exact ⟨Ty, heap_setCell_same w r 1 _ _ _ h⟩
set_option maxRecDepth 1000000 in
set_option maxHeartbeats 8000000 in
theorem refdrain_any {w : World} {r : Nat} {v : Value} {rnd : Int} {C : List Ch} (h : RPool w r v rnd) (hs : Batch.Sl w v C) (hr : 0 ≤ rnd ∧ rnd ≤ 1000000) :
    Calls Try.prog 14 #[.pointer (some ⟨r, 0, none⟩)] w fun e w' => e = .returned v ∧ w' = (w.setCell ⟨r, 0, none⟩ (.slice none 0 0)).setCell ⟨r, 1, none⟩ (.int .u64 (rnd + 1)) := by
  obtain ⟨c0, c1, cf, _⟩ := h.cell
  obtain ⟨ao, n, c, hv⟩ := sl_open hs
  have h1 := (h.set0 (.slice none 0 0)).cell
  obtain ⟨d0, d1, df, _⟩ := h1
  have hw : IntKind.u64.wrap (rnd + 1) = rnd + 1 := u_id ⟨by omega, by omega⟩
  subst hv
  clear h hs hr
  go_enter Try.func14, Try.ntmps14
  go_wp2_with fail
  go_ret
  exact ⟨rfl, rfl⟩
set_option maxRecDepth 1000000 in
set_option maxHeartbeats 8000000 in
theorem refput_any {w : World} {r : Nat} {vB v : Value} {rnd : Int} {C b : List Ch} (h : RPool w r vB rnd) (hs : Batch.Sl w vB C) (hb : Batch.Sl w v b) (hl : C.length + b.length ≤ 100000) (hok : sumsE (C ++ b) = 0) :
    Calls Try.prog 15 #[.pointer (some ⟨r, 0, none⟩), v] w fun e w' => e = .returned (.bool true) ∧ ∃ v' w1, Batch.Own w1 w.heap.size 78 v' (sumsR (C ++ b)) ∧ Below w.heap.size w w1 ∧ w' = w1.setCell ⟨r, 0, none⟩ v' := by
  have HM := Lib.hid (Batch.refmerge_any hs hb hl)
  rw [hok] at HM
  obtain ⟨c0, c1, cf, hrl⟩ := h.cell
  have HR := Lib.hid h
  obtain ⟨ao, n, c, hv⟩ := sl_open hs
  subst hv
  clear h hs hb hok hl
  go_enter Try.func15, Try.ntmps15
  go_wp2_with fail
  go_at_call 37
  refine HM.out.mono ?_
  rintro e w1 ⟨v', rfl, ho, hb⟩
  obtain ⟨vo, vn, vc, rfl⟩ := own_open ho
  have HO := Lib.hid (And.intro ho hb)
  obtain ⟨d0, d1, df, _⟩ := (HR.out.of_block (hb.block r hrl)).cell
  clear ho hb c0 c1 cf
  go_wp2_with fail
  go_ret
  exact ⟨rfl, _, w1, HO.out.1, HO.out.2, rfl⟩
/-! ### blocks beside the acts -/
section
variable {n0 s p n kk k r : Nat} {w0 w w' w1 : World} {zs xs : List Nat} {f : Nat → Option Ax} {ext : Nat → Option Nat} {C b : List Ch} {rnd : Int} {M M' : Mm.St} {X : Ax} {v : Value}
theorem Ps.less {xs' : List Nat} (h : Ps n0 w0 s p n kk zs xs f ext C rnd M w) (hx : ∀ j ∈ xs', j ∈ xs) : Ps n0 w0 s p n kk zs xs' f ext C rnd M w :=
  ⟨⟨h.1.pq, h.1.g, h.1.d, fun j hj => h.1.x j (hx j hj), fun j hj => h.1.xa j (hx j hj)⟩, h.2⟩
theorem Ps.store (h : Ps n0 w0 s p n kk zs xs f ext C rnd M w) {g : Nat} (hg : g ∈ xs) (o : Nat) (u : Value) : Ps n0 w0 s p n kk zs xs f ext C rnd M (w.setCell ⟨g, o, none⟩ u) := ⟨h.1.store hg o u, h.2⟩
theorem Ps.more (h : Ps n0 w0 s p n kk zs xs f ext C rnd M w) {k' : Nat} (hk : kk ≤ k') : Ps n0 w0 s p n k' zs xs f ext C rnd M w := by
  obtain ⟨h1, Bx, hl, I⟩ := h
  exact ⟨h1, Bx, hl, I.wp.more hk, I.ok, I.h1, I.h2, I.h3, I.b1, I.b2⟩
/-- One block more, made since. -/
theorem Ps.with (h : Ps n0 w0 s p n kk zs xs f ext C rnd M w) (hb : Below w.heap.size w w') {g : Nat} (h1 : w.heap.size ≤ g) (h2 : g < w'.heap.size) : ∃ zs', (∀ j ∈ zs, j ∈ zs') ∧ (∀ j ∈ zs', j ∈ zs ∨ w.heap.size ≤ j) ∧ Ps n0 w0 s p n kk zs' (g :: xs) f ext C rnd M w' := by
  have hs := h.1.pq.pi.lt
  have hn := h.1.pq.mz.nl
  refine ⟨_, blk_old, blk_inv, (h.1.all hb).more (blk_mem h1 h2) (by omega) (by omega) (fun k X hf => ?_), h.2⟩
  have hX := h.1.g k X hf
  have hlt := h.1.lt
  exact ⟨by have := hX.pa.lt; omega, fun hg => by have := hlt g (hX.bl g hg).1; omega⟩
theorem Ps.withO (h : Ps n0 w0 s p n kk zs xs f ext C rnd M w) (hb : Below w.heap.size w w') (hv : ∀ g, v.ownBlock = some g → w.heap.size ≤ g ∧ g < w'.heap.size) : ∃ zs', (∀ j ∈ zs, j ∈ zs') ∧ (∀ j ∈ zs', j ∈ zs ∨ w.heap.size ≤ j) ∧ Ps n0 w0 s p n kk zs' (v.ownBlock.toList ++ xs) f ext C rnd M w' := by
  cases e : v.ownBlock with
  | none => exact ⟨zs, fun _ h => h, fun _ h => .inl h, h.below hb⟩
  | some g => exact h.with hb (hv g e).1 (hv g e).2
/-- The document's Pool beside it. -/
structure La (n0 : Nat) (w0 : World) (s p n kk r : Nat) (zs xs : List Nat) (v : Value) (f : Nat → Option Ax) (C : List Ch) (rnd : Int) (M : Mm.St) (w : World) : Prop where
  ps : Ps n0 w0 s p n kk zs (r :: (v.ownBlock.toList ++ xs)) f (fun _ => none) C rnd M w
  rs : RPool w r v rnd
  bs : Batch.Sl w v C
  nv : v.ownBlock ≠ some r
  nx : r ∉ xs
theorem La.below (h : La n0 w0 s p n kk r zs xs v f C rnd M w) (hb : Below w.heap.size w w') : La n0 w0 s p n kk r zs xs v f C rnd M w' :=
  ⟨h.ps.below hb, h.rs.of_block (hb.block r h.rs.cell.2.2.2), h.bs.below hb, h.nv, h.nx⟩
/-- Behind what keeps the law's blocks, and what is in the pool. -/
theorem La.keep (h : La n0 w0 s p n kk r zs xs v f C rnd M w) {zs' : List Nat} {f' : Nat → Option Ax} {kk' : Nat} (hk : KeepX (r :: (v.ownBlock.toList ++ xs)) w w') (hp : Ps n0 w0 s p n kk' zs' (r :: (v.ownBlock.toList ++ xs)) f' (fun _ => none) C rnd M' w') : La n0 w0 s p n kk' r zs' xs v f' C rnd M' w' :=
  ⟨hp, h.rs.of_block (hk.2 r (List.mem_cons_self ..)), blk_sl h.bs (fun g hg => hk.2 g (by simp [hg])), h.nv, h.nx⟩
theorem La.drop (h : La n0 w0 s p n kk r zs xs v f C rnd M w) (hf : f k = some X) (hj : X.j = 4 * X.m + X.e) : La n0 w0 s p n kk r zs xs v (updF f k none) C rnd M w := ⟨h.ps.drop hf hj, h.rs, h.bs, h.nv, h.nx⟩
theorem La.more (h : La n0 w0 s p n kk r zs xs v f C rnd M w) {k' : Nat} (hk : kk ≤ k') : La n0 w0 s p n k' r zs xs v f C rnd M w := ⟨h.ps.more hk, h.rs, h.bs, h.nv, h.nx⟩
/-- What was made since is kept, too. -/
theorem La.withX (h : La n0 w0 s p n kk r zs xs v f C rnd M w) (hb : Below w.heap.size w w') {u : Value} (hu : ∀ g, u.ownBlock = some g → w.heap.size ≤ g ∧ g < w'.heap.size) : ∃ zs', (∀ j ∈ zs, j ∈ zs') ∧ (∀ j ∈ zs', j ∈ zs ∨ w.heap.size ≤ j) ∧ La n0 w0 s p n kk r zs' (u.ownBlock.toList ++ xs) v f C rnd M w' := by
  obtain ⟨zs', z1, z2, hp⟩ := h.ps.withO hb hu
  have hrl := h.rs.cell.2.2.2
  refine ⟨zs', z1, z2, hp.less (fun j hj => ?_), h.rs.of_block (hb.block r hrl), h.bs.below hb, h.nv, fun hr => ?_⟩
  · simp only [List.mem_append, List.mem_cons] at hj ⊢
    rcases hj with hj | hj | hj | hj
    · exact .inr (.inl hj)
    · exact .inr (.inr (.inl hj))
    · exact .inl hj
    · exact .inr (.inr (.inr hj))
  · rcases List.mem_append.1 hr with e | e
    · have := hu r (by simpa using e)
      omega
    · exact h.nx e
theorem KeepX.less {xs xs' : List Nat} (h : KeepX xs w w') (hx : ∀ j ∈ xs', j ∈ xs) : KeepX xs' w w' := ⟨h.1, fun j hj => h.2 j (hx j hj)⟩
/-- Behind what changes the pool and then the document's: a Drain. -/
theorem La.drained {C0 : List Ch} {rnd0 : Int} (hrs : RPool w r v rnd0) (hp : Ps n0 w0 s p n kk zs (r :: (v.ownBlock.toList ++ xs)) f (fun _ => none) [] (rnd0 + 1) M w) (hnv : v.ownBlock ≠ some r) (hnx : r ∉ xs) :
    La n0 w0 s p n kk r zs xs (.slice none 0 0) f [] (rnd0 + 1) M ((w.setCell ⟨r, 0, none⟩ (.slice none 0 0)).setCell ⟨r, 1, none⟩ (.int .u64 (rnd0 + 1))) :=
  ⟨((hp.store (List.mem_cons_self ..) 0 _).store (List.mem_cons_self ..) 1 _).less (by simp only [Value.ownBlock, Option.toList_none, List.nil_append, List.mem_cons]; intro j hj; rcases hj with hj | hj; exact .inl hj; exact .inr (List.mem_append.2 (.inr hj))), (hrs.set0 _).set1 _, Batch.Sl.nil _, by simp [Value.ownBlock], hnx⟩
/-- .. a Put. -/
theorem La.wasput {C1 : List Ch} {v' : Value} (hrs : RPool w r v rnd) (hp : Ps n0 w0 s p n kk zs (r :: (v.ownBlock.toList ++ xs)) f (fun _ => none) C1 rnd M w) (hnx : r ∉ xs) (hb : Below w.heap.size w w1) (ho : Batch.Own w1 w.heap.size 78 v' C1) (hwf : ∀ x ∈ C1, x.Wf) :
    ∃ zs', (∀ j ∈ zs, j ∈ zs') ∧ (∀ j ∈ zs', j ∈ zs ∨ w.heap.size ≤ j) ∧ La n0 w0 s p n kk r zs' xs v' f C1 rnd M (w1.setCell ⟨r, 0, none⟩ v') := by
  have hv : ∀ g, v'.ownBlock = some g → w.heap.size ≤ g ∧ g < w1.heap.size := fun g hg => World.ownsRow.lt ho g hg
  have hrl := hrs.cell.2.2.2
  obtain ⟨zs', z1, z2, hq⟩ := hp.withO hb hv
  have hq2 := hq.store (g := r) (List.mem_append.2 (.inr (List.mem_cons_self ..))) 0 v'
  refine ⟨zs', z1, z2, hq2.less fun j hj => ?_, (hrs.of_block (hb.block r hrl)).set0 v', blk_sl (ho.sl hwf) (fun g hg => Below.heap_setCell _ _ _ _ (show g ≠ r by have := (hv g hg).1; omega)), fun e => by have := (hv r e).1; omega, hnx⟩
  simp only [List.mem_append, List.mem_cons] at hj ⊢
  rcases hj with rfl | hj | hj
  · exact .inr (.inl rfl)
  · exact .inl hj
  · exact .inr (.inr (.inr hj))
end
end Go.Proofs.Ytmggnalobfihnaa.Pl
