/-
  PACKAGE ring: how a Ring and an act lie there; Over, Mark, Ok, none, place, end.
-/
import Derived.Test.YtjmkcgkkgamafaaMemZ
import Derived.Laws.Rows
import Derived.Deep.CutBlock
import Derived.BigRegion
namespace Go.Proofs.Ytjmkcgkkgamafaa.Rg
open Go.RowKit Rw Pk
set_option linter.unusedVariables false

structure Ri where
  p : Nat
  wd : Int
  bx : Int
  sz : Int
  ps : Bool
  pp : Bool
structure Ac where
  r : Nat
  who : Int
  pops : Bool
  bv : Value
  acc : Int
  pu : Int
  po : Int
  okk : Bool
  ov : Bool
  mk' : Int
def RiAt (w : World) (g : Nat) (R : Ri) : Prop := w.heap[g]? = some (.cells #[.pointer (some ⟨R.p, 0, none⟩), .int .i64 R.wd, .int .i64 R.bx, .int .u64 R.sz, .bool R.ps, .bool R.pp] 119 (0, 0))
def AcAt (w : World) (g : Nat) (A : Ac) : Prop := w.heap[g]? = some (.cells #[.pointer (some ⟨A.r, 0, none⟩), .int .i64 A.who, .bool A.pops, A.bv, .int .i64 A.acc, .int .u64 A.pu, .int .u64 A.po, .bool A.okk, .bool A.ov, .int .i64 A.mk'] 121 (0, 0))
section
variable {w w' : World} {g : Nat} {R : Ri} {A : Ac}
theorem RiAt.cells (h : RiAt w g R) :
    w.cell? ⟨g, 0, none⟩ = some (.pointer (some ⟨R.p, 0, none⟩)) ∧ w.cell? ⟨g, 1, none⟩ = some (.int .i64 R.wd) ∧ w.cell? ⟨g, 2, none⟩ = some (.int .i64 R.bx) ∧ w.cell? ⟨g, 3, none⟩ = some (.int .u64 R.sz) ∧ w.cell? ⟨g, 4, none⟩ = some (.bool R.ps) ∧ w.cell? ⟨g, 5, none⟩ = some (.bool R.pp) ∧ ∀ o, w.frozen? ⟨g, o, none⟩ = false := by
  unfold RiAt at h
  simp [World.cell?, World.frozen?, h]
theorem AcAt.cells (h : AcAt w g A) :
    w.cell? ⟨g, 0, none⟩ = some (.pointer (some ⟨A.r, 0, none⟩)) ∧ w.cell? ⟨g, 1, none⟩ = some (.int .i64 A.who) ∧ w.cell? ⟨g, 2, none⟩ = some (.bool A.pops) ∧ w.cell? ⟨g, 3, none⟩ = some A.bv ∧ w.cell? ⟨g, 4, none⟩ = some (.int .i64 A.acc) ∧ w.cell? ⟨g, 5, none⟩ = some (.int .u64 A.pu) ∧ w.cell? ⟨g, 6, none⟩ = some (.int .u64 A.po) ∧ w.cell? ⟨g, 7, none⟩ = some (.bool A.okk) ∧ w.cell? ⟨g, 8, none⟩ = some (.bool A.ov) ∧ w.cell? ⟨g, 9, none⟩ = some (.int .i64 A.mk') ∧ ∀ o, w.frozen? ⟨g, o, none⟩ = false := by
  unfold AcAt at h
  simp [World.cell?, World.frozen?, h]
theorem RiAt.lt (h : RiAt w g R) : g < w.heap.size := (Array.getElem?_eq_some_iff.1 h).1
theorem AcAt.lt (h : AcAt w g A) : g < w.heap.size := (Array.getElem?_eq_some_iff.1 h).1
theorem RiAt.of_block (h : RiAt w g R) (e : w'.heap[g]? = w.heap[g]?) : RiAt w' g R := e.trans h
theorem AcAt.of_block (h : AcAt w g A) (e : w'.heap[g]? = w.heap[g]?) : AcAt w' g A := e.trans h
theorem RiAt.setO (h : RiAt w g R) {a : Addr} (e : g ≠ a.block) (u : Value) : RiAt (w.setCell a u) g R := h.of_block (Below.heap_setCell _ _ _ _ e)
theorem AcAt.setO (h : AcAt w g A) {a : Addr} (e : g ≠ a.block) (u : Value) : AcAt (w.setCell a u) g A := h.of_block (Below.heap_setCell _ _ _ _ e)
theorem RiAt.set4 (h : RiAt w g R) (b : Bool) : RiAt (w.setCell ⟨g, 4, none⟩ (.bool b)) g { R with ps := b } := by
  unfold RiAt at *; exact heap_setCell_same w g 4 _ _ _ h
theorem RiAt.set5 (h : RiAt w g R) (b : Bool) : RiAt (w.setCell ⟨g, 5, none⟩ (.bool b)) g { R with pp := b } := by
  unfold RiAt at *; exact heap_setCell_same w g 5 _ _ _ h
theorem AcAt.set3 (h : AcAt w g A) (v : Value) : AcAt (w.setCell ⟨g, 3, none⟩ v) g { A with bv := v } := by
  unfold AcAt at *; exact heap_setCell_same w g 3 _ _ _ h
theorem AcAt.set4 (h : AcAt w g A) (x : Int) : AcAt (w.setCell ⟨g, 4, none⟩ (.int .i64 x)) g { A with acc := x } := by
  unfold AcAt at *; exact heap_setCell_same w g 4 _ _ _ h
theorem AcAt.set5 (h : AcAt w g A) (x : Int) : AcAt (w.setCell ⟨g, 5, none⟩ (.int .u64 x)) g { A with pu := x } := by
  unfold AcAt at *; exact heap_setCell_same w g 5 _ _ _ h
theorem AcAt.set6 (h : AcAt w g A) (x : Int) : AcAt (w.setCell ⟨g, 6, none⟩ (.int .u64 x)) g { A with po := x } := by
  unfold AcAt at *; exact heap_setCell_same w g 6 _ _ _ h
theorem AcAt.set7 (h : AcAt w g A) (x : Bool) : AcAt (w.setCell ⟨g, 7, none⟩ (.bool x)) g { A with okk := x } := by
  unfold AcAt at *; exact heap_setCell_same w g 7 _ _ _ h
theorem AcAt.set8 (h : AcAt w g A) (x : Bool) : AcAt (w.setCell ⟨g, 8, none⟩ (.bool x)) g { A with ov := x } := by
  unfold AcAt at *; exact heap_setCell_same w g 8 _ _ _ h
theorem AcAt.set9 (h : AcAt w g A) (x : Int) : AcAt (w.setCell ⟨g, 9, none⟩ (.int .i64 x)) g { A with mk' := x } := by
  unfold AcAt at *; exact heap_setCell_same w g 9 _ _ _ h
/-! ### what only looks -/
set_option maxRecDepth 1000000 in
set_option maxHeartbeats 8000000 in
theorem rgover_any (h : AcAt w g A) :
    Calls Try.prog 16 #[.pointer (some ⟨g, 0, none⟩)] w fun e w' => e = .returned (.bool A.ov) ∧ w = w' := by
  obtain ⟨c0, _, _, _, _, _, _, _, c8, _⟩ := h.cells
  clear h
  go_enter Try.func16, Try.ntmps16
  go_wp2_with fail
  go_ret
  exact ⟨rfl, rfl⟩
set_option maxRecDepth 1000000 in
set_option maxHeartbeats 8000000 in
theorem rgmark_any (h : AcAt w g A) :
    Calls Try.prog 23 #[.pointer (some ⟨g, 0, none⟩)] w fun e w' => e = .returned (.int .i64 A.mk') ∧ w = w' := by
  obtain ⟨_, _, _, _, _, _, _, _, _, c9, _⟩ := h.cells
  clear h
  go_enter Try.func23, Try.ntmps23
  go_wp2_with fail
  go_ret
  exact ⟨rfl, rfl⟩
set_option maxRecDepth 1000000 in
set_option maxHeartbeats 8000000 in
theorem rgok_any (h : AcAt w g A) :
    Calls Try.prog 19 #[.pointer (some ⟨g, 0, none⟩)] w fun e w' => e = .returned (.bool A.okk) ∧ w = w' := by
  obtain ⟨_, _, _, _, _, _, _, c7, _⟩ := h.cells
  clear h
  go_enter Try.func19, Try.ntmps19
  go_wp2_with fail
  go_ret
  exact ⟨rfl, rfl⟩
set_option maxRecDepth 1000000 in
set_option maxHeartbeats 8000000 in
theorem rgnone_any (h : RiAt w g R) :
    Calls Try.prog 63 #[.pointer (some ⟨g, 0, none⟩)] w fun e w' => e = .returned (.bool false) ∧ w = w' := by
  obtain ⟨c0, _⟩ := h.cells
  clear h
  go_enter Try.func63, Try.ntmps63
  go_wp2_with fail
  go_ret
  exact ⟨rfl, rfl⟩
set_option maxRecDepth 1000000 in
set_option maxHeartbeats 8000000 in
theorem rgplace_any (h : RiAt w g R) {n : Int} (hn : 0 ≤ n) (hs : 1 ≤ R.sz) (hs' : R.sz ≤ 64) (hb : 0 ≤ R.bx) (hb' : R.bx ≤ 1000) :
    Calls Try.prog 122 #[.pointer (some ⟨g, 0, none⟩), .int .u64 n] w fun e w' => e = .returned (.int .i64 (R.bx + n % R.sz)) ∧ Below w.heap.size w w' := by
  obtain ⟨_, _, c2, c3, _, _, _⟩ := h.cells
  clear h
  obtain ⟨p, wd, bx, sz, ps, pp⟩ := R
  simp only at hs hs' hb hb' c2 c3 ⊢
  go_enter Try.func122, Try.ntmps122
  have hz : sz ≠ 0 := by omega
  go_wp2_with fail
  go_quiet (fail)
  go_wp2_with fail
  go_ret
  refine ⟨pint ?_, below_drewN (Below.refl _ _) _⟩
  have h1 := Int.emod_nonneg n hz
  have h2 := Int.emod_lt_of_pos n (show 0 < sz by omega)
  generalize n % sz = q at *
  unfold wrap64
  omega
/-! ### an act and its Ring beside their Mem -/
theorem sl_block {v : Value} {l : List Batch.Ch} (h : Batch.Sl w v l) (hs : ∀ g, v.ownBlock = some g → w'.heap[g]? = w.heap[g]?) : Batch.Sl w' v l := by
  obtain ⟨ao, cp, rfl, h1, h2⟩ := h
  refine ⟨ao, cp, rfl, ?_, h2⟩
  rcases h1 with h1 | ⟨b', off, rfl, h3⟩
  · exact .inl h1
  · refine .inr ⟨b', off, rfl, fun i x hx => ?_⟩
    obtain ⟨c0, c1, c2⟩ := h3 i x hx
    have e : ∀ o, w'.cell? ⟨b', o, none⟩ = w.cell? ⟨b', o, none⟩ := fun o => World.cell?_of_block (w := w) (hs b' rfl)
    exact ⟨(e _).trans c0, (e _).trans c1, (e _).trans c2⟩
structure Rg (n : Nat) (w0 wr : World) (fs zs : List Nat) (a r : Nat) (R : Ri) (A : Ac) (l : List Batch.Ch) (M : Mm.St) (w : World) : Prop where
  mz : Mm.MemZ n w0 zs R.p M w
  ri : RiAt w r R
  ac : AcAt w a A
  am : a ∈ zs
  rm : r ∈ zs
  na : n ≤ a
  nr : n ≤ r
  ne : a ≠ r
  ar : A.r = r
  sl : Batch.Sl w A.bv l
  bv : ∀ g, A.bv.ownBlock = some g → g ∈ zs ∧ g ≠ a ∧ g ≠ r
  fz : ∀ j ∈ fs, j ∈ zs
  fr : ∀ j ∈ fs, j ≠ a → j ≠ r → w.heap[j]? = wr.heap[j]?
  sz : wr.heap.size ≤ w.heap.size
variable {n a r : Nat} {w0 wr : World} {fs zs : List Nat} {l : List Batch.Ch} {M M' : Mm.St}
theorem Rg.call (h : Rg n w0 wr fs zs a r R A l M w) (hm : Mm.MemZ n w0 zs R.p M' w') (hk : Mm.KeepB n zs w w') : Rg n w0 wr fs zs a r R A l M' w' :=
  ⟨hm, h.ri.of_block (hk.2 _ (.inr h.rm)), h.ac.of_block (hk.2 _ (.inr h.am)), h.am, h.rm, h.na, h.nr, h.ne, h.ar, sl_block h.sl (fun g hg => hk.2 g (.inr (h.bv g hg).1)), h.bv, h.fz, fun j hj ha hr => (hk.2 j (.inr (h.fz j hj))).trans (h.fr j hj ha hr), Nat.le_trans h.sz hk.1⟩
theorem Rg.below (h : Rg n w0 wr fs zs a r R A l M w) (hb : Below w.heap.size w w') : Rg n w0 wr fs zs a r R A l M w' := h.call (h.mz.below hb) (h.mz.keep hb)
theorem Rg.setA (h : Rg n w0 wr fs zs a r R A l M w) (o : Nat) (u : Value) {A' : Ac} (hA : AcAt (w.setCell ⟨a, o, none⟩ u) a A') (hr : A'.r = A.r) (hv : A'.bv = A.bv) : Rg n w0 wr fs zs a r R A' l M (w.setCell ⟨a, o, none⟩ u) :=
  ⟨h.mz.store h.am h.na o u, h.ri.setO (Ne.symm h.ne) u, hA, h.am, h.rm, h.na, h.nr, h.ne, hr.trans h.ar, by
    rw [hv]; exact sl_block h.sl (fun g hg => Below.heap_setCell _ _ _ _ (h.bv g hg).2.1), by rw [hv]; exact h.bv, h.fz, fun j hj ha hr => (Below.heap_setCell _ _ _ _ ha).trans (h.fr j hj ha hr), by rw [Mm.size_setCell]; exact h.sz⟩
theorem Rg.setR (h : Rg n w0 wr fs zs a r R A l M w) (o : Nat) (u : Value) {R' : Ri} (hR : RiAt (w.setCell ⟨r, o, none⟩ u) r R') (hp : R'.p = R.p) : Rg n w0 wr fs zs a r R' A l M (w.setCell ⟨r, o, none⟩ u) :=
  ⟨by rw [hp]; exact h.mz.store h.rm h.nr o u, hR, h.ac.setO h.ne u, h.am, h.rm, h.na, h.nr, h.ne, h.ar, sl_block h.sl (fun g hg => Below.heap_setCell _ _ _ _ (h.bv g hg).2.2), h.bv, h.fz, fun j hj ha hr => (Below.heap_setCell _ _ _ _ hr).trans (h.fr j hj ha hr), by rw [Mm.size_setCell]; exact h.sz⟩
theorem Rg.setV (h : Rg n w0 wr fs zs a r R A l M w) (v : Value) {l' : List Batch.Ch} (hs : Batch.Sl (w.setCell ⟨a, 3, none⟩ v) v l') (hv : ∀ g, v.ownBlock = some g → g ∈ zs ∧ g ≠ a ∧ g ≠ r) : Rg n w0 wr fs zs a r R { A with bv := v } l' M (w.setCell ⟨a, 3, none⟩ v) :=
  ⟨h.mz.store h.am h.na 3 v, h.ri.setO (Ne.symm h.ne) v, h.ac.set3 v, h.am, h.rm, h.na, h.nr, h.ne, h.ar, hs, hv, h.fz, fun j hj ha hr => (Below.heap_setCell _ _ _ _ ha).trans (h.fr j hj ha hr), by rw [Mm.size_setCell]; exact h.sz⟩
end
end Go.Proofs.Ytjmkcgkkgamafaa.Rg
