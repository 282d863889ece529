/-
  THE LAW MemKeeps, MEMORY: two arrays of the law's own beside a Mem.
-/
import Derived.Test.YtehimacmjlehhaaMemTold
namespace Go.Proofs.Ytehimacmjlehhaa.Mm
open Go.RowKit Rw Pk Go.Maps
set_option linter.unusedVariables false

theorem row0_step {α : Type} {S : Kd α} {w w' : World} {τ τ' : Nat → Nat} {T : TypeId} {v : Value} {l : List α} (h : Row S w τ 0 T v l) (hs : Step τ τ' w w') : Row S w' τ' 0 T v l :=
  ⟨own_of_block h.1 fun g hg => hs.out g (own_block_lt h.1 hg) (h.2 g hg), fun g hg => by rw [hs.ext g (own_block_lt h.1 hg)]; exact h.2 g hg⟩
structure Arr (τ : Nat → Nat) (w : World) (bw bb : Nat) (W : List Int) (bv : List Sv) (B : List (List Batch.Ch)) : Prop where
  tw : τ bw = 0
  tb : τ bb = 0
  ne : bw ≠ bb
  hw : w.heap[bw]? = some (.cells (W.map (Value.int .u64)).toArray 64 (0, 0))
  hb : w.heap[bb]? = some (.cells (bv.map Sv.val).toArray 65 (0, 0))
  lw : W.length = 5
  lv : bv.length = 5
  lb : B.length = 5
  el : ∀ (j : Nat) s l, bv[j]? = some s → B[j]? = some l → Row chK w τ 0 94 s.val l ∧ s.val.ownBlock ≠ some bw ∧ s.val.ownBlock ≠ some bb
variable {τ τ' : Nat → Nat} {w w' : World} {bw bb : Nat} {W : List Int} {bv : List Sv} {B : List (List Batch.Ch)}
theorem Arr.step (h : Arr τ w bw bb W bv B) (hs : Step τ τ' w w') : Arr τ' w' bw bb W bv B := by
  have l1 := (Array.getElem?_eq_some_iff.1 h.hw).1
  have l2 := (Array.getElem?_eq_some_iff.1 h.hb).1
  exact ⟨by rw [hs.ext _ l1]; exact h.tw, by rw [hs.ext _ l2]; exact h.tb, h.ne, (hs.out _ l1 h.tw).trans h.hw, (hs.out _ l2 h.tb).trans h.hb, h.lw, h.lv, h.lb, fun j s l hs' hl => by
    obtain ⟨q1, q2, q3⟩ := h.el j s l hs' hl
    exact ⟨row0_step q1 hs, q2, q3⟩⟩
theorem Arr.below (h : Arr τ w bw bb W bv B) (hb : Below w.heap.size w w') : Arr τ w' bw bb W bv B := h.step (Step.of_below hb)
theorem Arr.word (h : Arr τ w bw bb W bv B) {k : Nat} (hk : k < 5) (x : Int) : Arr τ (w.setCell ⟨bw, k, none⟩ (.int .u64 x)) bw bb (W.set k x) bv B := by
  have hset : ∀ j, j ≠ bw → (w.setCell ⟨bw, k, none⟩ (.int .u64 x)).heap[j]? = w.heap[j]? := fun j hj => Below.heap_setCell _ _ _ _ hj
  refine ⟨h.tw, h.tb, h.ne, ?_, (hset bb (Ne.symm h.ne)).trans h.hb, by rw [List.length_set]; exact h.lw, h.lv, h.lb, fun j s l hs hl => ?_⟩
  · have := heap_setCell_same w bw k _ _ (.int .u64 x) h.hw
    rw [List.map_set]
    simpa using this
  · obtain ⟨q1, q2, q3⟩ := h.el j s l hs hl
    exact ⟨⟨own_of_block q1.1 fun g hg => hset g (fun e => q2 (by rw [← e]; exact hg)), q1.2⟩, q2, q3⟩
theorem Arr.box (h : Arr τ w bw bb W bv B) {k : Nat} (hk : k < 5) {s : Sv} {l : List Batch.Ch} (hr : Row chK w τ 0 94 s.val l) (n1 : s.val.ownBlock ≠ some bw) (n2 : s.val.ownBlock ≠ some bb) : Arr τ (w.setCell ⟨bb, k, none⟩ s.val) bw bb W (bv.set k s) (B.set k l) := by
  have hset : ∀ j, j ≠ bb → (w.setCell ⟨bb, k, none⟩ s.val).heap[j]? = w.heap[j]? := fun j hj => Below.heap_setCell _ _ _ _ hj
  refine ⟨h.tw, h.tb, h.ne, (hset bw h.ne).trans h.hw, ?_, h.lw, by rw [List.length_set]; exact h.lv, by rw [List.length_set]; exact h.lb, fun j s' l' hs hl => ?_⟩
  · have := heap_setCell_same w bb k _ _ s.val h.hb
    rw [List.map_set]
    simpa using this
  · by_cases e : k = j
    · subst e
      have hs' : some s = some s' := by rw [← hs]; exact (List.getElem?_set_self (by rw [h.lv]; exact hk)).symm
      have hl' : some l = some l' := by rw [← hl]; exact (List.getElem?_set_self (by rw [h.lb]; exact hk)).symm
      cases hs'
      cases hl'
      exact ⟨⟨own_of_block hr.1 fun g hg => hset g (fun e => n2 (by rw [← e]; exact hg)), hr.2⟩, n1, n2⟩
    · obtain ⟨q1, q2, q3⟩ := h.el j s' l' (by rw [← hs]; exact (List.getElem?_set_ne e).symm) (by rw [← hl]; exact (List.getElem?_set_ne e).symm)
      exact ⟨⟨own_of_block q1.1 fun g hg => hset g (fun e => q3 (by rw [← e]; exact hg)), q1.2⟩, q2, q3⟩
theorem Arr.cellW (h : Arr τ w bw bb W bv B) {k : Nat} {x : Int} (hx : W[k]? = some x) : w.cell? ⟨bw, k, none⟩ = some (.int .u64 x) ∧ w.frozen? ⟨bw, k, none⟩ = false := by
  have := h.hw
  simp [World.cell?, World.frozen?, this, hx]
theorem Arr.cellB (h : Arr τ w bw bb W bv B) {k : Nat} {s : Sv} (hx : bv[k]? = some s) : w.cell? ⟨bb, k, none⟩ = some s.val ∧ w.frozen? ⟨bb, k, none⟩ = false := by
  have := h.hb
  simp [World.cell?, World.frozen?, this, hx]
/-- A Mem isn't touched where something else is. -/
theorem MemAt.other {b g : Nat} {M : St} (h : MemAt τ w b M) (hg : τ g = 0) (o : Nat) (u : Value) : MemAt τ (w.setCell ⟨g, o, none⟩ u) b M := by
  obtain ⟨V, h⟩ := h
  exact ⟨V, h.keep ⟨by rw [size_setCell]; exact Nat.le_refl _, fun i _ h0 _ => Below.heap_setCell _ _ _ _ (fun e => h0 (by rw [← hg]; exact congrArg τ e))⟩ (ext_refl _ _) fun i hi => by rw [size_setCell]; exact h.tz i hi⟩
theorem MemAt.zero {b : Nat} {M : St} (h : MemAt τ w b M) {g : Nat} (hg : w.heap.size ≤ g) : τ g = 0 := by
  obtain ⟨V, h⟩ := h
  by_cases e : τ g = 0
  · exact e
  · have := h.tz g e; omega
/-- All there is, at each round. -/
def Kp (n p bw bb : Nat) (w0 : World) (Wm Wa : List Int) (Bm Ba : List (List Batch.Ch)) (bv : List Sv) (q : Nat) (w : World) : Prop :=
  ∃ (τ : Nat → Nat) (M : St), MemAt τ w p M ∧ Good 5 5 0 q M ∧ M.ws = Wm ∧ M.bs = Bm ∧ (∀ i, M.sp i = false) ∧ (∀ j, j < n → τ j = 0) ∧ n ≤ w.heap.size ∧ Below n w0 w ∧ n ≤ bw ∧ n ≤ bb ∧ Arr τ w bw bb Wa bv Ba
variable {n p q : Nat} {w0 : World} {Wm Wa : List Int} {Bm Ba : List (List Batch.Ch)}
theorem Kp.more (h : Kp n p bw bb w0 Wm Wa Bm Ba bv q w) {q' : Nat} (hq : q ≤ q') : Kp n p bw bb w0 Wm Wa Bm Ba bv q' w := by
  obtain ⟨τ, M, h1, h2, h3⟩ := h
  exact ⟨τ, M, h1, h2.more hq, h3⟩
theorem Kp.below (h : Kp n p bw bb w0 Wm Wa Bm Ba bv q w) (hb : Below w.heap.size w w') : Kp n p bw bb w0 Wm Wa Bm Ba bv q w' := by
  obtain ⟨τ, M, h1, h2, h3, h4, h5, h6, h7, h8, h9, h10, h11⟩ := h
  exact ⟨τ, M, h1.below hb, h2, h3, h4, h5, h6, Nat.le_trans h7 hb.size, h8.trans (hb.mono h7), h9, h10, h11.below hb⟩
theorem Kp.kept (h : Kp n p bw bb w0 Wm Wa Bm Ba bv q w) : Below n w0 w := by
  obtain ⟨τ, M, h1, h2, h3, h4, h5, h6, h7, h8, h9, h10, h11⟩ := h
  exact h8
theorem Kp.word (h : Kp n p bw bb w0 Wm Wa Bm Ba bv q w) {k : Nat} (hk : k < 5) (x : Int) : Kp n p bw bb w0 Wm (Wa.set k x) Bm Ba bv q (w.setCell ⟨bw, k, none⟩ (.int .u64 x)) := by
  obtain ⟨τ, M, h1, h2, h3, h4, h5, h6, h7, h8, h9, h10, h11⟩ := h
  exact ⟨τ, M, h1.other h11.tw _ _, h2, h3, h4, h5, h6, by rw [size_setCell]; exact h7, h8.setCell h9 _, h9, h10, h11.word hk x⟩
theorem Kp.box (h : Kp n p bw bb w0 Wm Wa Bm Ba bv q w) (hb : Below w.heap.size w w') {k : Nat} (hk : k < 5) {s : Sv} {l : List Batch.Ch} (ho : Batch.Own w' w.heap.size 94 s.val l) : Kp n p bw bb w0 Wm Wa Bm (Ba.set k l) (bv.set k s) q (w'.setCell ⟨bb, k, none⟩ s.val) := by
  have hg : ∀ g, s.val.ownBlock = some g → w.heap.size ≤ g := fun g e => (World.ownsRow.lt ho g e).1
  obtain ⟨τ, M, h1, h2, h3, h4, h5, h6, h7, h8, h9, h10, h11⟩ := h
  have l1 := (Array.getElem?_eq_some_iff.1 h11.hw).1
  have l2 := (Array.getElem?_eq_some_iff.1 h11.hb).1
  refine ⟨τ, M, (h1.below hb).other h11.tb _ _, h2, h3, h4, h5, h6, by rw [size_setCell]; exact Nat.le_trans h7 hb.size, (h8.trans (hb.mono h7)).setCell h10 _, h9, h10, (h11.below hb).box hk ⟨show Own chK w' 0 94 s.val l from Batch.Own.mono ho (Nat.zero_le _), fun g e => h1.zero (hg g e)⟩ (fun e => ?_) (fun e => ?_)⟩
  · have := hg _ e; omega
  · have := hg _ e; omega
theorem may_in {M : St} (hG : Good 5 5 0 q M) (hs : ∀ i, M.sp i = false) {who : Int} (hw : 0 ≤ who) {k : Nat} (hk : k < 5) {c : Int} (hc : 0 ≤ c ∧ c ≤ 3) : mayB M who c (k : Int) = true := by
  have ha := hG.a
  have hb := hG.b
  have hcc : c = 0 ∨ c = 1 ∨ c = 2 ∨ c = 3 := by omega
  unfold mayB thB cnt
  rw [hs who, decide_eq_true (show (0 : Int) ≤ (k : Int) by omega), decide_eq_true hw]
  rcases hcc with rfl | rfl | rfl | rfl <;> simp <;> omega
theorem kp_store (h : Kp n p bw bb w0 Wm Wa Bm Ba bv q w) (hq : q ≤ 90000) {who : Int} (hw : 0 ≤ who ∧ who ≤ 100000) {k : Nat} (hk : k < 5) (x : Int) :
    Calls Try.prog 26 #[.pointer (some ⟨p, 0, none⟩), .int .i64 who, .int .i64 (k : Int), .int .u64 x] w fun e w' => e = .returned (.tuple #[]) ∧ Kp n p bw bb w0 (Wm.set k x) Wa Bm Ba bv (q + 1) w' := by
  obtain ⟨τ, M, h1, h2, h3, h4, h5, h6, h7, h8, h9, h10, h11⟩ := h
  have hI : I64 who := ⟨by omega, by omega⟩
  have hK : I64 (k : Int) := ⟨by omega, by omega⟩
  have hS : storeS M who (k : Int) x = { M.note ⟨who, 1, (k : Int), true⟩ with ws := M.ws.set k x } := by unfold storeS; rw [if_pos (may_in h2 h5 hw.1 hk (by decide)), show ((k : Int)).toNat = k by omega]
  refine (store_any h1 (h2.bnd (by decide) (by decide) (by decide) (by omega)).1 who (k : Int) x hI hK).mono fun e w' ⟨he, τ', hm, hs⟩ => ⟨he, τ', _, hm, h2.store hI hK, ?_, ?_, ?_, fun j hj => by rw [hs.ext j (by omega)]; exact h6 j hj, Nat.le_trans h7 hs.bel.size, h8.trans (hs.below h7 h6), h9, h10, h11.step hs⟩
  · rw [hS, ← h3]
  · rw [hS]; exact h4
  · rw [hS]; exact h5
theorem kp_set (h : Kp n p bw bb w0 Wm Wa Bm Ba bv q w) (hq : q ≤ 90000) (hb : Below w.heap.size w w') {who : Int} (hw : 0 ≤ who ∧ who ≤ 100000) {k : Nat} (hk : k < 5) {v : Value} {l : List Batch.Ch} (hv : Batch.Sl w' v l) (hl : l.length ≤ 1000 ∧ ∀ x ∈ l, x.Wf) (hv0 : ∀ g, v.ownBlock = some g → w.heap.size ≤ g) :
    Calls Try.prog 27 #[.pointer (some ⟨p, 0, none⟩), .int .i64 who, .int .i64 (k : Int), v] w' fun e w' => e = .returned (.tuple #[]) ∧ Kp n p bw bb w0 Wm Wa (Bm.set k l) Ba bv (q + 1) w' := by
  have hz : ∀ τ (M : St), MemAt τ w p M → ∀ g, v.ownBlock = some g → τ g = 0 := fun τ M h g hg => h.zero (hv0 g hg)
  have h' := h.below hb
  obtain ⟨τ, M, h1, h2, h3, h4, h5, h6, h7, h8, h9, h10, h11⟩ := h
  have hI : I64 who := ⟨by omega, by omega⟩
  have hK : I64 (k : Int) := ⟨by omega, by omega⟩
  have hS : setS M who (k : Int) l = { M.note ⟨who, 3, (k : Int), true⟩ with bs := M.bs.set k l } := by unfold setS; rw [if_pos (may_in h2 h5 hw.1 hk (by decide)), show ((k : Int)).toNat = k by omega]
  refine (set_any (h1.below hb) (h2.bnd (by decide) (by decide) (by decide) (by omega)).1 who (k : Int) hI hK hv hl.1 (hz τ M h1)).mono fun e w'' ⟨he, τ', hm, hs⟩ => ⟨he, τ', _, hm, h2.set hI hK hl, ?_, ?_, ?_, fun j hj => by rw [hs.ext j (by have := hb.size; omega)]; exact h6 j hj, Nat.le_trans (Nat.le_trans h7 hb.size) hs.bel.size, (h8.trans (hb.mono h7)).trans (hs.below (Nat.le_trans h7 hb.size) h6), h9, h10, (h11.below hb).step hs⟩
  · rw [hS]; exact h3
  · rw [hS, ← h4]
  · rw [hS]; exact h5
theorem kp_load (h : Kp n p bw bb w0 Wm Wa Bm Ba bv q w) (hq : q ≤ 90000) {who : Int} (hw : 0 ≤ who ∧ who ≤ 100000) {k : Nat} (hk : k < 5) :
    Calls Try.prog 28 #[.pointer (some ⟨p, 0, none⟩), .int .i64 who, .int .i64 (k : Int)] w fun e w' => e = .returned (.int .u64 (Wm.getD k 0)) ∧ Kp n p bw bb w0 Wm Wa Bm Ba bv (q + 1) w' := by
  obtain ⟨τ, M, h1, h2, h3, h4, h5, h6, h7, h8, h9, h10, h11⟩ := h
  have hI : I64 who := ⟨by omega, by omega⟩
  have hK : I64 (k : Int) := ⟨by omega, by omega⟩
  have hm0 := may_in h2 h5 hw.1 hk (c := 0) (by decide)
  have hS : lookS M who 0 (k : Int) = M.note ⟨who, 0, (k : Int), true⟩ := by unfold lookS; rw [if_pos hm0]
  have hV : loadV M who (k : Int) = Wm.getD k 0 := by unfold loadV; rw [if_pos hm0, show ((k : Int)).toNat = k by omega, h3]
  refine (load_any h1 (h2.bnd (by decide) (by decide) (by decide) (by omega)).1 who (k : Int) hI hK).mono fun e w' ⟨he, τ', hm, hs⟩ => ⟨by rw [he, hV], τ', _, hm, h2.look hI (by decide) hK, ?_, ?_, ?_, fun j hj => by rw [hs.ext j (by omega)]; exact h6 j hj, Nat.le_trans h7 hs.bel.size, h8.trans (hs.below h7 h6), h9, h10, h11.step hs⟩
  · rw [hS]; exact h3
  · rw [hS]; exact h4
  · rw [hS]; exact h5
theorem kp_get (h : Kp n p bw bb w0 Wm Wa Bm Ba bv q w) (hq : q ≤ 90000) {who : Int} (hw : 0 ≤ who ∧ who ≤ 100000) {k : Nat} (hk : k < 5) :
    Calls Try.prog 29 #[.pointer (some ⟨p, 0, none⟩), .int .i64 who, .int .i64 (k : Int)] w fun e w' => ∃ v, e = .returned v ∧ Batch.Own w' w.heap.size 99 v (Bm.getD k []) ∧ (∀ x ∈ Bm.getD k [], x.Wf) ∧ (Bm.getD k []).length ≤ 1000 ∧ Kp n p bw bb w0 Wm Wa Bm Ba bv (q + 1) w' := by
  obtain ⟨τ, M, h1, h2, h3, h4, h5, h6, h7, h8, h9, h10, h11⟩ := h
  have hI : I64 who := ⟨by omega, by omega⟩
  have hK : I64 (k : Int) := ⟨by omega, by omega⟩
  have hm0 := may_in h2 h5 hw.1 hk (c := 2) (by decide)
  have hS : lookS M who 2 (k : Int) = M.note ⟨who, 2, (k : Int), true⟩ := by unfold lookS; rw [if_pos hm0]
  have hV : getV M who (k : Int) = Bm.getD k [] := by unfold getV; rw [if_pos hm0, show ((k : Int)).toNat = k by omega, h4]
  have hbx : (Bm.getD k []).length ≤ 1000 ∧ ∀ x ∈ Bm.getD k [], x.Wf := by
    rw [← h4, List.getD_eq_getElem?_getD]
    cases hx : M.bs[k]? with
    | none => exact ⟨by simp, by simp⟩
    | some l => exact h2.bx l (List.mem_of_getElem? hx)
  refine (get_any h1 (h2.bnd (by decide) (by decide) (by decide) (by omega)).1 who (k : Int) hI hK).mono fun e w' ⟨v, he, ho, τ', hm, hs⟩ => ⟨v, he, by rw [← hV]; exact ho, hbx.2, hbx.1, τ', _, hm, h2.look hI (by decide) hK, ?_, ?_, ?_, fun j hj => by rw [hs.ext j (by omega)]; exact h6 j hj, Nat.le_trans h7 hs.bel.size, h8.trans (hs.below h7 h6), h9, h10, h11.step hs⟩
  · rw [hS]; exact h3
  · rw [hS]; exact h4
  · rw [hS]; exact h5
theorem Kp.cells (h : Kp n p bw bb w0 Wm Wa Bm Ba bv q w) {k : Nat} (hk : k < 5) : w.cell? ⟨bw, k, none⟩ = some (.int .u64 (Wa.getD k 0)) ∧ w.frozen? ⟨bw, k, none⟩ = false ∧ (∃ s : Sv, bv[k]? = some s ∧ w.cell? ⟨bb, k, none⟩ = some s.val ∧ Row chK w (fun _ => 0) 0 94 s.val (Ba.getD k [])) ∧ w.frozen? ⟨bb, k, none⟩ = false := by
  obtain ⟨τ, M, h1, h2, h3, h4, h5, h6, h7, h8, h9, h10, h11⟩ := h
  obtain ⟨x, hx⟩ : ∃ x, Wa[k]? = some x := ⟨_, List.getElem?_eq_getElem (by rw [h11.lw]; exact hk)⟩
  obtain ⟨s, hs⟩ : ∃ s, bv[k]? = some s := ⟨_, List.getElem?_eq_getElem (by rw [h11.lv]; exact hk)⟩
  obtain ⟨l, hl⟩ : ∃ l, Ba[k]? = some l := ⟨_, List.getElem?_eq_getElem (by rw [h11.lb]; exact hk)⟩
  obtain ⟨q1, q2⟩ := h11.cellW hx
  obtain ⟨q3, q4⟩ := h11.cellB hs
  obtain ⟨q5, _, _⟩ := h11.el k s l hs hl
  exact ⟨by rw [q1, List.getD_eq_getElem?_getD, hx]; rfl, q2, ⟨s, hs, q3, by rw [List.getD_eq_getElem?_getD, hl]; exact ⟨q5.1, fun _ _ => rfl⟩⟩, q4⟩
theorem Kp.rd {B : List (List Batch.Ch)} (h : Kp n p bw bb w0 Wm Wa B B bv q w) {k : Nat} (hk : k < 5) {s : Sv} (hs : bv[k]? = some s) : Batch.Rd w s.val (B.getD k []) := by
  obtain ⟨_, _, ⟨s', h1, _, h3⟩, _⟩ := h.cells hk
  obtain rfl : s' = s := Option.some.inj (h1.symm.trans hs)
  obtain ⟨τ, M, _, h2, _, h4, _⟩ := h
  refine Batch.Own.rd (show Batch.Own w 0 94 s'.val (B.getD k []) from h3.1) ?_
  rw [← h4, List.getD_eq_getElem?_getD]
  cases hx : M.bs[k]? with
  | none => simp
  | some l => exact (h2.bx l (List.mem_of_getElem? hx)).2
theorem Kp.cellB (h : Kp n p bw bb w0 Wm Wa Bm Ba bv q w) {k : Nat} {s : Sv} (hs : bv[k]? = some s) : w.cell? ⟨bb, k, none⟩ = some s.val := by
  obtain ⟨τ, M, h1, h2, h3, h4, h5, h6, h7, h8, h9, h10, h11⟩ := h
  exact (h11.cellB hs).1
end Go.Proofs.Ytehimacmjlehhaa.Mm
