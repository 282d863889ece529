/-
  PACKAGE mem, MEMORY: a Mem as it lies there; whose each block is (a tag for each block, so that two of different tags are different ones).
-/
import Derived.Test.YtkeldggdllaheaaJoined7
import Derived.Test.YtkeldggdllaheaaJoined8
import Derived.Test.YtkeldggdllaheaaBatchMem
import Derived.Maps.OwnSet
import Derived.Maps.OwnOps
namespace Go.Proofs.Ytkeldggdllaheaa.Mm
open Go.RowKit Rw Pk Go.Maps
set_option linter.unusedVariables false

/-! ### kinds of elements -/
structure Ev where
  w : Int
  k : Int
  a : Int
  ok : Bool
def I64 (x : Int) : Prop := -9223372036854775808 ≤ x ∧ x ≤ 9223372036854775807
def evK : Kd Ev where
  k := 4
  cells x := [.int .i64 x.w, .int .i64 x.k, .int .i64 x.a, .bool x.ok]
  wf x := I64 x.w ∧ I64 x.k ∧ I64 x.a
  len _ := rfl
  one x u hu := by simp at hu; rcases hu with rfl | rfl | rfl | rfl <;> rfl
def u64K : Kd Int where
  k := 1
  cells x := [.int .u64 x]
  wf x := 0 ≤ x ∧ x ≤ 18446744073709551615
  len _ := rfl
  one x u hu := by simp at hu; subst hu; rfl
/-- A slice's value. -/
structure Sv where
  ao : Option Addr
  n : Nat
  c : Nat
def Sv.val (s : Sv) : Value := .slice s.ao s.n s.c
def svK : Kd Sv where
  k := 1
  cells x := [x.val]
  wf _ := True
  len _ := rfl
  one x u hu := by simp at hu; subst hu; rfl
structure Lv where
  tk : Bool
  wh : Int
  s : Sv
def laK : Kd Lv where
  k := 3
  cells x := [.bool x.tk, .int .i64 x.wh, x.s.val]
  wf _ := True
  len _ := rfl
  one x u hu := by simp at hu; rcases hu with rfl | rfl | rfl <;> rfl
def chK : Kd Batch.Ch where
  k := 3
  cells x := [.int .i64 x.p, .int .u64 x.t, .int .i64 x.d]
  wf x := x.Wf
  len _ := rfl
  one x u hu := by simp at hu; rcases hu with rfl | rfl | rfl <;> rfl

/-! ### whose each block is -/
theorem own_of_block {α : Type} {S : Kd α} {w w' : World} {base : Nat} {T : TypeId} {v : Value} {l : List α} (h : Own S w base T v l) (hb : ∀ g, v.ownBlock = some g → w'.heap[g]? = w.heap[g]?) : Own S w' base T v l := by
  refine ⟨h.1, ?_⟩
  rcases h.2 with h2 | ⟨g, cap, cur, rfl, hg, hh, rest⟩
  · exact .inl h2
  · exact .inr ⟨g, cap, cur, rfl, hg, (hb g rfl).trans hh, rest⟩
theorem own_block_lt {α : Type} {S : Kd α} {w : World} {base : Nat} {T : TypeId} {v : Value} {l : List α} (h : Own S w base T v l) {g : Nat} (hg : v.ownBlock = some g) : g < w.heap.size := by
  rcases h.2 with ⟨rfl, _⟩ | ⟨g', cap, cur, rfl, _, hh, _⟩
  · simp [Value.ownBlock] at hg
  · simp [Value.ownBlock] at hg
    subst hg
    exact (Array.getElem?_eq_some_iff.1 hh).1
def Row {α : Type} (S : Kd α) (w : World) (τ : Nat → Nat) (t : Nat) (T : TypeId) (v : Value) (l : List α) : Prop := Own S w 0 T v l ∧ ∀ g, v.ownBlock = some g → τ g = t
/-- Blocks of other tags are as they were. -/
def Keep (τ : Nat → Nat) (t : Nat → Prop) (w w' : World) : Prop := w.heap.size ≤ w'.heap.size ∧ ∀ i, i < w.heap.size → τ i ≠ 0 → ¬ t (τ i) → w'.heap[i]? = w.heap[i]?
def Ext (n : Nat) (τ τ' : Nat → Nat) : Prop := ∀ i, i < n → τ' i = τ i
theorem Row.keep {α : Type} {S : Kd α} {w w' : World} {τ τ' : Nat → Nat} {t : Nat} {q : Nat → Prop} {T : TypeId} {v : Value} {l : List α} (h : Row S w τ t T v l) (hk : Keep τ q w w') (he : Ext w.heap.size τ τ') (h0 : t ≠ 0) (hq : ¬ q t) : Row S w' τ' t T v l := by
  refine ⟨own_of_block h.1 fun g hg => ?_, fun g hg => ?_⟩
  · have ht := h.2 g hg
    exact hk.2 g (own_block_lt h.1 hg) (by rw [ht]; exact h0) (by rw [ht]; exact hq)
  · rw [he g (own_block_lt h.1 hg)]; exact h.2 g hg

/-! ### what there is -/
structure La where
  tk : Bool
  wh : Int
  sl : List Int
structure St where
  ws : List Int
  bs : List (List Batch.Ch)
  ls : List La
  sp : Int → Bool
  lg : List Ev
  nb : Nat
structure Vs where
  vw : Value
  vb : Value
  vl : Value
  vg : Value
  mb : Nat
  bv : List Sv
  lv : List Lv
def MapAs (w : World) (mb n : Nat) (sp : Int → Bool) : Prop := ∃ D : DataW Unit, w.ownsMap Try.prog 3 (plainElem Try.prog 4) mb n D ∧ ∀ i, D.atKey (.int .i64 i) (.lit (.bool false)) = .lit (.bool (sp i))
structure MemIs (τ : Nat → Nat) (w : World) (b : Nat) (M : St) (V : Vs) : Prop where
  st : w.heap[b]? = some (.cells #[V.vw, V.vb, V.vl, .map (some V.mb), V.vg] 99 (0, 0))
  tb : τ b = 1
  ws : Row u64K w τ 2 23 V.vw M.ws
  bs : Row svK w τ 3 42 V.vb V.bv
  ls : Row laK w τ 4 93 V.vl V.lv
  mp : MapAs w V.mb M.nb M.sp
  tm : τ V.mb = 5
  lg : Row evK w τ 6 107 V.vg M.lg
  bl : V.bv.length = M.bs.length
  be : ∀ (i : Nat) s l, V.bv[i]? = some s → M.bs[i]? = some l → Row chK w τ 7 68 s.val l
  ll : V.lv.length = M.ls.length
  le : ∀ (i : Nat) x L, V.lv[i]? = some x → M.ls[i]? = some L → x.tk = L.tk ∧ x.wh = L.wh ∧ Row intK w τ (8 + i) 3 x.s.val L.sl
  tz : ∀ i, τ i ≠ 0 → i < w.heap.size
def MemAt (τ : Nat → Nat) (w : World) (b : Nat) (M : St) : Prop := ∃ V, MemIs τ w b M V
theorem MapAs.of_block {w w' : World} {mb n : Nat} {sp : Int → Bool} (h : MapAs w mb n sp) (hb : w'.heap[mb]? = w.heap[mb]?) : MapAs w' mb n sp := by
  obtain ⟨D, ⟨es, clock, h1, h2⟩, h3⟩ := h
  exact ⟨D, ⟨es, clock, hb.trans h1, h2⟩, h3⟩
theorem MapAs.lt {w : World} {mb n : Nat} {sp : Int → Bool} (h : MapAs w mb n sp) : mb < w.heap.size := by obtain ⟨D, h, _⟩ := h; exact h.lt
theorem MapAs.more {w : World} {mb n n' : Nat} {sp : Int → Bool} (h : MapAs w mb n sp) (hn : n ≤ n') : MapAs w mb n' sp := by obtain ⟨D, h, h2⟩ := h; exact ⟨D, h.mono hn, h2⟩
/-- Nothing of a Mem is changed. -/
theorem MemIs.keep {τ τ' : Nat → Nat} {w w' : World} {b : Nat} {M : St} {V : Vs} (h : MemIs τ w b M V) (hk : Keep τ (fun _ => False) w w') (he : Ext w.heap.size τ τ') (hz : ∀ i, τ' i ≠ 0 → i < w'.heap.size) : MemIs τ' w' b M V := by
  have hb := (Array.getElem?_eq_some_iff.1 h.st).1
  refine ⟨(hk.2 b hb (by rw [h.tb]; decide) id).trans h.st, by rw [he b hb]; exact h.tb, h.ws.keep hk he (by decide) id, h.bs.keep hk he (by decide) id, h.ls.keep hk he (by decide) id, h.mp.of_block (hk.2 _ h.mp.lt (by rw [h.tm]; decide) id), by rw [he _ h.mp.lt]; exact h.tm, h.lg.keep hk he (by decide) id, h.bl,
    fun i s l hs hl => (h.be i s l hs hl).keep hk he (by decide) id, h.ll, fun i x L hx hL => ?_, hz⟩
  obtain ⟨h1, h2, h3⟩ := h.le i x L hx hL
  exact ⟨h1, h2, h3.keep hk he (by omega) id⟩

/-! ### a step: what isn't a Mem's is as it was -/
structure Step (τ τ' : Nat → Nat) (w w' : World) : Prop where
  ext : Ext w.heap.size τ τ'
  bel : Below 0 w w'
  out : ∀ i, i < w.heap.size → τ i = 0 → w'.heap[i]? = w.heap[i]?
theorem Step.refl (τ : Nat → Nat) (w : World) : Step τ τ w w := ⟨fun _ _ => rfl, Below.refl _ _, fun _ _ _ => rfl⟩
theorem Step.trans {τ τ' τ'' : Nat → Nat} {w w' w'' : World} (h : Step τ τ' w w') (k : Step τ' τ'' w' w'') : Step τ τ'' w w'' := by
  have hs := h.bel.size
  exact ⟨fun i hi => (k.ext i (by omega)).trans (h.ext i hi), h.bel.trans k.bel, fun i hi h0 => (k.out i (by omega) (by rw [h.ext i hi]; exact h0)).trans (h.out i hi h0)⟩
theorem Step.of_below {τ : Nat → Nat} {w w' : World} (h : Below w.heap.size w w') : Step τ τ w w' := ⟨fun _ _ => rfl, h.mono (Nat.zero_le _), fun i hi _ => h.block i hi⟩
theorem Step.below {τ τ' : Nat → Nat} {w w' : World} (h : Step τ τ' w w') {B : Nat} (hB : B ≤ w.heap.size) (h0 : ∀ i, i < B → τ i = 0) : Below B w w' :=
  ⟨h.bel.os, h.bel.tape, h.bel.output, h.bel.size, fun k hk => h.out k (by omega) (h0 k hk)⟩
theorem MemAt.below {τ : Nat → Nat} {w w' : World} {b : Nat} {M : St} (h : MemAt τ w b M) (hw : Below w.heap.size w w') : MemAt τ w' b M := by
  obtain ⟨V, h⟩ := h
  exact ⟨V, h.keep ⟨hw.size, fun i hi _ _ => hw.block i hi⟩ (fun _ _ => rfl) fun i hi => Nat.lt_of_lt_of_le (h.tz i hi) hw.size⟩
theorem MemAt.draw {τ : Nat → Nat} {w : World} {b : Nat} {M : St} (h : MemAt τ w b M) (n : Nat) : MemAt τ (w.drewN n) b M := h.below (below_drewN (Below.refl _ _) _)
end Go.Proofs.Ytkeldggdllaheaa.Mm
