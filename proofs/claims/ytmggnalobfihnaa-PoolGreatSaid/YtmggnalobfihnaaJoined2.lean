/-
  PACKAGE pick, and the document's own: Who; two lists of numbers compared (Ints).
  PACKAGE pick, and the document's own: Turns.
  PACKAGE mem, MEMORY: a Mem as it lies there; whose each block is (a tag for each block, so that two of different tags are different ones).
-/
import Derived.Test.YtmggnalobfihnaaJoined1
import Derived.WalkKit
import Derived.WalkLawsBesides
import Derived.WalkSpells
import Derived.WalkSmall
import Derived.StillTactics
import Derived.Deep.QuietTactic
import Derived.BigQuiet
import Derived.Deep.LoopGhost
import Derived.Deep.RegionLaw
import Derived.IntWalk
import Derived.Outline
import Derived.Laws.OwnMore
import Derived.Laws.CopyOwn
import Derived.OwnWalk
import Derived.Test.YtmggnalobfihnaaBatchMem
import Derived.Maps.OwnSet
import Derived.Maps.OwnOps
namespace Go.Proofs.Ytmggnalobfihnaa.Pk
open Go.RowKit Rw
set_option linter.unusedVariables false

/-- A number that a program may hold. -/
def intK : Kd Int where
  k := 1
  cells x := [.int .i64 x]
  wf x := -9223372036854775808 ≤ x ∧ x ≤ 9223372036854775807
  len _ := rfl
  one x u hu := by simp at hu; subst hu; rfl
theorem intK_k : intK.k = 1 := rfl
theorem at1 {w : World} {b o : Nat} {g : Int} (h : AtK intK w b o g) : w.cell? ⟨b, o, none⟩ = some (.int .i64 g) := h 0 _ (by decide) rfl
/-- Whose pick a number is. -/
def whoF (p m : Int) : Int := if m < 1 then -1 else (p % 18446744073709551616) % m
theorem whoF_no {p m : Int} (h : m < 1) : whoF p m = -1 := if_pos h
theorem whoF_in {p m : Int} (h : 1 ≤ m) : 0 ≤ whoF p m ∧ whoF p m < m := by
  unfold whoF
  rw [if_neg (by omega)]
  exact ⟨Int.emod_nonneg _ (by omega), Int.emod_lt_of_pos _ (by omega)⟩
theorem u64_of (p : Int) : IntKind.u64.wrap p = p % 18446744073709551616 := by
  unfold IntKind.wrap
  simp [IntKind.bits, IntKind.signed]
theorem whoF_of {p m : Int} (h : 1 ≤ m) (h2 : m ≤ 9223372036854775807) : wrap64 ((IntKind.u64.wrap p).tmod m) = whoF p m := by
  have h3 := whoF_in (p := p) h
  rw [Int.tmod_eq_emod_of_nonneg (by rw [u64_of]; omega), u64_of]
  unfold whoF wrap64 at *
  rw [if_neg (by omega)] at *
  omega
theorem pbool {a b : Bool} (h : a = b) : Ending.returned (.bool a) = .returned (.bool b) := by rw [h]
theorem pint {k : IntKind} {a b : Int} (h : a = b) : Ending.returned (.int k a) = .returned (.int k b) := by rw [h]

/-! ### two lists of numbers compared -/
end Go.Proofs.Ytmggnalobfihnaa.Pk
namespace Go.Proofs.Ytmggnalobfihnaa.Pk
open Go.RowKit Rw
set_option linter.unusedVariables false

/-- 0, 1, .. m less 1, and again: c of them; turnW: the first i of these, the others 0. -/
def turnW (m : Int) (c i : Nat) : List Int := (List.range c).map fun j : Nat => if j < i then (j : Int) % m else 0
def turnsL (m : Int) (c : Nat) : List Int := (List.range c).map fun j : Nat => (j : Int) % m
theorem turnW_length (m : Int) (c i : Nat) : (turnW m c i).length = c := by unfold turnW; simp
theorem turnsL_length (m : Int) (c : Nat) : (turnsL m c).length = c := by unfold turnsL; simp
theorem turnW_all (m : Int) (c : Nat) : turnW m c c = turnsL m c := by
  unfold turnW turnsL
  apply List.map_congr_left
  intro j hj
  rw [if_pos (List.mem_range.1 hj)]
theorem turnW_none (m : Int) (c : Nat) : turnW m c 0 = List.replicate c 0 := by
  unfold turnW
  simp only [Nat.not_lt_zero, if_false]
  exact List.map_const' ▸ by simp
theorem turnW_at {m : Int} {c i j : Nat} (h : j < c) : (turnW m c i)[j]? = some (if j < i then (j : Int) % m else 0) := by unfold turnW; rw [List.getElem?_map, List.getElem?_range h]; rfl
theorem turnsL_at {m : Int} {c j : Nat} (h : j < c) : (turnsL m c)[j]? = some ((j : Int) % m) := by unfold turnsL; rw [List.getElem?_map, List.getElem?_range h]; rfl
theorem turnW_set (m : Int) {c i : Nat} (h : i < c) : (turnW m c i).set i ((i : Int) % m) = turnW m c (i + 1) := by
  apply List.ext_getElem?
  intro j
  by_cases hj : j < c
  · rw [List.getElem?_set, turnW_at hj, turnW_length, turnW_at hj]
    by_cases he : i = j
    · subst he
      rw [if_pos rfl, if_pos h, if_pos (Nat.lt_succ_self _)]
    · rw [if_neg he]
      by_cases hl : j < i
      · rw [if_pos hl, if_pos (by omega)]
      · rw [if_neg hl, if_neg (by omega)]
  · rw [List.getElem?_eq_none (by rw [List.length_set, turnW_length]; omega), List.getElem?_eq_none (by rw [turnW_length]; omega)]
theorem turnsL_succ (m : Int) (c : Nat) : turnsL m (c + 1) = turnsL m c ++ [(c : Int) % m] := by unfold turnsL; rw [List.range_succ]; simp
theorem turnsL_wf {m : Int} (c : Nat) (h : 1 ≤ m) (h2 : m ≤ 9223372036854775807) : ∀ x ∈ turnsL m c, intK.wf x := by
  intro x hx
  unfold turnsL at hx
  obtain ⟨j, _, rfl⟩ := List.mem_map.1 hx
  have h1 := Int.emod_nonneg (j : Int) (show m ≠ 0 by omega)
  have h3 := Int.emod_lt_of_pos (j : Int) (show 0 < m by omega)
  exact ⟨by omega, by omega⟩
theorem intflat (l : List Int) : intK.flat l = l.map (Value.int .i64) := by
  induction l with
  | nil => rfl
  | cons x r ih => show [Value.int .i64 x] ++ intK.flat r = _; rw [ih]; rfl
theorem own_set1 {w : World} {base a n cap : Nat} {Ty : TypeId} {T : List Int} (h : Own intK w base Ty (.slice (some ⟨a, 0, none⟩) n cap) T) {j : Nat} (hj : j < T.length) (y : Int) :
    Own intK (w.setCell ⟨a, j, none⟩ (.int .i64 y)) base Ty (.slice (some ⟨a, 0, none⟩) n cap) (T.set j y) := by
  unfold Own
  rw [List.length_set, intflat, List.map_set, ← intflat]
  exact row_set h (by show j < T.length * 1; omega) _
theorem infoIn : (Try.prog.info? 3).map (fun i => (i.zero, i.size, i.bytes)) = some (some (.int .i64 0), 1, 8) := by kernel_rfl
theorem info_partsP {P : Program} {t : TypeId} {z : Value} {size bytes : Nat} (h : (P.info? t).map (fun i => (i.zero, i.size, i.bytes)) = some (some z, size, bytes)) : ∃ i, P.info? t = some i ∧ i.zero = some z ∧ i.size = size ∧ i.bytes = bytes := by
  obtain ⟨i, hi, hz⟩ := Option.map_eq_some_iff.1 h
  simp only [Prod.mk.injEq] at hz
  exact ⟨i, hi, hz⟩
theorem made_ints (n : Nat) : (madeCells (Value.int IntKind.i64 0).cells (n * 1)).toList = intK.flat (List.replicate n 0) := by
  rw [intflat, Nat.mul_one]
  apply List.ext_getElem
  · simp [size_madeCells]
  · intro i h1 h2
    simp [madeCells, Nat.mod_one, Value.cells]

/-! ### the document's own -/
end Go.Proofs.Ytmggnalobfihnaa.Pk
namespace Go.Proofs.Ytmggnalobfihnaa.Mm
open Go.RowKit Rw Pk Go.Maps
set_option linter.unusedVariables false

/-! ### kinds of elements -/
structure Ev where
  w : Int
  k : Int
  a : Int
  ok : Bool
def I64 (x : Int) : Prop := -9223372036854775808 ≤ x ∧ x ≤ 9223372036854775807
def evK : Kd Ev where
  k := 4
  cells x := [.int .i64 x.w, .int .i64 x.k, .int .i64 x.a, .bool x.ok]
  wf x := I64 x.w ∧ I64 x.k ∧ I64 x.a
  len _ := rfl
  one x u hu := by simp at hu; rcases hu with rfl | rfl | rfl | rfl <;> rfl
def u64K : Kd Int where
  k := 1
  cells x := [.int .u64 x]
  wf x := 0 ≤ x ∧ x ≤ 18446744073709551615
  len _ := rfl
  one x u hu := by simp at hu; subst hu; rfl
/-- A slice's value. -/
structure Sv where
  ao : Option Addr
  n : Nat
  c : Nat
def Sv.val (s : Sv) : Value := .slice s.ao s.n s.c
def svK : Kd Sv where
  k := 1
  cells x := [x.val]
  wf _ := True
  len _ := rfl
  one x u hu := by simp at hu; subst hu; rfl
structure Lv where
  tk : Bool
  wh : Int
  s : Sv
def laK : Kd Lv where
  k := 3
  cells x := [.bool x.tk, .int .i64 x.wh, x.s.val]
  wf _ := True
  len _ := rfl
  one x u hu := by simp at hu; rcases hu with rfl | rfl | rfl <;> rfl
def chK : Kd Batch.Ch where
  k := 3
  cells x := [.int .i64 x.p, .int .u64 x.t, .int .i64 x.d]
  wf x := x.Wf
  len _ := rfl
  one x u hu := by simp at hu; rcases hu with rfl | rfl | rfl <;> rfl

/-! ### whose each block is -/
theorem own_of_block {α : Type} {S : Kd α} {w w' : World} {base : Nat} {T : TypeId} {v : Value} {l : List α} (h : Own S w base T v l) (hb : ∀ g, v.ownBlock = some g → w'.heap[g]? = w.heap[g]?) : Own S w' base T v l := by
  refine ⟨h.1, ?_⟩
  rcases h.2 with h2 | ⟨g, cap, cur, rfl, hg, hh, rest⟩
  · exact .inl h2
  · exact .inr ⟨g, cap, cur, rfl, hg, (hb g rfl).trans hh, rest⟩
theorem own_block_lt {α : Type} {S : Kd α} {w : World} {base : Nat} {T : TypeId} {v : Value} {l : List α} (h : Own S w base T v l) {g : Nat} (hg : v.ownBlock = some g) : g < w.heap.size := by
  rcases h.2 with ⟨rfl, _⟩ | ⟨g', cap, cur, rfl, _, hh, _⟩
  · simp [Value.ownBlock] at hg
  · simp [Value.ownBlock] at hg
    subst hg
    exact (Array.getElem?_eq_some_iff.1 hh).1
def Row {α : Type} (S : Kd α) (w : World) (τ : Nat → Nat) (t : Nat) (T : TypeId) (v : Value) (l : List α) : Prop := Own S w 0 T v l ∧ ∀ g, v.ownBlock = some g → τ g = t
/-- Blocks of other tags are as they were. -/
def Keep (τ : Nat → Nat) (t : Nat → Prop) (w w' : World) : Prop := w.heap.size ≤ w'.heap.size ∧ ∀ i, i < w.heap.size → τ i ≠ 0 → ¬ t (τ i) → w'.heap[i]? = w.heap[i]?
def Ext (n : Nat) (τ τ' : Nat → Nat) : Prop := ∀ i, i < n → τ' i = τ i
theorem Row.keep {α : Type} {S : Kd α} {w w' : World} {τ τ' : Nat → Nat} {t : Nat} {q : Nat → Prop} {T : TypeId} {v : Value} {l : List α} (h : Row S w τ t T v l) (hk : Keep τ q w w') (he : Ext w.heap.size τ τ') (h0 : t ≠ 0) (hq : ¬ q t) : Row S w' τ' t T v l := by
  refine ⟨own_of_block h.1 fun g hg => ?_, fun g hg => ?_⟩
  · have ht := h.2 g hg
    exact hk.2 g (own_block_lt h.1 hg) (by rw [ht]; exact h0) (by rw [ht]; exact hq)
  · rw [he g (own_block_lt h.1 hg)]; exact h.2 g hg

/-! ### what there is -/
structure La where
  tk : Bool
  wh : Int
  sl : List Int
structure St where
  ws : List Int
  bs : List (List Batch.Ch)
  ls : List La
  sp : Int → Bool
  lg : List Ev
  nb : Nat
structure Vs where
  vw : Value
  vb : Value
  vl : Value
  vg : Value
  mb : Nat
  bv : List Sv
  lv : List Lv
def MapAs (w : World) (mb n : Nat) (sp : Int → Bool) : Prop := ∃ D : DataW Unit, w.ownsMap Try.prog 3 (plainElem Try.prog 4) mb n D ∧ ∀ i, D.atKey (.int .i64 i) (.lit (.bool false)) = .lit (.bool (sp i))
structure MemIs (τ : Nat → Nat) (w : World) (b : Nat) (M : St) (V : Vs) : Prop where
  st : w.heap[b]? = some (.cells #[V.vw, V.vb, V.vl, .map (some V.mb), V.vg] 87 (0, 0))
  tb : τ b = 1
  ws : Row u64K w τ 2 24 V.vw M.ws
  bs : Row svK w τ 3 50 V.vb V.bv
  ls : Row laK w τ 4 102 V.vl V.lv
  mp : MapAs w V.mb M.nb M.sp
  tm : τ V.mb = 5
  lg : Row evK w τ 6 98 V.vg M.lg
  bl : V.bv.length = M.bs.length
  be : ∀ (i : Nat) s l, V.bv[i]? = some s → M.bs[i]? = some l → Row chK w τ 7 58 s.val l
  ll : V.lv.length = M.ls.length
  le : ∀ (i : Nat) x L, V.lv[i]? = some x → M.ls[i]? = some L → x.tk = L.tk ∧ x.wh = L.wh ∧ Row intK w τ (8 + i) 3 x.s.val L.sl
  tz : ∀ i, τ i ≠ 0 → i < w.heap.size
def MemAt (τ : Nat → Nat) (w : World) (b : Nat) (M : St) : Prop := ∃ V, MemIs τ w b M V
theorem MapAs.of_block {w w' : World} {mb n : Nat} {sp : Int → Bool} (h : MapAs w mb n sp) (hb : w'.heap[mb]? = w.heap[mb]?) : MapAs w' mb n sp := by
  obtain ⟨D, ⟨es, clock, h1, h2⟩, h3⟩ := h
  exact ⟨D, ⟨es, clock, hb.trans h1, h2⟩, h3⟩
theorem MapAs.lt {w : World} {mb n : Nat} {sp : Int → Bool} (h : MapAs w mb n sp) : mb < w.heap.size := by obtain ⟨D, h, _⟩ := h; exact h.lt
theorem MapAs.more {w : World} {mb n n' : Nat} {sp : Int → Bool} (h : MapAs w mb n sp) (hn : n ≤ n') : MapAs w mb n' sp := by obtain ⟨D, h, h2⟩ := h; exact ⟨D, h.mono hn, h2⟩
/-- Nothing of a Mem is changed. -/
theorem MemIs.keep {τ τ' : Nat → Nat} {w w' : World} {b : Nat} {M : St} {V : Vs} (h : MemIs τ w b M V) (hk : Keep τ (fun _ => False) w w') (he : Ext w.heap.size τ τ') (hz : ∀ i, τ' i ≠ 0 → i < w'.heap.size) : MemIs τ' w' b M V := by
  have hb := (Array.getElem?_eq_some_iff.1 h.st).1
  refine ⟨(hk.2 b hb (by rw [h.tb]; decide) id).trans h.st, by rw [he b hb]; exact h.tb, h.ws.keep hk he (by decide) id, h.bs.keep hk he (by decide) id, h.ls.keep hk he (by decide) id, h.mp.of_block (hk.2 _ h.mp.lt (by rw [h.tm]; decide) id), by rw [he _ h.mp.lt]; exact h.tm, h.lg.keep hk he (by decide) id, h.bl,
    fun i s l hs hl => (h.be i s l hs hl).keep hk he (by decide) id, h.ll, fun i x L hx hL => ?_, hz⟩
  obtain ⟨h1, h2, h3⟩ := h.le i x L hx hL
  exact ⟨h1, h2, h3.keep hk he (by omega) id⟩

/-! ### a step: what isn't a Mem's is as it was -/
structure Step (τ τ' : Nat → Nat) (w w' : World) : Prop where
  ext : Ext w.heap.size τ τ'
  bel : Below 0 w w'
  out : ∀ i, i < w.heap.size → τ i = 0 → w'.heap[i]? = w.heap[i]?
theorem Step.refl (τ : Nat → Nat) (w : World) : Step τ τ w w := ⟨fun _ _ => rfl, Below.refl _ _, fun _ _ _ => rfl⟩
theorem Step.trans {τ τ' τ'' : Nat → Nat} {w w' w'' : World} (h : Step τ τ' w w') (k : Step τ' τ'' w' w'') : Step τ τ'' w w'' := by
  have hs := h.bel.size
  exact ⟨fun i hi => (k.ext i (by omega)).trans (h.ext i hi), h.bel.trans k.bel, fun i hi h0 => (k.out i (by omega) (by rw [h.ext i hi]; exact h0)).trans (h.out i hi h0)⟩
theorem Step.of_below {τ : Nat → Nat} {w w' : World} (h : Below w.heap.size w w') : Step τ τ w w' := ⟨fun _ _ => rfl, h.mono (Nat.zero_le _), fun i hi _ => h.block i hi⟩
theorem Step.below {τ τ' : Nat → Nat} {w w' : World} (h : Step τ τ' w w') {B : Nat} (hB : B ≤ w.heap.size) (h0 : ∀ i, i < B → τ i = 0) : Below B w w' :=
  ⟨h.bel.os, h.bel.tape, h.bel.output, h.bel.size, fun k hk => h.out k (by omega) (h0 k hk)⟩
theorem MemAt.below {τ : Nat → Nat} {w w' : World} {b : Nat} {M : St} (h : MemAt τ w b M) (hw : Below w.heap.size w w') : MemAt τ w' b M := by
  obtain ⟨V, h⟩ := h
  exact ⟨V, h.keep ⟨hw.size, fun i hi _ _ => hw.block i hi⟩ (fun _ _ => rfl) fun i hi => Nat.lt_of_lt_of_le (h.tz i hi) hw.size⟩
theorem MemAt.draw {τ : Nat → Nat} {w : World} {b : Nat} {M : St} (h : MemAt τ w b M) (n : Nat) : MemAt τ (w.drewN n) b M := h.below (below_drewN (Below.refl _ _) _)
end Go.Proofs.Ytmggnalobfihnaa.Mm
