/-
  PACKAGE marchlandref08, MEMORY: the document's own Mem as it lies there.
-/
import Derived.Test.YtneegocbknkhjaaMemTake
namespace Go.Proofs.Ytneegocbknkhjaa.Rm
open Go.RowKit Rw Pk Mm
set_option linter.unusedVariables false

def pairK : Kd (Int × Int) where
  k := 2
  cells x := [.int .i64 x.1, .int .i64 x.2]
  wf x := I64 x.1 ∧ I64 x.2
  len _ := rfl
  one x u hu := by simp at hu; rcases hu with rfl | rfl <;> rfl
structure Rs where
  ws : List Int
  bs : List (List Batch.Ch)
  la : List Int
  bd : List (Int × Int)
  lg : List Ev
structure Vr where
  vw : Value
  vb : Value
  vl : Value
  vd : Value
  vg : Value
  bv : List Sv
structure RefIs (τ : Nat → Nat) (w : World) (b : Nat) (R : Rs) (V : Vr) : Prop where
  st : w.heap[b]? = some (.cells #[V.vw, V.vb, V.vl, V.vd, V.vg] 50 (0, 0))
  tb : τ b = 1
  ws : Row u64K w τ 2 30 V.vw R.ws
  bs : Row svK w τ 3 31 V.vb V.bv
  la : Row intK w τ 4 3 V.vl R.la
  bd : Row pairK w τ 5 94 V.vd R.bd
  lg : Row evK w τ 6 131 V.vg R.lg
  bl : V.bv.length = R.bs.length
  be : ∀ (i : Nat) s l, V.bv[i]? = some s → R.bs[i]? = some l → Row chK w τ 7 119 s.val l
  tz : ∀ i, τ i ≠ 0 → i < w.heap.size
def RefAt (τ : Nat → Nat) (w : World) (b : Nat) (R : Rs) : Prop := ∃ V, RefIs τ w b R V
theorem RefIs.keep {τ τ' : Nat → Nat} {w w' : World} {b : Nat} {R : Rs} {V : Vr} (h : RefIs τ w b R V) (hk : Keep τ (fun _ => False) w w') (he : Ext w.heap.size τ τ') (hz : ∀ i, τ' i ≠ 0 → i < w'.heap.size) : RefIs τ' w' b R V := by
  have hb := (Array.getElem?_eq_some_iff.1 h.st).1
  exact ⟨(hk.2 b hb (by rw [h.tb]; decide) id).trans h.st, by rw [he b hb]; exact h.tb, h.ws.keep hk he (by decide) id, h.bs.keep hk he (by decide) id, h.la.keep hk he (by decide) id, h.bd.keep hk he (by decide) id, h.lg.keep hk he (by decide) id, h.bl,
    fun i s l hs hl => (h.be i s l hs hl).keep hk he (by decide) id, hz⟩
theorem RefAt.below {τ : Nat → Nat} {w w' : World} {b : Nat} {R : Rs} (h : RefAt τ w b R) (hw : Below w.heap.size w w') : RefAt τ w' b R := by
  obtain ⟨V, h⟩ := h
  exact ⟨V, h.keep ⟨hw.size, fun i hi _ _ => hw.block i hi⟩ (fun _ _ => rfl) fun i hi => Nat.lt_of_lt_of_le (h.tz i hi) hw.size⟩
def RefP (τ : Nat → Nat) (w : World) (b : Nat) (R' : Rs) (w' : World) : Prop := ∃ τ', RefAt τ' w' b R' ∧ Step τ τ' w w'
theorem RefP.trans {τ τ' : Nat → Nat} {w w' w'' : World} {b : Nat} {R : Rs} (hs : Step τ τ' w w') (h : RefP τ' w' b R w'') : RefP τ w b R w'' := by obtain ⟨t, h1, h2⟩ := h; exact ⟨t, h1, hs.trans h2⟩
theorem RefP.drew {τ : Nat → Nat} {w w' : World} {b : Nat} {R : Rs} (h : RefP τ w b R w') : RefP τ w b R w'.drew := by
  obtain ⟨t, h1, h2⟩ := h
  exact ⟨t, h1.below (Below.refl _ _).drew, h2.trans (Step.of_below (Below.refl _ _).drew)⟩
theorem RefP.draws {τ : Nat → Nat} {w w' : World} {b : Nat} {R : Rs} (h : RefP τ w b R w') (n : Nat) : RefP τ w b R (w'.drewN n) := by
  obtain ⟨t, h1, h2⟩ := h
  exact ⟨t, h1.below (below_drewN (Below.refl _ _) n), h2.trans (Step.of_below (below_drewN (Below.refl _ _) n))⟩
/-- One of the rows, of tag t, is another one, of the same address. -/
theorem RefIs.words {τ : Nat → Nat} {w w' : World} {b : Nat} {R : Rs} {V : Vr} (h : RefIs τ w b R V) {ws : List Int} (hk : Keep τ (fun q => q = 2) w w') (hr : Row u64K w' τ 2 30 V.vw ws) : RefIs τ w' b { R with ws := ws } V := by
  have hb := (Array.getElem?_eq_some_iff.1 h.st).1
  have he := ext_refl w.heap.size τ
  exact ⟨(hk.2 b hb (by rw [h.tb]; decide) (by rw [h.tb]; decide)).trans h.st, h.tb, hr, h.bs.keep hk he (by decide) (by decide), h.la.keep hk he (by decide) (by decide), h.bd.keep hk he (by decide) (by decide), h.lg.keep hk he (by decide) (by decide), h.bl,
    fun i s l hs hl => (h.be i s l hs hl).keep hk he (by decide) (by decide), fun i hi => Nat.lt_of_lt_of_le (h.tz i hi) hk.1⟩
theorem RefIs.lats {τ : Nat → Nat} {w w' : World} {b : Nat} {R : Rs} {V : Vr} (h : RefIs τ w b R V) {la : List Int} (hk : Keep τ (fun q => q = 4) w w') (hr : Row intK w' τ 4 3 V.vl la) : RefIs τ w' b { R with la := la } V := by
  have hb := (Array.getElem?_eq_some_iff.1 h.st).1
  have he := ext_refl w.heap.size τ
  exact ⟨(hk.2 b hb (by rw [h.tb]; decide) (by rw [h.tb]; decide)).trans h.st, h.tb, h.ws.keep hk he (by decide) (by decide), h.bs.keep hk he (by decide) (by decide), hr, h.bd.keep hk he (by decide) (by decide), h.lg.keep hk he (by decide) (by decide), h.bl,
    fun i s l hs hl => (h.be i s l hs hl).keep hk he (by decide) (by decide), fun i hi => Nat.lt_of_lt_of_le (h.tz i hi) hk.1⟩
theorem RefIs.box {τ τ' : Nat → Nat} {w w' : World} {b : Nat} {R : Rs} {V : Vr} (h : RefIs τ w b R V) {i : Nat} {s : Sv} {l : List Batch.Ch} (hi : i < R.bs.length) (hk : Keep τ (fun q => q = 3) w w') (he : Ext w.heap.size τ τ')
    (hr : Row svK w' τ' 3 31 V.vb (V.bv.set i s)) (hn : Row chK w' τ' 7 119 s.val l) (hz : ∀ i, τ' i ≠ 0 → i < w'.heap.size) : RefIs τ' w' b { R with bs := R.bs.set i l } { V with bv := V.bv.set i s } := by
  have hb := (Array.getElem?_eq_some_iff.1 h.st).1
  refine ⟨(hk.2 b hb (by rw [h.tb]; decide) (by rw [h.tb]; decide)).trans h.st, by rw [he b hb]; exact h.tb, h.ws.keep hk he (by decide) (by decide), hr, h.la.keep hk he (by decide) (by decide), h.bd.keep hk he (by decide) (by decide), h.lg.keep hk he (by decide) (by decide), by simp [h.bl],
    fun j s' l' hs hl => ?_, hz⟩
  by_cases e : i = j
  · subst e
    have hs' : some s = some s' := by rw [← hs]; exact (List.getElem?_set_self (by rw [h.bl]; exact hi)).symm
    have hl' : some l = some l' := by rw [← hl]; exact (List.getElem?_set_self hi).symm
    cases hs'
    cases hl'
    exact hn
  · have hs' : V.bv[j]? = some s' := by rw [← hs]; exact (List.getElem?_set_ne e).symm
    have hl' : R.bs[j]? = some l' := by rw [← hl]; exact (List.getElem?_set_ne e).symm
    exact (h.be j s' l' hs' hl').keep hk he (by decide) (by decide)
/-- The log, or the beds, are a longer list, or one of new memory: c is the struct's cell. -/
theorem grow_tag {α : Type} {S : Kd α} {τ : Nat → Nat} {w w1 : World} {t : Nat} {T : TypeId} {v' : Value} {l : List α} (h0 : t ≠ 0) (hown : Own S w1 0 T v' l) (hblk : ∀ g, v'.ownBlock = some g → g < w.heap.size → τ g = t) (htz : ∀ i, τ i ≠ 0 → i < w.heap.size) (hs : w.heap.size ≤ w1.heap.size) :
    ∃ τ', Ext w.heap.size τ τ' ∧ (∀ g, v'.ownBlock = some g → τ' g = t) ∧ ∀ i, τ' i ≠ 0 → i < w1.heap.size := by
  refine ⟨fun i => if i < w.heap.size then τ i else if v'.ownBlock = some i then t else 0, fun i hi => if_pos hi, fun g hg => ?_, fun i hi => ?_⟩
  · by_cases hl : g < w.heap.size
    · simp only [if_pos hl]; exact hblk g hg hl
    · simp only [if_neg hl, if_pos hg]
  · by_cases hl : i < w.heap.size
    · omega
    · simp only [if_neg hl] at hi
      by_cases hv : v'.ownBlock = some i
      · exact own_block_lt hown hv
      · rw [if_neg hv] at hi; exact absurd rfl hi
theorem RefIs.log {τ : Nat → Nat} {w w1 : World} {b : Nat} {R : Rs} {V : Vr} (h : RefIs τ w b R V) {v' : Value} {lg : List Ev} (hown : Own evK w1 0 131 v' lg) (hs : w.heap.size ≤ w1.heap.size) (hbl : Below 0 w w1)
    (hold : ∀ i, i < w.heap.size → τ i ≠ 6 → w1.heap[i]? = w.heap[i]?) (hblk : ∀ g, v'.ownBlock = some g → g < w.heap.size → τ g = 6) : RefP τ w b { R with lg := lg } (w1.setCell ⟨b, 4, none⟩ v') := by
  have hb := (Array.getElem?_eq_some_iff.1 h.st).1
  obtain ⟨τ', he, ht, hz⟩ := grow_tag (by decide) hown hblk h.tz hs
  have hset : ∀ i, i ≠ b → (w1.setCell ⟨b, 4, none⟩ v').heap[i]? = w1.heap[i]? := fun i hi => Below.heap_setCell _ _ _ _ hi
  have hk : Keep τ (fun q => q = 1 ∨ q = 6) w (w1.setCell ⟨b, 4, none⟩ v') := ⟨by rw [size_setCell]; exact hs, fun i hi h0 hq => (hset i (fun e => hq (by rw [e, h.tb]; exact .inl rfl))).trans (hold i hi (fun e => hq (.inr e)))⟩
  refine ⟨τ', ⟨{ V with vg := v' }, ?_, by rw [he b hb]; exact h.tb, h.ws.keep hk he (by decide) (by decide), h.bs.keep hk he (by decide) (by decide), h.la.keep hk he (by decide) (by decide), h.bd.keep hk he (by decide) (by decide), ⟨own_of_block hown fun g hg => hset g fun e => ?_, ht⟩, h.bl,
    fun i s l hs hl => (h.be i s l hs hl).keep hk he (by decide) (by decide), fun i hi => by rw [size_setCell]; exact hz i hi⟩, ⟨he, hbl.setCell (Nat.zero_le _) _, fun i hi h0 => (hset i (fun e => by rw [e, h.tb] at h0; cases h0)).trans (hold i hi (by rw [h0]; decide))⟩⟩
  · have h1 := (hold b hb (by rw [h.tb]; decide)).trans h.st
    have h2 := heap_setCell_same w1 b 4 _ _ v' h1
    simpa using h2
  · have := ht g hg
    rw [e, he b hb, h.tb] at this
    cases this
theorem RefIs.beds {τ : Nat → Nat} {w w1 : World} {b : Nat} {R : Rs} {V : Vr} (h : RefIs τ w b R V) {v' : Value} {bd : List (Int × Int)} (hown : Own pairK w1 0 94 v' bd) (hs : w.heap.size ≤ w1.heap.size) (hbl : Below 0 w w1)
    (hold : ∀ i, i < w.heap.size → τ i ≠ 5 → w1.heap[i]? = w.heap[i]?) (hblk : ∀ g, v'.ownBlock = some g → g < w.heap.size → τ g = 5) : RefP τ w b { R with bd := bd } (w1.setCell ⟨b, 3, none⟩ v') := by
  have hb := (Array.getElem?_eq_some_iff.1 h.st).1
  obtain ⟨τ', he, ht, hz⟩ := grow_tag (by decide) hown hblk h.tz hs
  have hset : ∀ i, i ≠ b → (w1.setCell ⟨b, 3, none⟩ v').heap[i]? = w1.heap[i]? := fun i hi => Below.heap_setCell _ _ _ _ hi
  have hk : Keep τ (fun q => q = 1 ∨ q = 5) w (w1.setCell ⟨b, 3, none⟩ v') := ⟨by rw [size_setCell]; exact hs, fun i hi h0 hq => (hset i (fun e => hq (by rw [e, h.tb]; exact .inl rfl))).trans (hold i hi (fun e => hq (.inr e)))⟩
  refine ⟨τ', ⟨{ V with vd := v' }, ?_, by rw [he b hb]; exact h.tb, h.ws.keep hk he (by decide) (by decide), h.bs.keep hk he (by decide) (by decide), h.la.keep hk he (by decide) (by decide), ⟨own_of_block hown fun g hg => hset g fun e => ?_, ht⟩, h.lg.keep hk he (by decide) (by decide), h.bl,
    fun i s l hs hl => (h.be i s l hs hl).keep hk he (by decide) (by decide), fun i hi => by rw [size_setCell]; exact hz i hi⟩, ⟨he, hbl.setCell (Nat.zero_le _) _, fun i hi h0 => (hset i (fun e => by rw [e, h.tb] at h0; cases h0)).trans (hold i hi (by rw [h0]; decide))⟩⟩
  · have h1 := (hold b hb (by rw [h.tb]; decide)).trans h.st
    have h2 := heap_setCell_same w1 b 3 _ _ v' h1
    simpa using h2
  · have := ht g hg
    rw [e, he b hb, h.tb] at this
    cases this
end Go.Proofs.Ytneegocbknkhjaa.Rm
