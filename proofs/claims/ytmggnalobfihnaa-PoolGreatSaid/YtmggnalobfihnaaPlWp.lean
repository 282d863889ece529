/-
  PACKAGE pool: of n shards the round's word, what the boxes have, who has which latch (plain).
-/
import Derived.Test.YtmggnalobfihnaaPlStep
import Derived.Test.YtmggnalobfihnaaMemNew
namespace Go.Proofs.Ytmggnalobfihnaa.Pl
open Go.RowKit Rw Pk Go.Maps Mm
set_option linter.unusedVariables false
def updH (hl : Nat → Option Int) (j : Nat) (x : Option Int) : Nat → Option Int := fun i => if i = j then x else hl i
theorem updH_same (hl : Nat → Option Int) (j : Nat) (x : Option Int) : updH hl j x j = x := if_pos rfl
theorem updH_other {hl : Nat → Option Int} {j i : Nat} {x : Option Int} (h : i ≠ j) : updH hl j x i = hl i := if_neg h
structure Wp (n k : Nat) (rd : Int) (Bx : Nat → List Batch.Ch) (hl : Nat → Option Int) (M : Mm.St) : Prop where
  good : Mm.Good (n + 3) (n + 1) (n + 1) k M
  sp : ∀ z, M.sp z = false
  w2 : M.ws[2]? = some rd
  bx : ∀ j : Nat, j < n → M.bs[1 + j]? = some (Bx j)
  la : ∀ j : Nat, j < n → ∃ L, M.ls[1 + j]? = some L ∧ L.tk = (hl j).isSome ∧ ∀ z, hl j = some z → L.wh = z
  l0 : ∃ L, M.ls[0]? = some L ∧ L.tk = false
section
variable {n k i : Nat} {rd who v z : Int} {Bx : Nat → List Batch.Ch} {hl : Nat → Option Int} {M : Mm.St} {l : List Batch.Ch}
theorem Wp.more (h : Wp n k rd Bx hl M) {k' : Nat} (hk : k ≤ k') : Wp n k' rd Bx hl M := ⟨h.good.more hk, h.sp, h.w2, h.bx, h.la, h.l0⟩
theorem Wp.mayW (h : Wp n k rd Bx hl M) (hw : 0 ≤ who) {q : Int} (hq : q = 0 ∨ q = 1) : mayB M who q 2 = true := by
  have h4 := h.good.a
  unfold mayB thB cnt
  rw [if_pos hq, h4, h.sp]
  simp
  omega
theorem Wp.mayX (h : Wp n k rd Bx hl M) (hw : 0 ≤ who) {q : Int} (hq : q = 2 ∨ q = 3) (hi : i < n) : mayB M who q (1 + (i : Int)) = true := by
  have h4 := h.good.b
  unfold mayB thB cnt
  rw [if_neg (by omega), if_pos hq, h4, h.sp]
  simp
  omega
theorem Wp.mayL (h : Wp n k rd Bx hl M) (hw : 0 ≤ who) {q : Int} (hq : q = 4 ∨ q = 5) (hi : i < n) : mayB M who q (1 + (i : Int)) = true := by
  have h4 := h.good.c
  unfold mayB thB cnt
  rw [if_neg (by omega), if_neg (by omega), h4, h.sp]
  simp
  omega
theorem ev_wf (hwi : I64 who) {q a : Int} {b : Bool} (hq : 0 ≤ q ∧ q ≤ 7) (ha : I64 a) : evK.wf ⟨who, q, a, b⟩ := wf_ev hwi hq ha
theorem Wp.note (h : Wp n k rd Bx hl M) {e : Ev} (he : evK.wf e) : Wp n (k + 1) rd Bx hl (M.note e) := ⟨h.good.note he, h.sp, h.w2, h.bx, h.la, h.l0⟩
theorem nat1 (i : Nat) : (1 + (i : Int)).toNat = 1 + i := by omega
theorem i64_1 {i n : Nat} (hi : i < n) (hn : n ≤ 8) : I64 (1 + (i : Int)) := ⟨by omega, by omega⟩
/-! ### the word -/
theorem Wp.load (h : Wp n k rd Bx hl M) (hw : 0 ≤ who) : loadV M who 2 = rd := by
  unfold loadV
  rw [if_pos (h.mayW hw (.inl rfl)), List.getD_eq_getElem?_getD, show (2 : Int).toNat = 2 from rfl, h.w2]
  rfl
theorem Wp.look0 (h : Wp n k rd Bx hl M) (hw : 0 ≤ who) (hwi : I64 who) : lookS M who 0 2 = M.note ⟨who, 0, 2, true⟩ ∧ Wp n (k + 1) rd Bx hl (M.note ⟨who, 0, 2, true⟩) :=
  ⟨by unfold lookS; rw [if_pos (h.mayW hw (.inl rfl))], h.note (ev_wf hwi (by decide) ⟨by decide, by decide⟩)⟩
theorem Wp.store2 (h : Wp n k rd Bx hl M) (hw : 0 ≤ who) (hwi : I64 who) (v : Int) : (storeS M who 2 v).lg = M.lg ++ [⟨who, 1, 2, true⟩] ∧ Wp n (k + 1) v Bx hl (storeS M who 2 v) := by
  have hg := h.good.store (who := who) (a := 2) (v := v) hwi ⟨by decide, by decide⟩
  have h4 := h.good.a
  unfold storeS at *
  rw [if_pos (h.mayW hw (.inr rfl))] at *
  exact ⟨rfl, hg, h.sp, List.getElem?_set_self (by show (2 : Int).toNat < M.ws.length; rw [h4]; simp), h.bx, h.la, h.l0⟩
/-! ### the boxes -/
theorem Wp.get (h : Wp n k rd Bx hl M) (hw : 0 ≤ who) (hi : i < n) : getV M who (1 + (i : Int)) = Bx i := by
  unfold getV
  rw [if_pos (h.mayX hw (.inl rfl) hi), List.getD_eq_getElem?_getD, nat1, h.bx i hi]
  rfl
theorem Wp.look2 (h : Wp n k rd Bx hl M) (hw : 0 ≤ who) (hwi : I64 who) (hi : i < n) (hn : n ≤ 8) : lookS M who 2 (1 + (i : Int)) = M.note ⟨who, 2, 1 + (i : Int), true⟩ ∧ Wp n (k + 1) rd Bx hl (M.note ⟨who, 2, 1 + (i : Int), true⟩) :=
  ⟨by unfold lookS; rw [if_pos (h.mayX hw (.inl rfl) hi)], h.note (ev_wf hwi (by decide) (i64_1 hi hn))⟩
theorem Wp.wf (h : Wp n k rd Bx hl M) (hi : i < n) : (Bx i).length ≤ 20000 ∧ ∀ x ∈ Bx i, x.Wf := h.good.bx _ (List.mem_of_getElem? (h.bx i hi))
theorem Wp.set (h : Wp n k rd Bx hl M) (hw : 0 ≤ who) (hwi : I64 who) (hi : i < n) (hn : n ≤ 8) (hl' : l.length ≤ 20000 ∧ ∀ x ∈ l, x.Wf) : (setS M who (1 + (i : Int)) l).lg = M.lg ++ [⟨who, 3, 1 + (i : Int), true⟩] ∧ Wp n (k + 1) rd (boxB Bx i l) hl (setS M who (1 + (i : Int)) l) := by
  have hg := h.good.set (who := who) (a := 1 + (i : Int)) hwi (i64_1 hi hn) hl'
  have h4 := h.good.b
  unfold setS at *
  rw [if_pos (h.mayX hw (.inr rfl) hi)] at *
  refine ⟨rfl, hg, h.sp, h.w2, fun j hj => ?_, h.la, h.l0⟩
  show (M.bs.set (1 + (i : Int)).toNat l)[1 + j]? = some (boxB Bx i l j)
  rw [nat1]
  unfold boxB
  by_cases e : j = i
  · subst e
    rw [if_pos rfl, List.getElem?_set_self (by omega)]
  · rw [if_neg e, List.getElem?_set_ne (by omega)]
    exact h.bx j hj
/-! ### the latches -/
theorem Wp.lat (h : Wp n k rd Bx hl M) (hi : i < n) : ∃ L, M.ls[1 + i]? = some L ∧ latA M (1 + (i : Int)) = L ∧ L.tk = (hl i).isSome ∧ ∀ z, hl i = some z → L.wh = z := by
  obtain ⟨L, h1, h2, h3⟩ := h.la i hi
  refine ⟨L, h1, ?_, h2, h3⟩
  have := latA_of (M := M) (i := 1 + i) h1
  rwa [show ((1 + i : Nat) : Int) = 1 + (i : Int) by omega] at this
theorem Wp.take (h : Wp n k rd Bx hl M) (hw : 0 ≤ who) (hwi : I64 who) (hi : i < n) (hn : n ≤ 8) (hf : hl i = none) : takeV M who (1 + (i : Int)) = true ∧ (takeS M who (1 + (i : Int))).lg = M.lg ++ [⟨who, 4, 1 + (i : Int), true⟩] ∧ Wp n (k + 1) rd Bx (updH hl i (some who)) (takeS M who (1 + (i : Int))) := by
  obtain ⟨L, hL, hla, ht, _⟩ := h.lat hi
  rw [hf] at ht
  have hg := h.good.take (who := who) (a := 1 + (i : Int)) hwi (i64_1 hi hn)
  have hm := h.mayL hw (q := 4) (.inl rfl) hi
  have hc := h.good.c
  have hts : takeS M who (1 + (i : Int)) = { M.note ⟨who, 4, 1 + (i : Int), true⟩ with ls := M.ls.set (1 + (i : Int)).toNat ⟨true, who, L.sl⟩ } := by unfold takeS; rw [if_pos hm, hla, if_neg (by rw [ht]; simp)]
  refine ⟨by unfold takeV; rw [hm, hla, ht]; rfl, by rw [hts]; rfl, ?_⟩
  rw [hts] at hg ⊢
  refine ⟨hg, h.sp, h.w2, h.bx, fun j hj => ?_, by
    obtain ⟨L0, z1, z2⟩ := h.l0
    refine ⟨L0, ?_, z2⟩
    show (M.ls.set (1 + (i : Int)).toNat ⟨true, who, L.sl⟩)[0]? = some L0
    rw [nat1, List.getElem?_set_ne (by omega)]
    exact z1⟩
  show ∃ L', (M.ls.set (1 + (i : Int)).toNat ⟨true, who, L.sl⟩)[1 + j]? = some L' ∧ _
  rw [nat1]
  by_cases e : j = i
  · subst e
    rw [List.getElem?_set_self (by omega), updH_same]
    exact ⟨_, rfl, rfl, fun z hz => by simpa using hz⟩
  · rw [List.getElem?_set_ne (by omega), updH_other e]
    exact h.la j hj
theorem Wp.free (h : Wp n k rd Bx hl M) (hw : 0 ≤ who) (hwi : I64 who) (hi : i < n) (hn : n ≤ 8) (hf : hl i = some who) : relV M who 5 (1 + (i : Int)) = true ∧ (relS M who 5 (1 + (i : Int))).lg = M.lg ++ [⟨who, 5, 1 + (i : Int), true⟩] ∧ Wp n (k + 1) rd Bx (updH hl i none) (relS M who 5 (1 + (i : Int))) := by
  obtain ⟨L, hL, hla, ht, hwh⟩ := h.lat hi
  have hwh' := hwh who hf
  rw [hf] at ht
  have hg := h.good.rel (who := who) (q := 5) (a := 1 + (i : Int)) hwi (by decide) (i64_1 hi hn)
  have hm := h.mayL hw (q := 5) (.inr rfl) hi
  have hc := h.good.c
  have hb : hasB M who L = true := by
    unfold hasB
    rw [ht, hwh']
    simp
  have hrs : relS M who 5 (1 + (i : Int)) = { M.note ⟨who, 5, 1 + (i : Int), true⟩ with ls := M.ls.set (1 + (i : Int)).toNat ⟨false, L.wh, L.sl⟩ } := by unfold relS; rw [if_pos hm, hla, if_pos hb]
  refine ⟨by unfold relV; rw [hm, hla, hb]; rfl, by rw [hrs]; rfl, ?_⟩
  rw [hrs] at hg ⊢
  refine ⟨hg, h.sp, h.w2, h.bx, fun j hj => ?_, by
    obtain ⟨L0, z1, z2⟩ := h.l0
    refine ⟨L0, ?_, z2⟩
    show (M.ls.set (1 + (i : Int)).toNat ⟨false, L.wh, L.sl⟩)[0]? = some L0
    rw [nat1, List.getElem?_set_ne (by omega)]
    exact z1⟩
  show ∃ L', (M.ls.set (1 + (i : Int)).toNat ⟨false, L.wh, L.sl⟩)[1 + j]? = some L' ∧ _
  rw [nat1]
  by_cases e : j = i
  · subst e
    rw [List.getElem?_set_self (by omega), updH_same]
    exact ⟨_, rfl, rfl, fun z hz => by cases hz⟩
  · rw [List.getElem?_set_ne (by omega), updH_other e]
    exact h.la j hj
theorem wp_init (n : Nat) : Wp n 0 0 (fun _ => []) (fun _ => none) (initS (n + 3) (n + 1) (n + 1)) :=
  ⟨good_init _ _ _, fun _ => rfl, by simp [initS], fun j hj => by
    simp only [initS]
    rw [List.getElem?_replicate, if_pos (by omega)], fun j hj => ⟨⟨false, 0, []⟩, by
    simp only [initS]
    rw [List.getElem?_replicate, if_pos (by omega)], rfl, fun z hz => by cases hz⟩, ⟨⟨false, 0, []⟩, by
    simp only [initS]
    rw [List.getElem?_replicate, if_pos (by omega)], rfl⟩⟩
end
/-! ### Step, by the access that is next -/
/-- Behind a Step that made an access. -/
def PsQ (n0 : Nat) (w0 wr : World) (fs zs : List Nat) (a s : Nat) (S : Pi) (A : Pa) (P : List Int) (D : List (Int × Int)) (B : Nat → List Batch.Ch) (T : List Batch.Ch) (rd : Int) (ev : Ev) (M : Mm.St) (W : Mm.St → Prop) (Z : Nat) (e : Ending) (w' : World) : Prop :=
  e = .returned (.bool (decide (D = []))) ∧ ∃ M' zs' bx tk dv, W M' ∧ M'.lg = M.lg ++ [ev] ∧ (∀ j ∈ zs, j ∈ zs') ∧ (∀ j ∈ zs', j ∈ zs ∨ Z ≤ j) ∧ (∀ g, Blk { A with bx := bx, tk := tk, rd := rd, dv := dv } g → Blk A g ∨ Z ≤ g) ∧
    Pg n0 w0 wr fs zs' a s S (mkP { A with bx := bx, tk := tk, rd := rd, dv := dv } D ((M.lg.length + 1 : Nat) : Int)) P D B T M' w'
section
variable {n0 a s p n k i : Nat} {w0 wr w : World} {fs zs : List Nat} {A : Pa} {P : List Int} {D : List (Int × Int)} {B Bx : Nat → List Batch.Ch} {T l : List Batch.Ch} {M : Mm.St} {hl : Nat → Option Int} {rd0 : Int}
theorem StQ.ps {B' : Nat → List Batch.Ch} {T' : List Batch.Ch} {M' : Mm.St} {S : Pi} {rd : Int} {ev : Ev} {W : Mm.St → Prop} {Z : Nat} {e : Ending} {w' : World} (h : StQ n0 w0 wr fs zs a s S A P D B' T' M' rd A.ok Z e w') (hW : W M') (hlg : M'.lg = M.lg ++ [ev]) : PsQ n0 w0 wr fs zs a s S A P D B' T' rd ev M W Z e w' := by
  obtain ⟨h1, zs', bx, tk, dv, h2, h3, h4, h5⟩ := h
  have e1 : M'.lg.length = M.lg.length + 1 := by rw [hlg]; simp
  rw [e1] at h5
  exact ⟨h1, M', zs', bx, tk, dv, hW, hlg, h2, h3, h4, h5⟩
theorem ps_take (h : Pg n0 w0 wr fs zs a s ⟨p, 2, 1, 1, n⟩ A P ((4, (i : Int)) :: D) B T M w) (hw : Wp n k rd0 Bx hl M) (hwho : 0 ≤ A.who ∧ A.who ≤ 1000) (hi : i < n) (hn : n ≤ 8) (hk : k ≤ 90000) (hf : hl i = none) :
    Calls Try.prog 13 #[.pointer (some ⟨a, 0, none⟩)] w (PsQ n0 w0 wr fs zs a s ⟨p, 2, 1, 1, n⟩ A P D B T A.rd ⟨A.who, 4, 1 + (i : Int), true⟩ M (Wp n (k + 1) rd0 Bx (updH hl i (some A.who))) w.heap.size) := by
  have hwi : I64 A.who := ⟨by omega, by omega⟩
  obtain ⟨t1, t2, t3⟩ := hw.take hwho.1 hwi hi hn hf
  refine (plstep_yes (B' := B) (T' := T) (M' := takeS M A.who (1 + (i : Int))) (rd := A.rd) (ok := A.ok) (x1 := (4, (i : Int))) h (hw.sp _) hwi ?_).mono fun e w' hq => hq.ps t3 t2
  exact (pldo_take h (hw.sp _) hw.good (by omega) (by omega) (by omega) (by omega) hwi (by omega) ⟨by show (0 : Int) ≤ 1; decide, by show (1 : Int) ≤ 100000; decide⟩ t1).mono fun e w' hq => hq.two
theorem ps_takeno (h : Pg n0 w0 wr fs zs a s ⟨p, 2, 1, 1, n⟩ A P ((4, (i : Int)) :: D) B T M w) (hw : Wp n k rd0 Bx hl M) (hwho : 0 ≤ A.who ∧ A.who ≤ 1000) (hi : i < n) (hn : n ≤ 8) (hk : k ≤ 90000) {z : Int} (hf : hl i = some z) (hz : 0 ≤ z) :
    Calls Try.prog 13 #[.pointer (some ⟨a, 0, none⟩)] w fun e w' => e = .returned (.bool false) ∧ ∃ zs', (∀ j ∈ zs, j ∈ zs') ∧ (∀ j ∈ zs', j ∈ zs ∨ w.heap.size ≤ j) ∧ Wp n (k + 1) rd0 Bx hl (M.note ⟨A.who, 4, 1 + (i : Int), false⟩) ∧ Pg n0 w0 wr fs zs' a s ⟨p, 2, 1, 1, n⟩ A P ((4, (i : Int)) :: D) B T (M.note ⟨A.who, 4, 1 + (i : Int), false⟩) w' := by
  have hwi : I64 A.who := ⟨by omega, by omega⟩
  obtain ⟨L, h1, h2, h3, h4⟩ := hw.lat hi
  have hwp := hw.note (e := ⟨A.who, 4, 1 + (i : Int), false⟩) (ev_wf hwi (by decide) (i64_1 hi hn))
  refine plstep_no (x := (4, (i : Int))) h (hw.sp _) hwi ((pldo_takeno (j := 1 + i) (L := L) h (hw.sp _) hw.good (by omega) (by omega) (by omega) (by omega) hwi (by omega) ⟨by show (0 : Int) ≤ 1; decide, by show (1 : Int) ≤ 100000; decide⟩ (by show (1 : Int) + (i : Int) = _; omega) h1 (by rw [h3, hf]; rfl) (by rw [h4 z hf]; exact hz) (hw.mayL hwho.1 (.inl rfl) hi)).mono fun e w' ⟨q1, zs', q2, q3, q4⟩ => ⟨q1, zs', q2, q3, hwp, q4⟩)
theorem ps_getp (h : Pg n0 w0 wr fs zs a s ⟨p, 2, 1, 1, n⟩ A P ((2, (i : Int)) :: D) B T M w) (hw : Wp n k rd0 Bx hl M) (hwho : 0 ≤ A.who ∧ A.who ≤ 1000) (hi : i < n) (hn : n ≤ 8) (hk : k ≤ 90000) (hdr : A.dr = false) (hsB : Batch.Sorted (B i)) (hsX : Batch.Sorted (Bx i)) (hlB : (B i).length ≤ 1000) (hok : Batch.sumsE (Bx i ++ B i) = 0) :
    Calls Try.prog 13 #[.pointer (some ⟨a, 0, none⟩)] w (PsQ n0 w0 wr fs zs a s ⟨p, 2, 1, 1, n⟩ A P D (boxB B i (Batch.sumsR (Bx i ++ B i))) T A.rd ⟨A.who, 2, 1 + (i : Int), true⟩ M (Wp n (k + 1) rd0 Bx hl) w.heap.size) := by
  have hwi : I64 A.who := ⟨by omega, by omega⟩
  obtain ⟨t1, t2⟩ := hw.look2 hwho.1 hwi hi hn
  have hg := hw.get hwho.1 hi
  have hlen := (hw.wf hi).1
  refine (plstep_yes (B' := boxB B i (Batch.sumsR (Bx i ++ B i))) (T' := T) (M' := M.note ⟨A.who, 2, 1 + (i : Int), true⟩) (rd := A.rd) (ok := A.ok) (x1 := (2, (i : Int))) h (hw.sp _) hwi ?_).mono fun e w' hq => hq.ps t2 rfl
  refine (pldo_getp (i := i) h (hw.sp _) hw.good (by omega) (by omega) (by omega) (by omega) hwi (by omega) ⟨by show (0 : Int) ≤ 1; decide, by show (1 : Int) ≤ 100000; decide⟩ hdr hsB (by show Batch.Sorted (getV M A.who (1 + (i : Int))); rw [hg]; exact hsX) (by show (getV M A.who (1 + (i : Int))).length + _ ≤ _; rw [hg]; omega) (by show Batch.sumsE (getV M A.who (1 + (i : Int)) ++ _) = 0; rw [hg]; exact hok)).mono fun e w' hq => ?_
  have hq' : DoQ n0 w0 wr fs zs a s ⟨p, 2, 1, 1, n⟩ A P ((2, (i : Int)) :: D) (boxB B i (Batch.sumsR (getV M A.who (1 + (i : Int)) ++ B i))) T (lookS M A.who 2 (1 + (i : Int))) A.rd w.heap.size e w' := hq
  rw [hg, t1] at hq'
  exact hq'.two
theorem ps_getd (h : Pg n0 w0 wr fs zs a s ⟨p, 2, 1, 1, n⟩ A P ((2, (i : Int)) :: D) B T M w) (hw : Wp n k rd0 Bx hl M) (hwho : 0 ≤ A.who ∧ A.who ≤ 1000) (hi : i < n) (hn : n ≤ 8) (hk : k ≤ 90000) (hdr : A.dr = true) (hsT : Batch.Sorted T) (hsX : Batch.Sorted (Bx i)) (hlT : T.length ≤ 60000) :
    Calls Try.prog 13 #[.pointer (some ⟨a, 0, none⟩)] w (PsQ n0 w0 wr fs zs a s ⟨p, 2, 1, 1, n⟩ A P D B (Batch.sumsR (T ++ Bx i)) A.rd ⟨A.who, 2, 1 + (i : Int), true⟩ M (Wp n (k + 1) rd0 Bx hl) w.heap.size) := by
  have hwi : I64 A.who := ⟨by omega, by omega⟩
  obtain ⟨t1, t2⟩ := hw.look2 hwho.1 hwi hi hn
  have hg := hw.get hwho.1 hi
  have hlen := (hw.wf hi).1
  refine (plstep_yes (B' := B) (T' := Batch.sumsR (T ++ Bx i)) (M' := M.note ⟨A.who, 2, 1 + (i : Int), true⟩) (rd := A.rd) (ok := A.ok) (x1 := (2, (i : Int))) h (hw.sp _) hwi ?_).mono fun e w' hq => hq.ps t2 rfl
  refine (pldo_getd (i := i) h (hw.sp _) hw.good (by omega) (by omega) (by omega) (by omega) hwi (by omega) ⟨by show (0 : Int) ≤ 1; decide, by show (1 : Int) ≤ 100000; decide⟩ hdr hsT (by show Batch.Sorted (getV M A.who (1 + (i : Int))); rw [hg]; exact hsX) (by show _ + (getV M A.who (1 + (i : Int))).length ≤ _; rw [hg]; omega)).mono fun e w' hq => ?_
  have hq' : DoQ n0 w0 wr fs zs a s ⟨p, 2, 1, 1, n⟩ A P ((2, (i : Int)) :: D) B (Batch.sumsR (T ++ getV M A.who (1 + (i : Int)))) (lookS M A.who 2 (1 + (i : Int))) A.rd w.heap.size e w' := hq
  rw [hg, t1] at hq'
  exact hq'.two
theorem ps_set (h : Pg n0 w0 wr fs zs a s ⟨p, 2, 1, 1, n⟩ A P ((3, (i : Int)) :: D) B T M w) (hw : Wp n k rd0 Bx hl M) (hwho : 0 ≤ A.who ∧ A.who ≤ 1000) (hi : i < n) (hn : n ≤ 8) (hk : k ≤ 90000) (hlB : (B i).length ≤ 20000) :
    Calls Try.prog 13 #[.pointer (some ⟨a, 0, none⟩)] w (PsQ n0 w0 wr fs zs a s ⟨p, 2, 1, 1, n⟩ A P D B T A.rd ⟨A.who, 3, 1 + (i : Int), true⟩ M (Wp n (k + 1) rd0 (boxB Bx i (B i)) hl) w.heap.size) := by
  have hwi : I64 A.who := ⟨by omega, by omega⟩
  obtain ⟨t2, t3⟩ := hw.set hwho.1 hwi hi hn ⟨hlB, (h.bx i (by omega)).wf⟩
  refine (plstep_yes (B' := B) (T' := T) (M' := setS M A.who (1 + (i : Int)) (B i)) (rd := A.rd) (ok := A.ok) (x1 := (3, (i : Int))) h (hw.sp _) hwi ?_).mono fun e w' hq => hq.ps t3 t2
  exact (pldo_set h (hw.sp _) hw.good (by omega) (by omega) (by omega) (by omega) hwi (by omega) ⟨by show (0 : Int) ≤ 1; decide, by show (1 : Int) ≤ 100000; decide⟩ hlB).mono fun e w' hq => hq.two
theorem ps_load (h : Pg n0 w0 wr fs zs a s ⟨p, 2, 1, 1, n⟩ A P ((0, 0) :: D) B T M w) (hw : Wp n k rd0 Bx hl M) (hwho : 0 ≤ A.who ∧ A.who ≤ 1000) (hn : n ≤ 8) (hk : k ≤ 90000) :
    Calls Try.prog 13 #[.pointer (some ⟨a, 0, none⟩)] w (PsQ n0 w0 wr fs zs a s ⟨p, 2, 1, 1, n⟩ A P D B T rd0 ⟨A.who, 0, 2, true⟩ M (Wp n (k + 1) rd0 Bx hl) w.heap.size) := by
  have hwi : I64 A.who := ⟨by omega, by omega⟩
  obtain ⟨t1, t2⟩ := hw.look0 hwho.1 hwi
  have hg := hw.load hwho.1
  refine (plstep_yes (B' := B) (T' := T) (M' := M.note ⟨A.who, 0, 2, true⟩) (rd := rd0) (ok := A.ok) (x1 := (0, 0)) h (hw.sp _) hwi ?_).mono fun e w' hq => hq.ps t2 rfl
  refine (pldo_load (i := 0) h (hw.sp _) hw.good (by omega) (by omega) (by omega) (by omega) hwi ⟨by show (0 : Int) ≤ 2; decide, by show (2 : Int) ≤ 100000; decide⟩).mono fun e w' hq => ?_
  have hq' : DoQ n0 w0 wr fs zs a s ⟨p, 2, 1, 1, n⟩ A P ((0, 0) :: D) B T (lookS M A.who 0 2) (loadV M A.who 2) w.heap.size e w' := hq
  rw [hg, t1] at hq'
  exact hq'.two
theorem ps_store (h : Pg n0 w0 wr fs zs a s ⟨p, 2, 1, 1, n⟩ A P ((1, 0) :: D) B T M w) (hw : Wp n k rd0 Bx hl M) (hwho : 0 ≤ A.who ∧ A.who ≤ 1000) (hn : n ≤ 8) (hk : k ≤ 90000) (hrd : 0 ≤ A.rd ∧ A.rd ≤ 1000000) :
    Calls Try.prog 13 #[.pointer (some ⟨a, 0, none⟩)] w (PsQ n0 w0 wr fs zs a s ⟨p, 2, 1, 1, n⟩ A P D B T (A.rd + 1) ⟨A.who, 1, 2, true⟩ M (Wp n (k + 1) (A.rd + 1) Bx hl) w.heap.size) := by
  have hwi : I64 A.who := ⟨by omega, by omega⟩
  obtain ⟨t2, t3⟩ := hw.store2 hwho.1 hwi (A.rd + 1)
  refine (plstep_yes (B' := B) (T' := T) (M' := storeS M A.who 2 (A.rd + 1)) (rd := A.rd + 1) (ok := A.ok) (x1 := (1, 0)) h (hw.sp _) hwi ?_).mono fun e w' hq => hq.ps t3 t2
  exact (pldo_store (i := 0) h (hw.sp _) hw.good (by omega) (by omega) (by omega) (by omega) hwi ⟨by show (0 : Int) ≤ 2; decide, by show (2 : Int) ≤ 100000; decide⟩ hrd).mono fun e w' hq => hq.two
theorem ps_free (h : Pg n0 w0 wr fs zs a s ⟨p, 2, 1, 1, n⟩ A P ((5, (i : Int)) :: D) B T M w) (hw : Wp n k rd0 Bx hl M) (hwho : 0 ≤ A.who ∧ A.who ≤ 1000) (hi : i < n) (hn : n ≤ 8) (hk : k ≤ 90000) (hf : hl i = some A.who) :
    Calls Try.prog 13 #[.pointer (some ⟨a, 0, none⟩)] w (PsQ n0 w0 wr fs zs a s ⟨p, 2, 1, 1, n⟩ A P D B T A.rd ⟨A.who, 5, 1 + (i : Int), true⟩ M (Wp n (k + 1) rd0 Bx (updH hl i none)) w.heap.size) := by
  have hwi : I64 A.who := ⟨by omega, by omega⟩
  obtain ⟨t1, t2, t3⟩ := hw.free hwho.1 hwi hi hn hf
  refine (plstep_yes (B' := B) (T' := T) (M' := relS M A.who 5 (1 + (i : Int))) (rd := A.rd) (ok := A.ok) (x1 := (5, (i : Int))) h (hw.sp _) hwi ?_).mono fun e w' hq => hq.ps t3 t2
  exact (pldo_free h (hw.sp _) hw.good (by omega) (by omega) (by omega) (by omega) hwi (by omega) ⟨by show (0 : Int) ≤ 1; decide, by show (1 : Int) ≤ 100000; decide⟩).mono fun e w' hq => hq.two
end
end Go.Proofs.Ytmggnalobfihnaa.Pl
