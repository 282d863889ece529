/-
  PACKAGES mem and marchlandref08: an access, by both: the same answers, and both go on alike.
-/
import Derived.Test.YtneegocbknkhjaaMemSim
namespace Go.Proofs.Ytneegocbknkhjaa.Rm
open Go.RowKit Rw Pk Mm
set_option linter.unusedVariables false

def RdoQ (σ : Nat → Nat) (b : Nat) (w : World) (x : Int) (l : List Batch.Ch) (okc : Option Bool) (R' : Rs) (e : Ending) (w' : World) : Prop := ∃ box ok', e = .returned (.tuple #[.int .u64 x, box, .bool ok']) ∧ (∀ ok, okc = some ok → ok' = ok) ∧ Batch.Rd w' box l ∧ RefP σ w b R' w'
theorem rnil (w : World) : Batch.Rd w (.slice none 0 0) [] := (Batch.Sl.nil w).rd
theorem rstay {σ : Nat → Nat} {w w' : World} {b : Nat} {R : Rs} (hR : RefAt σ w b R) (h : w = w') : RefP σ w b R w' := by subst h; exact ⟨σ, hR, Step.refl _ _⟩
theorem look_yes {M : St} {who q a : Int} (h : mayB M who q a = true) : lookS M who q a = M.note ⟨who, q, a, true⟩ := if_pos h
theorem look_no {M : St} {who q a : Int} (h : mayB M who q a = false) : lookS M who q a = M := if_neg (by rw [h]; decide)
theorem both_0 {M : St} {R : Rs} (hS : Sim M R) (who a v : Int)  : ∃ R', Sim (lookS M who 0 a) R' ∧ R'.bd.length ≤ R.bd.length + 1 ∧ ∀ (σ : Nat → Nat) (b : Nat) (w : World) (vb : Value), RefAt σ w b R → RBnd R →
    Calls Try.prog 19 #[.pointer (some ⟨b, 0, none⟩), .int .i64 who, .int .i64 0, .int .i64 a, .int .u64 v, vb] w (RdoQ σ b w (loadV M who a) ([]) (none) R') := by
  rcases hS.may (who := who) (q := 0) (a := a) (by decide) with ⟨hm, hw, h0, h1, hbed⟩ | ⟨hm, hr⟩
  · obtain ⟨i, rfl⟩ : ∃ i : Nat, a = (i : Int) := ⟨a.toNat, by omega⟩
    have hti : ((i : Int)).toNat = i := by omega
    rw [rcnt_lt (.inl rfl)] at h1
    obtain ⟨x, hx⟩ : ∃ x, R.ws[i]? = some x := ⟨_, List.getElem?_eq_getElem (by omega)⟩
    have hV : loadV M who (i : Int) = x := by unfold loadV; rw [if_pos hm, hti, List.getD_eq_getElem?_getD, ← hS.ws, hx]; rfl
    refine ⟨_, by rw [look_yes hm]; exact hS.note _, (by first | exact Nat.le_succ _ | exact Nat.le_of_eq (@List.length_append _ R.bd [_]) | exact Nat.le_succ_of_le (List.length_filter_le _ _)), fun σ b w vb hR hB => (do_load hR hB who v vb hw hbed hx).mono fun e w' ⟨he, hp⟩ => ⟨.slice none 0 0, true, by rw [he, hV], (fun _ h => by cases h), rnil _, hp⟩⟩
  · refine ⟨R, by rw [look_no hm]; exact hS, (by first | exact Nat.le_succ _ | exact Nat.le_of_eq (@List.length_append _ R.bd [_]) | exact Nat.le_succ_of_le (List.length_filter_le _ _)), fun σ b w vb hR hB => (do_no hR hB who 0 a v vb (by decide) hr).mono fun e w' ⟨he, hw⟩ => ⟨.slice none 0 0, false, by rw [he]; exact tup3 (by unfold loadV; rw [if_neg (by rw [hm]; decide)]) rfl, (fun _ h => by cases h), rnil _, rstay hR hw⟩⟩
theorem both_1 {M : St} {R : Rs} (hS : Sim M R) (who a v : Int)  : ∃ R', Sim (storeS M who a v) R' ∧ R'.bd.length ≤ R.bd.length + 1 ∧ ∀ (σ : Nat → Nat) (b : Nat) (w : World) (vb : Value), RefAt σ w b R → RBnd R →
    Calls Try.prog 19 #[.pointer (some ⟨b, 0, none⟩), .int .i64 who, .int .i64 1, .int .i64 a, .int .u64 v, vb] w (RdoQ σ b w (0) ([]) (none) R') := by
  rcases hS.may (who := who) (q := 1) (a := a) (by decide) with ⟨hm, hw, h0, h1, hbed⟩ | ⟨hm, hr⟩
  · obtain ⟨i, rfl⟩ : ∃ i : Nat, a = (i : Int) := ⟨a.toNat, by omega⟩
    have hti : ((i : Int)).toNat = i := by omega
    rw [rcnt_lt (.inr rfl)] at h1
    obtain ⟨x, hx⟩ : ∃ x, R.ws[i]? = some x := ⟨_, List.getElem?_eq_getElem (by omega)⟩
    refine ⟨_, by unfold storeS; rw [if_pos hm, hti]; exact (hS.word i v).note ⟨who, 1, (i : Int), true⟩, (by first | exact Nat.le_succ _ | exact Nat.le_of_eq (@List.length_append _ R.bd [_]) | exact Nat.le_succ_of_le (List.length_filter_le _ _)), fun σ b w vb hR hB => (do_store hR hB who v vb hw hbed hx).mono fun e w' ⟨he, hp⟩ => ⟨_, true, he, (fun _ h => by cases h), rnil _, hp⟩⟩
  · refine ⟨R, by unfold storeS; rw [if_neg (by rw [hm]; decide)]; exact hS, (by first | exact Nat.le_succ _ | exact Nat.le_of_eq (@List.length_append _ R.bd [_]) | exact Nat.le_succ_of_le (List.length_filter_le _ _)), fun σ b w vb hR hB => (do_no hR hB who 1 a v vb (by decide) hr).mono fun e w' ⟨he, hw⟩ => ⟨.slice none 0 0, false, he, (fun _ h => by cases h), rnil _, rstay hR hw⟩⟩
theorem both_2 {M : St} {R : Rs} (hS : Sim M R) (who a v : Int) (hwf : ∀ l ∈ M.bs, ∀ x ∈ l, x.Wf) : ∃ R', Sim (lookS M who 2 a) R' ∧ R'.bd.length ≤ R.bd.length + 1 ∧ ∀ (σ : Nat → Nat) (b : Nat) (w : World) (vb : Value), RefAt σ w b R → RBnd R →
    Calls Try.prog 19 #[.pointer (some ⟨b, 0, none⟩), .int .i64 who, .int .i64 2, .int .i64 a, .int .u64 v, vb] w (RdoQ σ b w (0) (getV M who a) (none) R') := by
  rcases hS.may (who := who) (q := 2) (a := a) (by decide) with ⟨hm, hw, h0, h1, hbed⟩ | ⟨hm, hr⟩
  · obtain ⟨i, rfl⟩ : ∃ i : Nat, a = (i : Int) := ⟨a.toNat, by omega⟩
    have hti : ((i : Int)).toNat = i := by omega
    rw [rcnt_mid (.inl rfl)] at h1
    obtain ⟨l, hx⟩ : ∃ l, R.bs[i]? = some l := ⟨_, List.getElem?_eq_getElem (by omega)⟩
    have hx' : M.bs[i]? = some l := by rw [← hS.bs]; exact hx
    have hV : getV M who (i : Int) = l := by unfold getV; rw [if_pos hm, hti, List.getD_eq_getElem?_getD, hx']; rfl
    refine ⟨_, by rw [look_yes hm]; exact hS.note _, (by first | exact Nat.le_succ _ | exact Nat.le_of_eq (@List.length_append _ R.bd [_]) | exact Nat.le_succ_of_le (List.length_filter_le _ _)), fun σ b w vb hR hB => (do_get hR hB who v vb hw hbed hx (hwf l (List.mem_of_getElem? hx'))).mono fun e w' ⟨vr, ⟨he, hp⟩, hrd⟩ => ⟨_, true, he, (fun _ h => by cases h), by rw [hV]; exact hrd, hp⟩⟩
  · refine ⟨R, by rw [look_no hm]; exact hS, (by first | exact Nat.le_succ _ | exact Nat.le_of_eq (@List.length_append _ R.bd [_]) | exact Nat.le_succ_of_le (List.length_filter_le _ _)), fun σ b w vb hR hB => (do_no hR hB who 2 a v vb (by decide) hr).mono fun e w' ⟨he, hw⟩ => ⟨.slice none 0 0, false, he, (fun _ h => by cases h), by rw [show getV M who a = [] from if_neg (by rw [hm]; decide)]; exact rnil _, rstay hR hw⟩⟩
theorem both_3 {M : St} {R : Rs} (hS : Sim M R) (who a v : Int) {l : List Batch.Ch} (hll : l.length ≤ 1000) : ∃ R', Sim (setS M who a l) R' ∧ R'.bd.length ≤ R.bd.length + 1 ∧ ∀ (σ : Nat → Nat) (b : Nat) (w : World) (vb : Value) (_ : Batch.Sl w vb l), RefAt σ w b R → RBnd R →
    Calls Try.prog 19 #[.pointer (some ⟨b, 0, none⟩), .int .i64 who, .int .i64 3, .int .i64 a, .int .u64 v, vb] w (RdoQ σ b w (0) ([]) (none) R') := by
  rcases hS.may (who := who) (q := 3) (a := a) (by decide) with ⟨hm, hw, h0, h1, hbed⟩ | ⟨hm, hr⟩
  · obtain ⟨i, rfl⟩ : ∃ i : Nat, a = (i : Int) := ⟨a.toNat, by omega⟩
    have hti : ((i : Int)).toNat = i := by omega
    rw [rcnt_mid (.inr rfl)] at h1
    obtain ⟨l0, hx⟩ : ∃ l, R.bs[i]? = some l := ⟨_, List.getElem?_eq_getElem (by omega)⟩
    refine ⟨_, by unfold setS; rw [if_pos hm, hti]; exact (hS.box i l).note ⟨who, 3, (i : Int), true⟩, (by first | exact Nat.le_succ _ | exact Nat.le_of_eq (@List.length_append _ R.bd [_]) | exact Nat.le_succ_of_le (List.length_filter_le _ _)), fun σ b w vb hvb hR hB => (do_set hR hB who v vb hw hbed hx hvb hll).mono fun e w' ⟨he, hp⟩ => ⟨_, true, he, (fun _ h => by cases h), rnil _, hp⟩⟩
  · refine ⟨R, by unfold setS; rw [if_neg (by rw [hm]; decide)]; exact hS, (by first | exact Nat.le_succ _ | exact Nat.le_of_eq (@List.length_append _ R.bd [_]) | exact Nat.le_succ_of_le (List.length_filter_le _ _)), fun σ b w vb _ hR hB => (do_no hR hB who 3 a v vb (by decide) hr).mono fun e w' ⟨he, hw⟩ => ⟨.slice none 0 0, false, he, (fun _ h => by cases h), rnil _, rstay hR hw⟩⟩
theorem both_4 {M : St} {R : Rs} (hS : Sim M R) (who a v : Int)  : ∃ R', Sim (takeS M who a) R' ∧ R'.bd.length ≤ R.bd.length + 1 ∧ ∀ (σ : Nat → Nat) (b : Nat) (w : World) (vb : Value), RefAt σ w b R → RBnd R →
    Calls Try.prog 19 #[.pointer (some ⟨b, 0, none⟩), .int .i64 who, .int .i64 4, .int .i64 a, .int .u64 v, vb] w (RdoQ σ b w (0) ([]) (some (takeV M who a)) R') := by
  rcases hS.may (who := who) (q := 4) (a := a) (by decide) with ⟨hm, hw, h0, h1, hbed⟩ | ⟨hm, hr⟩
  · obtain ⟨i, rfl⟩ : ∃ i : Nat, a = (i : Int) := ⟨a.toNat, by omega⟩
    have hti : ((i : Int)).toNat = i := by omega
    rw [rcnt_hi (by decide)] at h1
    obtain ⟨L, hL⟩ : ∃ L, M.ls[i]? = some L := ⟨_, List.getElem?_eq_getElem (by rw [← hS.ll]; omega)⟩
    obtain ⟨x, hx, hx1, hx2⟩ := hS.free hL
    have hla := latA_of hL
    cases ht : L.tk
    · have hV : takeV M who (i : Int) = true := by unfold takeV; rw [hm, hla, ht]; rfl
      refine ⟨_, by unfold takeS; rw [if_pos hm, hla, ht, if_neg (by decide), hti]; exact (hS.latch hL true who (fun _ => hw)).note ⟨who, 4, (i : Int), true⟩, (by first | exact Nat.le_succ _ | exact Nat.le_of_eq (@List.length_append _ R.bd [_]) | exact Nat.le_succ_of_le (List.length_filter_le _ _)), fun σ b w vb hR hB => (do_take_yes hR hB who v vb hw hbed hx (hx1.2 ht)).mono fun e w' ⟨he, hp⟩ => ⟨_, true, he, (fun _ h => by rw [hV] at h; exact Option.some.inj h), rnil _, hp⟩⟩
    · have hV : takeV M who (i : Int) = false := by unfold takeV; rw [hm, hla, ht]; rfl
      refine ⟨_, by unfold takeS; rw [if_pos hm, hla, ht, if_pos rfl]; exact hS.note ⟨who, 4, (i : Int), false⟩, (by first | exact Nat.le_succ _ | exact Nat.le_of_eq (@List.length_append _ R.bd [_]) | exact Nat.le_succ_of_le (List.length_filter_le _ _)), fun σ b w vb hR hB => (do_take_no hR hB who v vb hw hbed hx (fun h => by rw [hx1.1 h] at ht; cases ht)).mono fun e w' ⟨he, hp⟩ => ⟨.slice none 0 0, false, he, (fun _ h => by rw [hV] at h; exact Option.some.inj h), rnil _, hp⟩⟩
  · refine ⟨R, by unfold takeS; rw [if_neg (by rw [hm]; decide)]; exact hS, (by first | exact Nat.le_succ _ | exact Nat.le_of_eq (@List.length_append _ R.bd [_]) | exact Nat.le_succ_of_le (List.length_filter_le _ _)), fun σ b w vb hR hB => (do_no hR hB who 4 a v vb (by decide) hr).mono fun e w' ⟨he, hw⟩ => ⟨.slice none 0 0, false, he, (fun _ h => by unfold takeV at h; rw [hm] at h; exact Option.some.inj h), rnil _, rstay hR hw⟩⟩
theorem both_5 {M : St} {R : Rs} (hS : Sim M R) (who a v : Int)  : ∃ R', Sim (relS M who 5 a) R' ∧ R'.bd.length ≤ R.bd.length + 1 ∧ ∀ (σ : Nat → Nat) (b : Nat) (w : World) (vb : Value), RefAt σ w b R → RBnd R →
    Calls Try.prog 19 #[.pointer (some ⟨b, 0, none⟩), .int .i64 who, .int .i64 5, .int .i64 a, .int .u64 v, vb] w (RdoQ σ b w (0) ([]) (some (relV M who 5 a)) R') := by
  rcases hS.may (who := who) (q := 5) (a := a) (by decide) with ⟨hm, hw, h0, h1, hbed⟩ | ⟨hm, hr⟩
  · obtain ⟨i, rfl⟩ : ∃ i : Nat, a = (i : Int) := ⟨a.toNat, by omega⟩
    have hti : ((i : Int)).toNat = i := by omega
    rw [rcnt_hi (by decide)] at h1
    obtain ⟨L, hL⟩ : ∃ L, M.ls[i]? = some L := ⟨_, List.getElem?_eq_getElem (by rw [← hS.ll]; omega)⟩
    obtain ⟨x, hx, hx1, hx2⟩ := hS.free hL
    have hla := latA_of hL
    cases ht : hasB M who L
    · have hV : relV M who 5 (i : Int) = false := by unfold relV; rw [hm, hla, ht]; rfl
      refine ⟨_, by unfold relS; rw [if_pos hm, hla, ht, if_neg (by decide)]; exact hS.note ⟨who, 5, (i : Int), false⟩, (by first | exact Nat.le_succ _ | exact Nat.le_of_eq (@List.length_append _ R.bd [_]) | exact Nat.le_succ_of_le (List.length_filter_le _ _)), fun σ b w vb hR hB => (do_free_no hR hB who v vb hw hbed hx (fun h => by rw [(hx2 who hw).1 h] at ht; cases ht)).mono fun e w' ⟨he, hp⟩ => ⟨.slice none 0 0, false, he, (fun _ h => by rw [hV] at h; exact Option.some.inj h), rnil _, hp⟩⟩
    · have hV : relV M who 5 (i : Int) = true := by unfold relV; rw [hm, hla, ht]; rfl
      refine ⟨_, by unfold relS; rw [if_pos hm, hla, ht, if_pos rfl, hti]; exact (hS.latch hL false L.wh (fun h => by cases h)).note ⟨who, 5, (i : Int), true⟩, (by first | exact Nat.le_succ _ | exact Nat.le_of_eq (@List.length_append _ R.bd [_]) | exact Nat.le_succ_of_le (List.length_filter_le _ _)), fun σ b w vb hR hB => (do_free_yes hR hB who v vb hw hbed hx ((hx2 who hw).2 ht)).mono fun e w' ⟨he, hp⟩ => ⟨_, true, he, (fun _ h => by rw [hV] at h; exact Option.some.inj h), rnil _, hp⟩⟩
  · refine ⟨R, by unfold relS; rw [if_neg (by rw [hm]; decide)]; exact hS, (by first | exact Nat.le_succ _ | exact Nat.le_of_eq (@List.length_append _ R.bd [_]) | exact Nat.le_succ_of_le (List.length_filter_le _ _)), fun σ b w vb hR hB => (do_no hR hB who 5 a v vb (by decide) hr).mono fun e w' ⟨he, hw⟩ => ⟨.slice none 0 0, false, he, (fun _ h => by unfold relV at h; rw [hm] at h; exact Option.some.inj h), rnil _, rstay hR hw⟩⟩
theorem both_6 {M : St} {R : Rs} (hS : Sim M R) (who a v : Int)  : ∃ R', Sim (sleepS M who a) R' ∧ R'.bd.length ≤ R.bd.length + 1 ∧ ∀ (σ : Nat → Nat) (b : Nat) (w : World) (vb : Value), RefAt σ w b R → RBnd R →
    Calls Try.prog 19 #[.pointer (some ⟨b, 0, none⟩), .int .i64 who, .int .i64 6, .int .i64 a, .int .u64 v, vb] w (RdoQ σ b w (0) ([]) (some (relV M who 6 a)) R') := by
  rcases hS.may (who := who) (q := 6) (a := a) (by decide) with ⟨hm, hw, h0, h1, hbed⟩ | ⟨hm, hr⟩
  · obtain ⟨i, rfl⟩ : ∃ i : Nat, a = (i : Int) := ⟨a.toNat, by omega⟩
    have hti : ((i : Int)).toNat = i := by omega
    rw [rcnt_hi (by decide)] at h1
    obtain ⟨L, hL⟩ : ∃ L, M.ls[i]? = some L := ⟨_, List.getElem?_eq_getElem (by rw [← hS.ll]; omega)⟩
    obtain ⟨x, hx, hx1, hx2⟩ := hS.free hL
    have hla := latA_of hL
    cases ht : hasB M who L
    · have hV : relV M who 6 (i : Int) = false := by unfold relV; rw [hm, hla, ht]; rfl
      refine ⟨_, by unfold sleepS; rw [hV, if_neg (by decide)]; unfold relS; rw [if_pos hm, hla, ht, if_neg (by decide)]; exact hS.note ⟨who, 6, (i : Int), false⟩, (by first | exact Nat.le_succ _ | exact Nat.le_of_eq (@List.length_append _ R.bd [_]) | exact Nat.le_succ_of_le (List.length_filter_le _ _)), fun σ b w vb hR hB => (do_sleep_no hR hB who v vb hw hbed hx (fun h => by rw [(hx2 who hw).1 h] at ht; cases ht)).mono fun e w' ⟨he, hp⟩ => ⟨.slice none 0 0, false, he, (fun _ h => by rw [hV] at h; exact Option.some.inj h), rnil _, hp⟩⟩
    · have hV : relV M who 6 (i : Int) = true := by unfold relV; rw [hm, hla, ht]; rfl
      refine ⟨_, by
        unfold sleepS
        rw [hV, if_pos rfl, hla, hti]
        have h1 := hS.latch hL false L.wh (fun h => by cases h)
        have h2 := h1.sleep (i := i) (L := ⟨false, L.wh, L.sl⟩) (List.getElem?_set_self (List.getElem?_eq_some_iff.1 hL).1) (who := who) hbed (M.nb + 1)
        have h3 := h2.note ⟨who, 6, (i : Int), true⟩
        rw [show ({ M with ls := M.ls.set i ⟨false, L.wh, L.sl⟩ } : St).ls.set i ⟨false, L.wh, L.sl ++ [who]⟩ = M.ls.set i ⟨false, L.wh, L.sl ++ [who]⟩ from List.set_set ..] at h3
        exact h3, (by first | exact Nat.le_succ _ | exact Nat.le_of_eq (@List.length_append _ R.bd [_]) | exact Nat.le_succ_of_le (List.length_filter_le _ _)), fun σ b w vb hR hB => (do_sleep_yes hR hB who v vb hw hbed hx ((hx2 who hw).2 ht)).mono fun e w' ⟨he, hp⟩ => ⟨_, true, he, (fun _ h => by rw [hV] at h; exact Option.some.inj h), rnil _, hp⟩⟩
  · refine ⟨R, by unfold sleepS relV relS; rw [hm]; exact hS, (by first | exact Nat.le_succ _ | exact Nat.le_of_eq (@List.length_append _ R.bd [_]) | exact Nat.le_succ_of_le (List.length_filter_le _ _)), fun σ b w vb hR hB => (do_no hR hB who 6 a v vb (by decide) hr).mono fun e w' ⟨he, hw⟩ => ⟨.slice none 0 0, false, he, (fun _ h => by unfold relV at h; rw [hm] at h; exact Option.some.inj h), rnil _, rstay hR hw⟩⟩
theorem both_7 {M : St} {R : Rs} (hS : Sim M R) (who a v : Int)  : ∃ R', Sim (wakeS M who a) R' ∧ R'.bd.length ≤ R.bd.length + 1 ∧ ∀ (σ : Nat → Nat) (b : Nat) (w : World) (vb : Value), RefAt σ w b R → RBnd R →
    Calls Try.prog 19 #[.pointer (some ⟨b, 0, none⟩), .int .i64 who, .int .i64 7, .int .i64 a, .int .u64 v, vb] w (RdoQ σ b w (wakeV M who a) ([]) (none) R') := by
  rcases hS.may (who := who) (q := 7) (a := a) (by decide) with ⟨hm, hw, h0, h1, hbed⟩ | ⟨hm, hr⟩
  · obtain ⟨i, rfl⟩ : ∃ i : Nat, a = (i : Int) := ⟨a.toNat, by omega⟩
    have hti : ((i : Int)).toNat = i := by omega
    rw [rcnt_hi (by decide)] at h1
    obtain ⟨L, hL⟩ : ∃ L, M.ls[i]? = some L := ⟨_, List.getElem?_eq_getElem (by rw [← hS.ll]; omega)⟩
    obtain ⟨x, hx, hx1, hx2⟩ := hS.free hL
    have hla := latA_of hL
    have hwk : wokenB M who (i : Int) = hasB M who L := by unfold wokenB; rw [hm, hla]; rfl
    cases ht : hasB M who L
    · have hxw : (x == who) = false := by rw [beq_eq_false_iff_ne]; intro h; rw [(hx2 who hw).1 h] at ht; cases ht
      have hV : wakeV M who (i : Int) = 0 := by unfold wakeV; rw [hwk, ht]; rfl
      refine ⟨_, by unfold wakeS; rw [hwk, ht, if_neg (by decide), if_pos hm]; exact hS.note ⟨who, 7, (i : Int), false⟩, (by first | exact Nat.le_succ _ | exact Nat.le_of_eq (@List.length_append _ R.bd [_]) | exact Nat.le_succ_of_le (List.length_filter_le _ _)), fun σ b w vb hR hB => (do_wake hR hB who v vb hw hbed hx).mono fun e w' ⟨he, hp⟩ => ?_⟩
      rw [hxw, stays_none] at hp
      rw [hxw] at he
      exact ⟨.slice none 0 0, false, by rw [he]; exact tup3 (by rw [hV]; unfold woke; simp) rfl, (fun _ h => by cases h), rnil _, hp⟩
    · have hxw : (x == who) = true := by rw [beq_iff_eq]; exact (hx2 who hw).2 ht
      have hV : wakeV M who (i : Int) = (L.sl.length : Int) := by unfold wakeV; rw [hwk, ht, if_pos rfl, hla]
      refine ⟨_, by unfold wakeS; rw [hwk, ht, if_pos rfl, hla, hti]; exact (hS.wake hL).note ⟨who, 7, (i : Int), true⟩, (by first | exact Nat.le_succ _ | exact Nat.le_of_eq (@List.length_append _ R.bd [_]) | exact Nat.le_succ_of_le (List.length_filter_le _ _)), fun σ b w vb hR hB => (do_wake hR hB who v vb hw hbed hx).mono fun e w' ⟨he, hp⟩ => ?_⟩
      rw [hxw] at hp he
      exact ⟨.slice none 0 0, true, by rw [he]; exact tup3 (by rw [hV, woke_len, ← hS.sl i L hL]) rfl, (fun _ h => by cases h), rnil _, hp⟩
  · refine ⟨R, by unfold wakeS wokenB; rw [hm]; exact hS, (by first | exact Nat.le_succ _ | exact Nat.le_of_eq (@List.length_append _ R.bd [_]) | exact Nat.le_succ_of_le (List.length_filter_le _ _)), fun σ b w vb hR hB => (do_no hR hB who 7 a v vb (by decide) hr).mono fun e w' ⟨he, hw⟩ => ⟨.slice none 0 0, false, by rw [he]; exact tup3 (by unfold wakeV wokenB; rw [hm]; rfl) rfl, (fun _ h => by cases h), rnil _, rstay hR hw⟩⟩
end Go.Proofs.Ytneegocbknkhjaa.Rm
