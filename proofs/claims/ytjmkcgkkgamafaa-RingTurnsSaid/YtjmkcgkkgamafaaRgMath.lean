/-
  PACKAGE ring: what is in the words and boxes at each of both ends' accesses (plain mathematics).
-/
import Derived.Test.YtjmkcgkkgamafaaJoined7
namespace Go.Proofs.Ytjmkcgkkgamafaa.Rg
open Go.RowKit Rw Pk Go.Maps Mm
set_option linter.unusedVariables false

theorem mod_ne {a b N : Nat} (h : a < b) (h' : b < a + N) : a % N ≠ b % N := by
  intro e
  have hd : N ∣ b - a := Nat.dvd_of_mod_eq_zero (Nat.sub_mod_eq_zero_of_mod_eq e.symm)
  have := Nat.le_of_dvd (by omega) hd
  omega
/-- s, t: how many accesses the pusher's and the popper's act have made; l: what is pushed; x: what the pusher saw of the second word; b: what was got. -/
structure Gi (N : Nat) (L : List (List Batch.Ch)) (pu po s t : Nat) (l : List Batch.Ch) (x : Nat) (b : List Batch.Ch) (k : Nat) (M : St) : Prop where
  good : Mm.Good 4 (N + 2) 0 k M
  sp : ∀ z, M.sp z = false
  w1 : M.ws[1]? = some (pu : Int)
  w2 : M.ws[2]? = some (po : Int)
  ln : po + L.length = pu
  lN : L.length ≤ N
  N1 : 1 ≤ N
  bx : ∀ i z, L[i]? = some z → (i = 0 → t ≠ 4) → M.bs[1 + (po + i) % N]? = some z
  s2 : 2 ≤ s → x ≤ po ∧ pu < x + N
  s3 : s = 3 → M.bs[1 + pu % N]? = some l
  t2 : 2 ≤ t → po < pu
  t3 : 3 ≤ t → L[0]? = some b
section
variable {N pu po s t x k : Nat} {L : List (List Batch.Ch)} {l b : List Batch.Ch} {M : St} {who : Int}
theorem Gi.mayW (h : Gi N L pu po s t l x b k M) (hw : 0 ≤ who) {q a : Int} (hq : q = 0 ∨ q = 1) (ha : 0 ≤ a ∧ a ≤ 3) : mayB M who q a = true := by
  have h4 := h.good.a
  unfold mayB thB cnt
  rw [if_pos hq, h4, h.sp]
  simp
  omega
theorem Gi.mayB' (h : Gi N L pu po s t l x b k M) (hw : 0 ≤ who) {q a : Int} (hq : q = 2 ∨ q = 3) (ha : 0 ≤ a ∧ a ≤ N) : mayB M who q a = true := by
  have h4 := h.good.b
  unfold mayB thB cnt
  rw [if_neg (by omega), if_pos hq, h4, h.sp]
  simp
  omega
theorem Gi.note (h : Gi N L pu po s t l x b k M) {e : Ev} (he : evK.wf e) : Gi N L pu po s t l x b (k + 1) (M.note e) :=
  ⟨h.good.note he, h.sp, h.w1, h.w2, h.ln, h.lN, h.N1, h.bx, h.s2, h.s3, h.t2, h.t3⟩
theorem Gi.look (h : Gi N L pu po s t l x b k M) {q a : Int} (hw : I64 who) (hq : 0 ≤ q ∧ q ≤ 7) (ha : I64 a) : Gi N L pu po s t l x b (k + 1) (lookS M who q a) := by
  have hg := h.good.look hw hq ha
  unfold lookS at *
  split
  · rename_i e
    rw [if_pos e] at hg
    exact ⟨hg, h.sp, h.w1, h.w2, h.ln, h.lN, h.N1, h.bx, h.s2, h.s3, h.t2, h.t3⟩
  · rename_i e
    rw [if_neg e] at hg
    exact ⟨hg, h.sp, h.w1, h.w2, h.ln, h.lN, h.N1, h.bx, h.s2, h.s3, h.t2, h.t3⟩
theorem Gi.load1 (h : Gi N L pu po s t l x b k M) (hw : 0 ≤ who) : loadV M who 1 = pu := by
  unfold loadV
  rw [if_pos (h.mayW hw (.inl rfl) (by decide)), List.getD_eq_getElem?_getD, show (1 : Int).toNat = 1 from rfl, h.w1]
  rfl
theorem Gi.load2 (h : Gi N L pu po s t l x b k M) (hw : 0 ≤ who) : loadV M who 2 = po := by
  unfold loadV
  rw [if_pos (h.mayW hw (.inl rfl) (by decide)), List.getD_eq_getElem?_getD, show (2 : Int).toNat = 2 from rfl, h.w2]
  rfl
theorem Gi.push1 (h : Gi N L pu po 0 t l x b k M) : Gi N L pu po 1 t l x b k M := ⟨h.good, h.sp, h.w1, h.w2, h.ln, h.lN, h.N1, h.bx, by omega, by omega, h.t2, h.t3⟩
theorem Gi.push2 (h : Gi N L pu po 1 t l x b k M) (hn : L.length < N) : Gi N L pu po 2 t l po b k M := ⟨h.good, h.sp, h.w1, h.w2, h.ln, h.lN, h.N1, h.bx, fun _ => by have := h.ln; omega, by omega, h.t2, h.t3⟩
theorem Gi.pushN (h : Gi N L pu po s t l x b k M) (l' : List Batch.Ch) : Gi N L pu po 0 t l' x b k M := ⟨h.good, h.sp, h.w1, h.w2, h.ln, h.lN, h.N1, h.bx, by omega, by omega, h.t2, h.t3⟩
theorem Gi.pop1 (h : Gi N L pu po s 0 l x b k M) : Gi N L pu po s 1 l x b k M := ⟨h.good, h.sp, h.w1, h.w2, h.ln, h.lN, h.N1, fun i z hz _ => h.bx i z hz (by omega), h.s2, h.s3, by omega, by omega⟩
theorem Gi.pop2 (h : Gi N L pu po s 1 l x b k M) (hn : po < pu) : Gi N L pu po s 2 l x b k M := ⟨h.good, h.sp, h.w1, h.w2, h.ln, h.lN, h.N1, fun i z hz _ => h.bx i z hz (by omega), h.s2, h.s3, fun _ => hn, by omega⟩
theorem Gi.popN (h : Gi N L pu po s t l x b k M) (ht : t ≠ 4) : Gi N L pu po s 0 l x b k M := ⟨h.good, h.sp, h.w1, h.w2, h.ln, h.lN, h.N1, fun i z hz _ => h.bx i z hz (fun _ => ht), h.s2, h.s3, by omega, by omega⟩
theorem box_nat (n N : Nat) : (1 + (n : Int) % (N : Int)) = ((1 + n % N : Nat) : Int) := by rw [Int.natCast_add, Int.natCast_emod]; rfl
theorem Gi.setEq (h : Gi N L pu po s t l x b k M) (hw : 0 ≤ who) (n : Nat) (l' : List Batch.Ch) : setS M who (1 + (n : Int) % (N : Int)) l' = { M.note ⟨who, 3, 1 + (n : Int) % (N : Int), true⟩ with bs := M.bs.set (1 + n % N) l' } := by
  have hlt : n % N < N := Nat.mod_lt _ h.N1
  unfold setS
  rw [if_pos (h.mayB' hw (.inr rfl) (by rw [box_nat]; omega)), box_nat]
  rfl
theorem Gi.boxI (h : Gi N L pu po s t l x b k M) (hN : N ≤ 64) (n : Nat) : I64 (1 + (n : Int) % (N : Int)) := by
  have hlt : n % N < N := Nat.mod_lt _ h.N1
  rw [box_nat]
  exact ⟨by omega, by omega⟩
/-- The pusher sets its box. -/
theorem Gi.push3 (h : Gi N L pu po 2 t l x b k M) (hN : N ≤ 64) (hw : 0 ≤ who) (hwi : I64 who) (hl : l.length ≤ 1000 ∧ ∀ z ∈ l, z.Wf) : Gi N L pu po 3 t l x b (k + 1) (setS M who (1 + (pu : Int) % (N : Int)) l) := by
  obtain ⟨h2, h3⟩ := h.s2 (by omega)
  have hlt : pu % N < N := Nat.mod_lt _ h.N1
  have hg := h.good.set (who := who) (a := 1 + (pu : Int) % (N : Int)) (l := l) hwi (h.boxI hN pu) hl
  rw [h.setEq hw] at hg ⊢
  have hln := h.ln
  have hb := h.good.b
  refine ⟨hg, h.sp, h.w1, h.w2, h.ln, h.lN, h.N1, fun i z hz hi => ?_, fun _ => ⟨h2, h3⟩, fun _ => List.getElem?_set_self (by omega), h.t2, h.t3⟩
  have hi' := (List.getElem?_eq_some_iff.1 hz).1
  have hne : (po + i) % N ≠ pu % N := mod_ne (by omega) (by omega)
  exact (List.getElem?_set_ne (by omega)).trans (h.bx i z hz hi)
/-- The popper leaves its box empty. -/
theorem Gi.pop4 (h : Gi N L pu po s 3 l x b k M) (hN : N ≤ 64) (hw : 0 ≤ who) (hwi : I64 who) : Gi N L pu po s 4 l x b (k + 1) (setS M who (1 + (po : Int) % (N : Int)) []) := by
  have hlt : po % N < N := Nat.mod_lt _ h.N1
  have hg := h.good.set (who := who) (a := 1 + (po : Int) % (N : Int)) (l := []) hwi (h.boxI hN po) ⟨by simp, by simp⟩
  rw [h.setEq hw] at hg ⊢
  have hln := h.ln
  have hlN := h.lN
  have hb := h.good.b
  have ht := h.t2 (by omega)
  refine ⟨hg, h.sp, h.w1, h.w2, h.ln, h.lN, h.N1, fun i z hz hi => ?_, h.s2, fun hs => ?_, fun _ => ht, fun _ => h.t3 (by omega)⟩
  · have hi' := (List.getElem?_eq_some_iff.1 hz).1
    have hi0 : i ≠ 0 := fun e => hi e rfl
    have hne : po % N ≠ (po + i) % N := mod_ne (by omega) (by omega)
    exact (List.getElem?_set_ne (by omega)).trans (h.bx i z hz (fun e => by omega))
  · obtain ⟨h2, h3⟩ := h.s2 (by omega)
    have hne : po % N ≠ pu % N := mod_ne (by omega) (by omega)
    exact (List.getElem?_set_ne (by omega)).trans (h.s3 hs)
theorem Gi.storeEq (h : Gi N L pu po s t l x b k M) (hw : 0 ≤ who) {a : Int} (ha : 0 ≤ a ∧ a ≤ 3) (v : Int) : storeS M who a v = { M.note ⟨who, 1, a, true⟩ with ws := M.ws.set a.toNat v } := by
  unfold storeS
  rw [if_pos (h.mayW hw (.inr rfl) ha)]
/-- The push takes effect. -/
theorem Gi.push4 (h : Gi N L pu po 3 t l x b k M) (hw : 0 ≤ who) (hwi : I64 who) : Gi N (L ++ [l]) (pu + 1) po 0 t l x b (k + 1) (storeS M who 1 ((pu : Int) + 1)) := by
  have hg := h.good.store (who := who) (a := 1) (v := (pu : Int) + 1) hwi ⟨by decide, by decide⟩
  rw [h.storeEq hw (by decide)] at hg ⊢
  have hln := h.ln
  have ha := h.good.a
  obtain ⟨h2, h3⟩ := h.s2 (by omega)
  refine ⟨hg, h.sp, (List.getElem?_set_self (by omega)).trans (by simp), (List.getElem?_set_ne (by decide)).trans h.w2, by simp; omega, by simp; omega, h.N1, fun i z hz hi => ?_, by omega, by omega, fun ht => by have := h.t2 ht; omega, fun ht => ?_⟩
  · rw [List.getElem?_append] at hz
    split at hz
    · exact h.bx i z hz hi
    · rename_i hi'
      have hi1 : i < (L ++ [l]).length := by
        by_cases e : i < (L ++ [l]).length
        · exact e
        · rw [List.getElem?_eq_none (by simp at e ⊢; omega)] at hz; cases hz
      have hil : i = L.length := by simp at hi1; omega
      subst hil
      simp at hz
      subst hz
      rw [hln]
      exact h.s3 rfl
  · have := h.t2 (by omega)
    rw [List.getElem?_append_left (by omega)]
    exact h.t3 ht
/-- The popper gets what lies there. -/
theorem Gi.pop3 (h : Gi N L pu po s 2 l x b k M) (hw : 0 ≤ who) : Gi N L pu po s 3 l x (getV M who (1 + (po : Int) % (N : Int))) k M := by
  have ht := h.t2 (by omega)
  have hln := h.ln
  have hlt : po % N < N := Nat.mod_lt _ h.N1
  refine ⟨h.good, h.sp, h.w1, h.w2, h.ln, h.lN, h.N1, fun i z hz _ => h.bx i z hz (by omega), h.s2, h.s3, fun _ => ht, fun _ => ?_⟩
  obtain ⟨z, hz⟩ : ∃ z, L[0]? = some z := ⟨_, List.getElem?_eq_getElem (by omega)⟩
  have hb := h.bx 0 z hz (by omega)
  unfold getV
  rw [if_pos (h.mayB' hw (.inl rfl) (by rw [box_nat]; omega)), box_nat, show (((1 + po % N : Nat) : Int)).toNat = 1 + po % N by omega, List.getD_eq_getElem?_getD, show (1 + po % N) = 1 + (po + 0) % N from rfl, hb, hz]
  rfl
/-- The pop takes effect. -/
theorem Gi.pop5 (h : Gi N L pu po s 4 l x b k M) (hw : 0 ≤ who) (hwi : I64 who) : L = b :: L.tail ∧ Gi N L.tail pu (po + 1) s 0 l x b (k + 1) (storeS M who 2 ((po : Int) + 1)) := by
  have hg := h.good.store (who := who) (a := 2) (v := (po : Int) + 1) hwi ⟨by decide, by decide⟩
  rw [h.storeEq hw (by decide)] at hg ⊢
  have hln := h.ln
  have hlN := h.lN
  have ha := h.good.a
  have ht := h.t2 (by omega)
  have h3 := h.t3 (by omega)
  have hbx := h.bx
  cases L with
  | nil => simp at h3
  | cons z L =>
    simp at h3
    subst h3
    simp only [List.length_cons] at hln hlN
    refine ⟨rfl, hg, h.sp, (List.getElem?_set_ne (by decide)).trans h.w1, (List.getElem?_set_self (by show (2 : Int).toNat < _; rw [ha]; decide)).trans (by simp), by simp; omega, by simp; omega, h.N1, fun i y hy _ => ?_, fun hs => by have := h.s2 hs; omega, h.s3, by omega, by omega⟩
    have := hbx (i + 1) y (by simpa using hy) (by omega)
    rw [show po + 1 + i = po + (i + 1) by omega]
    exact this
end
end Go.Proofs.Ytjmkcgkkgamafaa.Rg
