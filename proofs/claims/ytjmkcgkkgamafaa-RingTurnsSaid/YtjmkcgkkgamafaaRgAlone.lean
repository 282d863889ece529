/-
  PACKAGE ring: a whole push, a whole pop, alone.
-/
import Derived.Test.YtjmkcgkkgamafaaRgPlay
import Derived.Test.YtjmkcgkkgamafaaRgMath
import Derived.Test.YtjmkcgkkgamafaaJoined10
namespace Go.Proofs.Ytjmkcgkkgamafaa.Rg
open Go.RowKit Rw Pk Go.Maps Mm
set_option linter.unusedVariables false
section
variable {N pu po s t x k : Nat} {L : List (List Batch.Ch)} {l b : List Batch.Ch} {M : St} {who : Int}
theorem Gi.lenL (h : Gi N L pu po s t l x b k M) (hw : 0 ≤ who) {a : Int} (ha : 0 ≤ a ∧ a ≤ 3) : (lookS M who 0 a).lg.length = M.lg.length + 1 := by
  unfold lookS
  rw [if_pos (h.mayW hw (.inl rfl) ha)]
  simp [St.note]
theorem Gi.lenG (h : Gi N L pu po s t l x b k M) (hw : 0 ≤ who) (m : Nat) : (lookS M who 2 (1 + (m : Int) % (N : Int))).lg.length = M.lg.length + 1 := by
  have hlt : m % N < N := Nat.mod_lt _ h.N1
  unfold lookS
  rw [if_pos (h.mayB' hw (.inl rfl) (by rw [box_nat]; omega))]
  simp [St.note]
theorem Gi.lenS (h : Gi N L pu po s t l x b k M) (hw : 0 ≤ who) (m : Nat) (l' : List Batch.Ch) : (setS M who (1 + (m : Int) % (N : Int)) l').lg.length = M.lg.length + 1 := by
  rw [h.setEq hw]
  simp [St.note]
theorem Gi.lenW (h : Gi N L pu po s t l x b k M) (hw : 0 ≤ who) {a : Int} (ha : 0 ≤ a ∧ a ≤ 3) (v : Int) : (storeS M who a v).lg.length = M.lg.length + 1 := by
  rw [h.storeEq hw ha]
  simp [St.note]
variable {w w' : World} {n a r p : Nat} {w0 wr : World} {fs zs : List Nat} {bv : Value} {ps pp : Bool}
theorem alone_push_ok (h : Rg n w0 wr fs zs a r ⟨p, 1, 1, N, true, pp⟩ ⟨r, who, false, bv, 0, 0, 0, false, false, 0⟩ l M w) (g : Gi N L pu po 0 0 l x b k M) (hN : N ≤ 64) (hk : k ≤ 90000) (hpu : pu ≤ 100000) (hwho : 0 ≤ who ∧ who ≤ 1000) (hl : l.length ≤ 1000 ∧ ∀ z ∈ l, z.Wf) (hn : L.length < N) :
    Calls Try.prog 17 #[.pointer (some ⟨a, 0, none⟩)] w fun e w' => e = .returned (.bool true) ∧ ∃ M', Gi N (L ++ [l]) (pu + 1) po 0 0 l po b (k + 4) M' ∧ M'.lg.length = M.lg.length + 4 ∧
      Rg n w0 wr fs zs a r ⟨p, 1, 1, N, false, pp⟩ ⟨r, who, false, .slice none 0 0, 4, pu, po, true, true, (M'.lg.length : Int)⟩ [] M' w' := by
  have hwi : I64 who := ⟨by omega, by omega⟩
  have hwd1 : (0 : Int) ≤ 1 ∧ (1 : Int) ≤ 1000 := by decide
  have hpo : po ≤ pu := by have := g.ln; omega
  have hN1 := g.N1
  have g1 := g.push1.look (q := 0) (a := 1) hwi (by decide) ⟨by decide, by decide⟩
  have g2 := (g1.push2 hn).look (q := 0) (a := 2) hwi (by decide) ⟨by decide, by decide⟩
  have g3 := g2.push3 hN hwho.1 hwi hl
  have g4 := g3.push4 hwho.1 hwi
  have l1 := g.lenL (a := 1) hwho.1 (by decide)
  have l2 := g1.lenL (a := 2) hwho.1 (by decide)
  have l3 := g2.lenS hwho.1 pu l
  have l4 := g3.lenW (a := 1) hwho.1 (by decide) ((pu : Int) + 1)
  have e1 := g.load1 hwho.1
  have e2 := g1.load2 hwho.1
  generalize hM1 : lookS M who 0 1 = M1 at *
  generalize hM2 : lookS M1 who 0 2 = M2 at *
  generalize hM3 : setS M2 who (1 + (pu : Int) % (N : Int)) l = M3 at *
  generalize hM4 : storeS M3 who 1 ((pu : Int) + 1) = M4 at *
  refine (rgfinish_any (K := 4) (by decide) (by decide) (S := fun j w' => match j with
    | 0 => Rg n w0 wr fs zs a r ⟨p, 1, 1, N, true, pp⟩ ⟨r, who, false, bv, 0, 0, 0, false, false, 0⟩ l M w'
    | 1 => Rg n w0 wr fs zs a r ⟨p, 1, 1, N, true, pp⟩ ⟨r, who, false, bv, 1, pu, 0, false, false, 0⟩ l M1 w'
    | 2 => Rg n w0 wr fs zs a r ⟨p, 1, 1, N, true, pp⟩ ⟨r, who, false, bv, 2, pu, po, false, false, 0⟩ l M2 w'
    | 3 => Rg n w0 wr fs zs a r ⟨p, 1, 1, N, true, pp⟩ ⟨r, who, false, bv, 3, pu, po, false, false, 0⟩ l M3 w'
    | _ => Rg n w0 wr fs zs a r ⟨p, 1, 1, N, false, pp⟩ ⟨r, who, false, .slice none 0 0, 4, pu, po, true, true, (M4.lg.length : Int)⟩ [] M4 w') h ?_ ?_).mono ?_
  · intro j hj w1 hw1
    rcases (show j = 0 ∨ j = 1 ∨ j = 2 ∨ j = 3 by omega) with rfl | rfl | rfl | rfl
    · refine (rgstep_push1 hw1 rfl rfl rfl rfl (g.sp who) g.good (by decide) (by omega) (by decide) (by omega) hwi hwd1 (by show (lookS M who 0 1).lg.length = _; rw [hM1]; exact l1)).mono ?_
      rintro e w2 ⟨rfl, hr⟩
      refine ⟨rfl, ?_⟩
      change Rg n w0 wr fs zs a r ⟨p, 1, 1, N, true, pp⟩ ⟨r, who, false, bv, 1, loadV M who 1, 0, false, false, 0⟩ l (lookS M who 0 1) w2 at hr
      rw [e1, hM1] at hr
      exact hr
    · refine (rgstep_push2 hw1 rfl rfl rfl rfl (g1.sp who) g1.good (by decide) (by omega) (by decide) (by omega) hwi hwd1 (by show 0 ≤ loadV M1 who 2 ∧ loadV M1 who 2 ≤ (pu : Int) ∧ (pu : Int) ≤ 1000000; rw [e2]; omega) (by show (lookS M1 who 0 2).lg.length = _; rw [hM2]; exact l2)).mono ?_
      rintro e w2 ⟨rfl, hr⟩
      have hd : decide ((N : Int) ≤ (pu : Int) - loadV M1 who 2) = false := decide_eq_false (by rw [e2]; have := g.ln; omega)
      change Rg n w0 wr fs zs a r (endR (decide ((N : Int) ≤ (pu : Int) - loadV M1 who 2)) ⟨p, 1, 1, N, true, pp⟩ ⟨r, who, false, bv, 2, pu, loadV M1 who 2, false, false, 0⟩) (endA (decide ((N : Int) ≤ (pu : Int) - loadV M1 who 2)) ⟨r, who, false, bv, 2, pu, loadV M1 who 2, false, false, 0⟩ ((lookS M1 who 0 2).lg.length : Int)) (endL (decide ((N : Int) ≤ (pu : Int) - loadV M1 who 2)) ⟨r, who, false, bv, 2, pu, loadV M1 who 2, false, false, 0⟩ l) (lookS M1 who 0 2) w2 at hr
      refine ⟨by show Ending.returned (.bool (decide ((N : Int) ≤ (pu : Int) - loadV M1 who 2))) = _; rw [hd]; rfl, ?_⟩
      rw [hd, e2, hM2] at hr
      exact hr
    · refine (rgstep_push3 hw1 rfl rfl rfl rfl (g2.sp who) g2.good (by decide) (by omega) (by decide) (by omega) hwi hwd1 (by show 0 ≤ (pu : Int) ∧ 1 ≤ (N : Int) ∧ (N : Int) ≤ 64 ∧ (0 : Int) ≤ 1 ∧ (1 : Int) ≤ 1000; omega) hl.1 (by show (setS M2 who (1 + (pu : Int) % (N : Int)) l).lg.length = _; rw [hM3]; exact l3)).mono ?_
      rintro e w2 ⟨rfl, hr⟩
      refine ⟨rfl, ?_⟩
      change Rg n w0 wr fs zs a r ⟨p, 1, 1, N, true, pp⟩ ⟨r, who, false, bv, 3, pu, po, false, false, 0⟩ l (setS M2 who (1 + (pu : Int) % (N : Int)) l) w2 at hr
      rw [hM3] at hr
      exact hr
    · refine (rgstep_push4 hw1 rfl rfl rfl rfl (g3.sp who) g3.good (by decide) (by omega) (by decide) (by omega) hwi hwd1 (by show 0 ≤ (pu : Int) ∧ (pu : Int) ≤ 1000000; omega) (by show (storeS M3 who 1 ((pu : Int) + 1)).lg.length = _; rw [hM4]; exact l4)).mono ?_
      rintro e w2 ⟨rfl, hr⟩
      refine ⟨rfl, ?_⟩
      change Rg n w0 wr fs zs a r ⟨p, 1, 1, N, false, pp⟩ ⟨r, who, false, .slice none 0 0, 4, pu, po, true, true, ((storeS M3 who 1 ((pu : Int) + 1)).lg.length : Int)⟩ [] (storeS M3 who 1 ((pu : Int) + 1)) w2 at hr
      rw [hM4] at hr
      exact hr
  · intro w1 hw1
    exact rgover_any hw1.ac
  · rintro e w1 ⟨rfl, hr⟩
    exact ⟨rfl, M4, g4, by omega, hr⟩
theorem alone_push_no (h : Rg n w0 wr fs zs a r ⟨p, 1, 1, N, true, pp⟩ ⟨r, who, false, bv, 0, 0, 0, false, false, 0⟩ l M w) (g : Gi N L pu po 0 0 l x b k M) (hN : N ≤ 64) (hk : k ≤ 90000) (hpu : pu ≤ 100000) (hwho : 0 ≤ who ∧ who ≤ 1000) (hn : L.length = N) :
    Calls Try.prog 17 #[.pointer (some ⟨a, 0, none⟩)] w fun e w' => e = .returned (.bool true) ∧ ∃ M', Gi N L pu po 0 0 l x b (k + 2) M' ∧ M'.lg.length = M.lg.length + 2 ∧
      Rg n w0 wr fs zs a r ⟨p, 1, 1, N, false, pp⟩ ⟨r, who, false, .slice none 0 0, 2, pu, po, false, true, (M'.lg.length : Int)⟩ [] M' w' := by
  have hwi : I64 who := ⟨by omega, by omega⟩
  have hwd1 : (0 : Int) ≤ 1 ∧ (1 : Int) ≤ 1000 := by decide
  have hpo : po ≤ pu := by have := g.ln; omega
  have hN1 := g.N1
  have g1 := g.push1.look (q := 0) (a := 1) hwi (by decide) ⟨by decide, by decide⟩
  have g2 := g1.look (q := 0) (a := 2) hwi (by decide) ⟨by decide, by decide⟩
  have l1 := g.lenL (a := 1) hwho.1 (by decide)
  have l2 := g1.lenL (a := 2) hwho.1 (by decide)
  have e1 := g.load1 hwho.1
  have e2 := g1.load2 hwho.1
  generalize hM1 : lookS M who 0 1 = M1 at *
  generalize hM2 : lookS M1 who 0 2 = M2 at *
  refine (rgfinish_any (K := 2) (by decide) (by decide) (S := fun j w' => match j with
    | 0 => Rg n w0 wr fs zs a r ⟨p, 1, 1, N, true, pp⟩ ⟨r, who, false, bv, 0, 0, 0, false, false, 0⟩ l M w'
    | 1 => Rg n w0 wr fs zs a r ⟨p, 1, 1, N, true, pp⟩ ⟨r, who, false, bv, 1, pu, 0, false, false, 0⟩ l M1 w'
    | _ => Rg n w0 wr fs zs a r ⟨p, 1, 1, N, false, pp⟩ ⟨r, who, false, .slice none 0 0, 2, pu, po, false, true, (M2.lg.length : Int)⟩ [] M2 w') h ?_ ?_).mono ?_
  · intro j hj w1 hw1
    rcases (show j = 0 ∨ j = 1 by omega) with rfl | rfl
    · refine (rgstep_push1 hw1 rfl rfl rfl rfl (g.sp who) g.good (by decide) (by omega) (by decide) (by omega) hwi hwd1 (by show (lookS M who 0 1).lg.length = _; rw [hM1]; exact l1)).mono ?_
      rintro e w2 ⟨rfl, hr⟩
      refine ⟨rfl, ?_⟩
      change Rg n w0 wr fs zs a r ⟨p, 1, 1, N, true, pp⟩ ⟨r, who, false, bv, 1, loadV M who 1, 0, false, false, 0⟩ l (lookS M who 0 1) w2 at hr
      rw [e1, hM1] at hr
      exact hr
    · refine (rgstep_push2 hw1 rfl rfl rfl rfl (g1.sp who) g1.good (by decide) (by omega) (by decide) (by omega) hwi hwd1 (by show 0 ≤ loadV M1 who 2 ∧ loadV M1 who 2 ≤ (pu : Int) ∧ (pu : Int) ≤ 1000000; rw [e2]; omega) (by show (lookS M1 who 0 2).lg.length = _; rw [hM2]; exact l2)).mono ?_
      rintro e w2 ⟨rfl, hr⟩
      have hd : decide ((N : Int) ≤ (pu : Int) - loadV M1 who 2) = true := decide_eq_true (by rw [e2]; have := g.ln; omega)
      change Rg n w0 wr fs zs a r (endR (decide ((N : Int) ≤ (pu : Int) - loadV M1 who 2)) ⟨p, 1, 1, N, true, pp⟩ ⟨r, who, false, bv, 2, pu, loadV M1 who 2, false, false, 0⟩) (endA (decide ((N : Int) ≤ (pu : Int) - loadV M1 who 2)) ⟨r, who, false, bv, 2, pu, loadV M1 who 2, false, false, 0⟩ ((lookS M1 who 0 2).lg.length : Int)) (endL (decide ((N : Int) ≤ (pu : Int) - loadV M1 who 2)) ⟨r, who, false, bv, 2, pu, loadV M1 who 2, false, false, 0⟩ l) (lookS M1 who 0 2) w2 at hr
      refine ⟨by show Ending.returned (.bool (decide ((N : Int) ≤ (pu : Int) - loadV M1 who 2))) = _; rw [hd]; rfl, ?_⟩
      rw [hd, e2, hM2] at hr
      exact hr
  · intro w1 hw1
    exact rgover_any hw1.ac
  · rintro e w1 ⟨rfl, hr⟩
    exact ⟨rfl, M2, g2.pushN l, by omega, hr⟩
theorem alone_pop_no (h : Rg n w0 wr fs zs a r ⟨p, 1, 1, N, ps, true⟩ ⟨r, who, true, bv, 0, 0, 0, false, false, 0⟩ [] M w) (g : Gi N L pu po 0 0 l x b k M) (hN : N ≤ 64) (hk : k ≤ 90000) (hpu : pu ≤ 100000) (hwho : 0 ≤ who ∧ who ≤ 1000) (hn : L = []) :
    Calls Try.prog 17 #[.pointer (some ⟨a, 0, none⟩)] w fun e w' => e = .returned (.bool true) ∧ ∃ M', Gi N L pu po 0 0 l x b (k + 2) M' ∧ M'.lg.length = M.lg.length + 2 ∧
      Rg n w0 wr fs zs a r ⟨p, 1, 1, N, ps, false⟩ ⟨r, who, true, bv, 2, pu, po, false, true, (M'.lg.length : Int)⟩ [] M' w' := by
  have hwi : I64 who := ⟨by omega, by omega⟩
  have hwd1 : (0 : Int) ≤ 1 ∧ (1 : Int) ≤ 1000 := by decide
  have hpo : po ≤ pu := by have := g.ln; omega
  have hN1 := g.N1
  have hpq : pu = po := by have := g.ln; rw [hn] at this; simpa using this.symm
  have g1 := g.pop1.look (q := 0) (a := 2) hwi (by decide) ⟨by decide, by decide⟩
  have l1 := g.lenL (a := 2) hwho.1 (by decide)
  have e1 := g.load2 hwho.1
  have g2 := g1.look (q := 0) (a := 1) hwi (by decide) ⟨by decide, by decide⟩
  have l2 := g1.lenL (a := 1) hwho.1 (by decide)
  have e2 := g1.load1 hwho.1
  generalize hM1 : lookS M who 0 2 = M1 at *
  generalize hM2 : lookS M1 who 0 1 = M2 at *
  refine (rgfinish_any (K := 2) (by decide) (by decide) (S := fun j w' => match j with
    | 0 => Rg n w0 wr fs zs a r ⟨p, 1, 1, N, ps, true⟩ ⟨r, who, true, bv, 0, 0, 0, false, false, 0⟩ [] M w'
    | 1 => Rg n w0 wr fs zs a r ⟨p, 1, 1, N, ps, true⟩ ⟨r, who, true, bv, 1, 0, po, false, false, 0⟩ [] M1 w'
    | _ => Rg n w0 wr fs zs a r ⟨p, 1, 1, N, ps, false⟩ ⟨r, who, true, bv, 2, pu, po, false, true, (M2.lg.length : Int)⟩ [] M2 w') h ?_ ?_).mono ?_
  · intro j hj w1 hw1
    rcases (show j = 0 ∨ j = 1 by omega) with rfl | rfl
    · refine (rgstep_pop1 hw1 rfl rfl rfl rfl (g.sp who) g.good (by decide) (by omega) (by decide) (by omega) hwi hwd1 (by show (lookS M who 0 2).lg.length = _; rw [hM1]; exact l1)).mono ?_
      rintro e w2 ⟨rfl, hr⟩
      refine ⟨rfl, ?_⟩
      change Rg n w0 wr fs zs a r ⟨p, 1, 1, N, ps, true⟩ ⟨r, who, true, bv, 1, 0, loadV M who 2, false, false, 0⟩ [] (lookS M who 0 2) w2 at hr
      rw [e1, hM1] at hr
      exact hr
    · refine (rgstep_pop2 hw1 rfl rfl rfl rfl (g1.sp who) g1.good (by decide) (by omega) (by decide) (by omega) hwi hwd1 (by show (lookS M1 who 0 1).lg.length = _; rw [hM2]; exact l2)).mono ?_
      rintro e w2 ⟨rfl, hr⟩
      have hd : decide (loadV M1 who 1 = (po : Int)) = true := decide_eq_true (by rw [e2]; omega)
      change Rg n w0 wr fs zs a r (endR (decide (loadV M1 who 1 = (po : Int))) ⟨p, 1, 1, N, ps, true⟩ ⟨r, who, true, bv, 2, loadV M1 who 1, po, false, false, 0⟩) (endA (decide (loadV M1 who 1 = (po : Int))) ⟨r, who, true, bv, 2, loadV M1 who 1, po, false, false, 0⟩ ((lookS M1 who 0 1).lg.length : Int)) (endL (decide (loadV M1 who 1 = (po : Int))) ⟨r, who, true, bv, 2, loadV M1 who 1, po, false, false, 0⟩ []) (lookS M1 who 0 1) w2 at hr
      refine ⟨by show Ending.returned (.bool (decide (loadV M1 who 1 = (po : Int)))) = _; rw [hd]; rfl, ?_⟩
      rw [hd, e2, hM2] at hr
      exact hr
  · intro w1 hw1
    exact rgover_any hw1.ac
  · rintro e w1 ⟨rfl, hr⟩
    exact ⟨rfl, M2, g2.popN (by decide), by omega, hr⟩
theorem alone_pop_ok (h : Rg n w0 wr fs zs a r ⟨p, 1, 1, N, ps, true⟩ ⟨r, who, true, bv, 0, 0, 0, false, false, 0⟩ [] M w) (g : Gi N L pu po 0 0 l x b k M) (hN : N ≤ 64) (hk : k ≤ 90000) (hpu : pu ≤ 100000) (hwho : 0 ≤ who ∧ who ≤ 1000) (hn : L ≠ []) :
    Calls Try.prog 17 #[.pointer (some ⟨a, 0, none⟩)] w fun e w' => e = .returned (.bool true) ∧ ∃ M' b' v zs', L = b' :: L.tail ∧ Gi N L.tail pu (po + 1) 0 0 l x b' (k + 5) M' ∧ M'.lg.length = M.lg.length + 5 ∧ (∀ j ∈ zs, j ∈ zs') ∧ (∀ j ∈ zs', j ∈ zs ∨ wr.heap.size ≤ j) ∧
      Rg n w0 wr fs zs' a r ⟨p, 1, 1, N, ps, false⟩ ⟨r, who, true, v, 5, pu, po, true, true, (M'.lg.length : Int)⟩ b' M' w' := by
  have hwi : I64 who := ⟨by omega, by omega⟩
  have hwd1 : (0 : Int) ≤ 1 ∧ (1 : Int) ≤ 1000 := by decide
  have hpo : po ≤ pu := by have := g.ln; omega
  have hN1 := g.N1
  have hpq : po < pu := by have := g.ln; have := List.length_pos_iff.2 hn; omega
  have g1 := g.pop1.look (q := 0) (a := 2) hwi (by decide) ⟨by decide, by decide⟩
  have l1 := g.lenL (a := 2) hwho.1 (by decide)
  have e1 := g.load2 hwho.1
  have g2 := (g1.pop2 hpq).look (q := 0) (a := 1) hwi (by decide) ⟨by decide, by decide⟩
  have g3 := (g2.pop3 hwho.1).look (q := 2) (a := 1 + (po : Int) % (N : Int)) hwi (by decide) (g2.boxI hN po)
  have g4 := g3.pop4 hN hwho.1 hwi
  obtain ⟨hL, g5⟩ := g4.pop5 hwho.1 hwi
  have l2 := g1.lenL (a := 1) hwho.1 (by decide)
  have l3 := g2.lenG hwho.1 po
  have l4 := g3.lenS hwho.1 po []
  have l5 := g4.lenW (a := 2) hwho.1 (by decide) ((po : Int) + 1)
  have e2 := g1.load1 hwho.1
  generalize hM1 : lookS M who 0 2 = M1 at *
  generalize hM2 : lookS M1 who 0 1 = M2 at *
  generalize hB : getV M2 who (1 + (po : Int) % (N : Int)) = b' at *
  generalize hM3 : lookS M2 who 2 (1 + (po : Int) % (N : Int)) = M3 at *
  generalize hM4 : setS M3 who (1 + (po : Int) % (N : Int)) [] = M4 at *
  generalize hM5 : storeS M4 who 2 ((po : Int) + 1) = M5 at *
  refine (rgfinish_any (K := 5) (by decide) (by decide) (S := fun j w' => match j with
    | 0 => Rg n w0 wr fs zs a r ⟨p, 1, 1, N, ps, true⟩ ⟨r, who, true, bv, 0, 0, 0, false, false, 0⟩ [] M w'
    | 1 => Rg n w0 wr fs zs a r ⟨p, 1, 1, N, ps, true⟩ ⟨r, who, true, bv, 1, 0, po, false, false, 0⟩ [] M1 w'
    | 2 => Rg n w0 wr fs zs a r ⟨p, 1, 1, N, ps, true⟩ ⟨r, who, true, bv, 2, pu, po, false, false, 0⟩ [] M2 w'
    | 3 => ∃ v zs', (∀ j ∈ zs, j ∈ zs') ∧ (∀ j ∈ zs', j ∈ zs ∨ wr.heap.size ≤ j) ∧ Rg n w0 wr fs zs' a r ⟨p, 1, 1, N, ps, true⟩ ⟨r, who, true, v, 3, pu, po, false, false, 0⟩ b' M3 w'
    | 4 => ∃ v zs', (∀ j ∈ zs, j ∈ zs') ∧ (∀ j ∈ zs', j ∈ zs ∨ wr.heap.size ≤ j) ∧ Rg n w0 wr fs zs' a r ⟨p, 1, 1, N, ps, true⟩ ⟨r, who, true, v, 4, pu, po, false, false, 0⟩ b' M4 w'
    | _ => ∃ v zs', (∀ j ∈ zs, j ∈ zs') ∧ (∀ j ∈ zs', j ∈ zs ∨ wr.heap.size ≤ j) ∧ Rg n w0 wr fs zs' a r ⟨p, 1, 1, N, ps, false⟩ ⟨r, who, true, v, 5, pu, po, true, true, (M5.lg.length : Int)⟩ b' M5 w') h ?_ ?_).mono ?_
  · intro j hj w1 hw1
    rcases (show j = 0 ∨ j = 1 ∨ j = 2 ∨ j = 3 ∨ j = 4 by omega) with rfl | rfl | rfl | rfl | rfl
    · refine (rgstep_pop1 hw1 rfl rfl rfl rfl (g.sp who) g.good (by decide) (by omega) (by decide) (by omega) hwi hwd1 (by show (lookS M who 0 2).lg.length = _; rw [hM1]; exact l1)).mono ?_
      rintro e w2 ⟨rfl, hr⟩
      refine ⟨rfl, ?_⟩
      change Rg n w0 wr fs zs a r ⟨p, 1, 1, N, ps, true⟩ ⟨r, who, true, bv, 1, 0, loadV M who 2, false, false, 0⟩ [] (lookS M who 0 2) w2 at hr
      rw [e1, hM1] at hr
      exact hr
    · refine (rgstep_pop2 hw1 rfl rfl rfl rfl (g1.sp who) g1.good (by decide) (by omega) (by decide) (by omega) hwi hwd1 (by show (lookS M1 who 0 1).lg.length = _; rw [hM2]; exact l2)).mono ?_
      rintro e w2 ⟨rfl, hr⟩
      have hd : decide (loadV M1 who 1 = (po : Int)) = false := decide_eq_false (by rw [e2]; omega)
      change Rg n w0 wr fs zs a r (endR (decide (loadV M1 who 1 = (po : Int))) ⟨p, 1, 1, N, ps, true⟩ ⟨r, who, true, bv, 2, loadV M1 who 1, po, false, false, 0⟩) (endA (decide (loadV M1 who 1 = (po : Int))) ⟨r, who, true, bv, 2, loadV M1 who 1, po, false, false, 0⟩ ((lookS M1 who 0 1).lg.length : Int)) (endL (decide (loadV M1 who 1 = (po : Int))) ⟨r, who, true, bv, 2, loadV M1 who 1, po, false, false, 0⟩ []) (lookS M1 who 0 1) w2 at hr
      refine ⟨by show Ending.returned (.bool (decide (loadV M1 who 1 = (po : Int)))) = _; rw [hd]; rfl, ?_⟩
      rw [hd, e2, hM2] at hr
      exact hr
    · have hsz := hw1.sz
      refine (rgstep_pop3 hw1 rfl rfl rfl rfl (g2.sp who) g2.good (by decide) (by omega) (by decide) (by omega) hwi hwd1 (by show 0 ≤ (po : Int) ∧ 1 ≤ (N : Int) ∧ (N : Int) ≤ 64 ∧ (0 : Int) ≤ 1 ∧ (1 : Int) ≤ 1000; omega) (by show (lookS M2 who 2 (1 + (po : Int) % (N : Int))).lg.length = _; rw [hM3]; exact l3)).mono ?_
      rintro e w2 ⟨rfl, v, zs', z1, z2, hr⟩
      refine ⟨rfl, v, zs', z1, fun j hj => (z2 j hj).imp id (fun h => Nat.le_trans hsz h), ?_⟩
      change Rg n w0 wr fs zs' a r ⟨p, 1, 1, N, ps, true⟩ ⟨r, who, true, v, 3, pu, po, false, false, 0⟩ (getV M2 who (1 + (po : Int) % (N : Int))) (lookS M2 who 2 (1 + (po : Int) % (N : Int))) w2 at hr
      rw [hB, hM3] at hr
      exact hr
    · obtain ⟨v, zs', z1, z2, hw1⟩ := hw1
      refine (rgstep_pop4 hw1 rfl rfl rfl rfl (g3.sp who) g3.good (by decide) (by omega) (by decide) (by omega) hwi hwd1 (by show 0 ≤ (po : Int) ∧ 1 ≤ (N : Int) ∧ (N : Int) ≤ 64 ∧ (0 : Int) ≤ 1 ∧ (1 : Int) ≤ 1000; omega) (by show (setS M3 who (1 + (po : Int) % (N : Int)) []).lg.length = _; rw [hM4]; exact l4)).mono ?_
      rintro e w2 ⟨rfl, hr⟩
      refine ⟨rfl, v, zs', z1, z2, ?_⟩
      change Rg n w0 wr fs zs' a r ⟨p, 1, 1, N, ps, true⟩ ⟨r, who, true, v, 4, pu, po, false, false, 0⟩ b' (setS M3 who (1 + (po : Int) % (N : Int)) []) w2 at hr
      rw [hM4] at hr
      exact hr
    · obtain ⟨v, zs', z1, z2, hw1⟩ := hw1
      refine (rgstep_pop5 hw1 rfl rfl rfl rfl (g4.sp who) g4.good (by decide) (by omega) (by decide) (by omega) hwi hwd1 (by show 0 ≤ (po : Int) ∧ (po : Int) ≤ 1000000; omega) (by show (storeS M4 who 2 ((po : Int) + 1)).lg.length = _; rw [hM5]; exact l5)).mono ?_
      rintro e w2 ⟨rfl, hr⟩
      refine ⟨rfl, v, zs', z1, z2, ?_⟩
      change Rg n w0 wr fs zs' a r ⟨p, 1, 1, N, ps, false⟩ ⟨r, who, true, v, 5, pu, po, true, true, ((storeS M4 who 2 ((po : Int) + 1)).lg.length : Int)⟩ b' (storeS M4 who 2 ((po : Int) + 1)) w2 at hr
      rw [hM5] at hr
      exact hr
  · rintro w1 ⟨v, zs', z1, z2, hw1⟩
    exact rgover_any hw1.ac
  · rintro e w1 ⟨rfl, v, zs', z1, z2, hr⟩
    exact ⟨rfl, M5, b', v, zs', hL, g5, by omega, z1, z2, hr⟩
end
end Go.Proofs.Ytjmkcgkkgamafaa.Rg
