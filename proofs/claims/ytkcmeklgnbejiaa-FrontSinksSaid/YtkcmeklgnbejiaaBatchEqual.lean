
/-
  PACKAGE batch: the library's Equal at Changes; Same.
-/
import Derived.Test.YtkcmeklgnbejiaaBatchClone
import Derived.LoopTactic
namespace Go.Proofs.Ytkcmeklgnbejiaa.Batch
open Go.RowKit Go.Shelf Go.Lib
set_option linter.unusedVariables false

def sameB (a b : List Ch) : Bool := decide (a.length = b.length) && (List.range a.length).all fun i => eqCh a[i]! b[i]!
theorem eqCh_refl (x : Ch) : eqCh x x = true := (eqCh_iff x x).2 rfl
theorem allEq_iff : ∀ (a b : List Ch), Lib.allEq eqCh a b = true ↔ a = b
  | [], [] => by simp [Lib.allEq]
  | [], y :: b => by simp [Lib.allEq]
  | x :: a, [] => by simp [Lib.allEq]
  | x :: a, y :: b => by simp [Lib.allEq, eqCh_iff, allEq_iff a b]
noncomputable def eqL (a b : List Ch) : Bool := Lib.allEq eqCh a b
theorem eqL_iff (a b : List Ch) : eqL a b = true ↔ a = b := allEq_iff a b
theorem eqL_self (a : List Ch) : eqL a a = true := (eqL_iff a a).2 rfl
theorem eqL_false {a b : List Ch} (h : a ≠ b) : eqL a b = false := by
  cases e : eqL a b
  · rfl
  · exact absurd ((eqL_iff a b).1 e) h

theorem eq_differ (a1 a2 : Option Addr) (n m c d : Nat) (w : World) (hn : n ≤ 9223372036854775807) (hm : m ≤ 9223372036854775807) (h : n ≠ m) :
    Calls Try.prog 45 #[.slice a1 n c, .slice a2 m d] w fun e w' => e = .returned (.bool false) ∧ w = w' := by
  have h1 : ((n : Int) != (m : Int)) = true := by rw [bne_iff_ne]; omega
  clear h
  go_enter Try.func45, Try.ntmps45
  go_wp2
  go_ret
  exact ⟨rfl, rfl⟩
theorem eq_none (a1 a2 : Option Addr) (c d : Nat) (w : World) :
    Calls Try.prog 45 #[.slice a1 0 c, .slice a2 0 d] w fun e w' => e = .returned (.bool true) ∧ w = w' := by
  go_enter Try.func45, Try.ntmps45
  go_wp2
  refine wp_loop_rounds 1 ?_
  rw [rounds_succ]
  go_wp2
  go_ret
  exact ⟨rfl, rfl⟩
theorem equal_any {w : World} {v1 v2 : Value} {a b : List Ch} (h1 : Sl w v1 a) (h2 : Sl w v2 b) :
    Calls Try.prog 45 #[v1, v2] w fun e w' => e = .returned (.bool (eqL a b)) ∧ ∃ q, w' = w.drewN q := by
  obtain ⟨ao1, cap1, rfl, k1, hc1, hm1, _⟩ := h1
  obtain ⟨ao2, cap2, rfl, k2, hc2, hm2, _⟩ := h2
  by_cases hn : a.length = b.length
  · by_cases h0 : a.length = 0
    · obtain rfl := List.length_eq_zero_iff.1 h0
      obtain rfl := List.length_eq_zero_iff.1 (hn.symm.trans h0)
      exact (eq_none ao1 ao2 cap1 cap2 w).mono fun e w' ⟨he, hw⟩ => ⟨he, 0, hw.symm⟩
    · rcases k1 with ⟨_, rfl⟩ | ⟨b1, o1, rfl, k1⟩
      · exact absurd rfl h0
      · rcases k2 with ⟨_, rfl⟩ | ⟨b2, o2, rfl, k2⟩
        · exact absurd hn h0
        · have hat : ∀ (l : List Ch) (b o : Nat), (∀ i x, l[i]? = some x → At3 w b (o + i * 3) x) → ∀ j, j < l.length → ∀ i v, (Ch.cells l[j]!)[i]? = some v → w.cell? ⟨b, o + j * 3 + i, none⟩ = some v := by
            intro l b o hk j hj i v hv
            have hx : l[j]? = some l[j]! := by rw [List.getElem?_eq_getElem hj, getElem!_pos l j hj]
            have h3 := hk j _ hx
            have hi : i < 3 := (List.getElem?_eq_some_iff.1 hv).1
            rcases (show i = 0 ∨ i = 1 ∨ i = 2 by omega) with rfl | rfl | rfl
            · obtain rfl := Option.some.inj hv; exact h3.1
            · obtain rfl := Option.some.inj hv; exact h3.2.1
            · obtain rfl := Option.some.inj hv; exact h3.2.2
          have h := AnyQ.slices_Equal Try.equalB 3 Try.isAgg46 Try.sizeOf46 Ch.cells (fun _ => rfl) eqCh neqCh b1 o1 a.length cap1 b2 o2 b.length cap2 a b w (Nat.le_refl _) (Nat.le_refl _) (by omega) (by omega) (hat a b1 o1 k1) (hat b b2 o2 k2)
          rw [List.take_length, List.take_length] at h
          exact h
  · rw [eqL_false (fun e => hn (by rw [e]))]
    exact (eq_differ ao1 ao2 _ _ cap1 cap2 w (by omega) (by omega) hn).mono fun e w' ⟨he, hw⟩ => ⟨he, 0, hw.symm⟩
theorem same_any {w : World} {v1 v2 : Value} {a b : List Ch} (h1 : Sl w v1 a) (h2 : Sl w v2 b) :
    Calls Try.prog 24 #[v1, v2] w fun e w' => e = .returned (.bool (eqL a b)) ∧ ∃ q, w' = w.drewN q := by
  have HE := Lib.hid (equal_any h1 h2)
  obtain ⟨ao1, cap1, rfl, _⟩ := h1
  obtain ⟨ao2, cap2, rfl, _⟩ := h2
  generalize eqL a b = r at HE ⊢
  go_enter Try.func24, Try.ntmps24
  go_wp2_with fail
  go_at_call 45
  refine HE.out.mono ?_
  rintro e w' ⟨rfl, q, rfl⟩
  go_wp2_with fail
  go_ret
  exact ⟨rfl, q, rfl⟩
end Go.Proofs.Ytkcmeklgnbejiaa.Batch
