/-
  THE LAW MemKeeps, MEMORY: two arrays of the law's own beside a Mem.
  PACKAGE batch: the library's Equal at Changes; Same.
-/
import Derived.Test.YtneegocbknkhjaaMemTold
import Derived.Test.YtneegocbknkhjaaBatchClone
import Derived.LoopTactic
namespace Go.Proofs.Ytneegocbknkhjaa.Mm
open Go.RowKit Rw Pk Go.Maps
set_option linter.unusedVariables false

theorem row0_step {α : Type} {S : Kd α} {w w' : World} {τ τ' : Nat → Nat} {T : TypeId} {v : Value} {l : List α} (h : Row S w τ 0 T v l) (hs : Step τ τ' w w') : Row S w' τ' 0 T v l :=
  ⟨own_of_block h.1 fun g hg => hs.out g (own_block_lt h.1 hg) (h.2 g hg), fun g hg => by rw [hs.ext g (own_block_lt h.1 hg)]; exact h.2 g hg⟩
variable {τ τ' : Nat → Nat} {w w' : World} {bw bb : Nat} {W : List Int} {bv : List Sv} {B : List (List Batch.Ch)}
/-- A Mem isn't touched where something else is. -/
theorem MemAt.other {b g : Nat} {M : St} (h : MemAt τ w b M) (hg : τ g = 0) (o : Nat) (u : Value) : MemAt τ (w.setCell ⟨g, o, none⟩ u) b M := by
  obtain ⟨V, h⟩ := h
  exact ⟨V, h.keep ⟨by rw [size_setCell]; exact Nat.le_refl _, fun i _ h0 _ => Below.heap_setCell _ _ _ _ (fun e => h0 (by rw [← hg]; exact congrArg τ e))⟩ (ext_refl _ _) fun i hi => by rw [size_setCell]; exact h.tz i hi⟩
theorem MemAt.zero {b : Nat} {M : St} (h : MemAt τ w b M) {g : Nat} (hg : w.heap.size ≤ g) : τ g = 0 := by
  obtain ⟨V, h⟩ := h
  by_cases e : τ g = 0
  · exact e
  · have := h.tz g e; omega
variable {n p q : Nat} {w0 : World} {Wm Wa : List Int} {Bm Ba : List (List Batch.Ch)}
theorem may_in {M : St} (hG : Good 5 5 0 q M) (hs : ∀ i, M.sp i = false) {who : Int} (hw : 0 ≤ who) {k : Nat} (hk : k < 5) {c : Int} (hc : 0 ≤ c ∧ c ≤ 3) : mayB M who c (k : Int) = true := by
  have ha := hG.a
  have hb := hG.b
  have hcc : c = 0 ∨ c = 1 ∨ c = 2 ∨ c = 3 := by omega
  unfold mayB thB cnt
  rw [hs who, decide_eq_true (show (0 : Int) ≤ (k : Int) by omega), decide_eq_true hw]
  rcases hcc with rfl | rfl | rfl | rfl <;> simp <;> omega
end Go.Proofs.Ytneegocbknkhjaa.Mm
namespace Go.Proofs.Ytneegocbknkhjaa.Batch
open Go.RowKit Go.Shelf Go.Lib
set_option linter.unusedVariables false

def sameB (a b : List Ch) : Bool := decide (a.length = b.length) && (List.range a.length).all fun i => eqCh a[i]! b[i]!
theorem eqCh_refl (x : Ch) : eqCh x x = true := (eqCh_iff x x).2 rfl
theorem allEq_iff : ∀ (a b : List Ch), Lib.allEq eqCh a b = true ↔ a = b
  | [], [] => by simp [Lib.allEq]
  | [], y :: b => by simp [Lib.allEq]
  | x :: a, [] => by simp [Lib.allEq]
  | x :: a, y :: b => by simp [Lib.allEq, eqCh_iff, allEq_iff a b]
noncomputable def eqL (a b : List Ch) : Bool := Lib.allEq eqCh a b
theorem eqL_iff (a b : List Ch) : eqL a b = true ↔ a = b := allEq_iff a b
theorem eqL_self (a : List Ch) : eqL a a = true := (eqL_iff a a).2 rfl
theorem eqL_false {a b : List Ch} (h : a ≠ b) : eqL a b = false := by
  cases e : eqL a b
  · rfl
  · exact absurd ((eqL_iff a b).1 e) h

end Go.Proofs.Ytneegocbknkhjaa.Batch
