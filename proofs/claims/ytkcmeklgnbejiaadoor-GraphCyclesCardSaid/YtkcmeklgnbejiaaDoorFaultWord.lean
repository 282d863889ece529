
/-
  THE WORDS OF THE NUMBERS, and Path of nil.
-/
import Derived.Test.YtkcmeklgnbejiaaDoorFaultPath
namespace Go.Proofs.YtkcmeklgnbejiaaDoor.Fault
open Go.RowKit
set_option linter.unusedVariables false

def wordL : List ByteArray := [⟨#[111, 107]⟩, ⟨#[97, 114, 103, 117, 109, 101, 110, 116]⟩, ⟨#[112, 111, 114, 116]⟩, ⟨#[99, 121, 99, 108, 101]⟩, ⟨#[109, 97, 110, 121]⟩, ⟨#[117, 110, 106, 117, 115, 116, 105, 102, 105, 101, 100]⟩, ⟨#[98, 97, 99, 107]⟩, ⟨#[115, 116, 97, 108, 101]⟩, ⟨#[99, 108, 111, 115, 101, 100]⟩, ⟨#[102, 117, 108, 108]⟩, ⟨#[111, 118, 101, 114]⟩, ⟨#[115, 116, 97, 116, 101]⟩, ⟨#[102, 111, 114, 109]⟩, ⟨#[119, 111, 114, 100]⟩, ⟨#[110, 111, 110, 101]⟩]
def wordS (k : Int) : ByteArray := wordL.getD k.toNat ⟨#[]⟩

set_option maxRecDepth 100000 in
set_option maxHeartbeats 2000000 in
theorem error_any (k : Int) (h0 : 0 ≤ k) (h1 : k ≤ 14) (w : World) : Calls Tryd.prog 43 #[.int .i64 k] w fun e w' => e = .returned (.string (wordS k)) ∧ Below w.heap.size w w' := by
  have hk : k = 0 ∨ k = 1 ∨ k = 2 ∨ k = 3 ∨ k = 4 ∨ k = 5 ∨ k = 6 ∨ k = 7 ∨ k = 8 ∨ k = 9 ∨ k = 10 ∨ k = 11 ∨ k = 12 ∨ k = 13 ∨ k = 14 := by omega
  clear h0 h1
  rcases hk with rfl | rfl | rfl | rfl | rfl | rfl | rfl | rfl | rfl | rfl | rfl | rfl | rfl | rfl | rfl
  all_goals
    go_enter Tryd.func43, Tryd.ntmps43
    go_wp2
    go_ret
    exact ⟨rfl, (Below.refl _ _).alloc (Nat.le_refl _) _⟩

theorem path_nil (w : World) : Calls Tryd.prog 40 #[.nilIface] w fun e w' => e = .returned (.slice none 0 0) ∧ w = w' := by
  have h := asNil
  go_enter Tryd.func40, Tryd.ntmps40
  go_wp2
  refine wp_loop_rounds 1 ?_
  rw [rounds_succ]
  go_wp2
  go_ret
  exact ⟨rfl, rfl⟩
end Go.Proofs.YtkcmeklgnbejiaaDoor.Fault
