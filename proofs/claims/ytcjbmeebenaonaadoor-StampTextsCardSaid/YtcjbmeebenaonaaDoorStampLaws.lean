/-
  THE WALKS OF THE LAWS StampPlus AND StampReaches: each answers true, at all numbers of 64 bits; nothing in memory is turned.
-/
import Derived.Test.YtcjbmeebenaonaaDoorStamp
namespace Go.Proofs.YtcjbmeebenaonaaDoor.Stamp
open Go.RowKit
set_option linter.unusedVariables false

theorem U_of_wf {a : Int} (h : (Lit.int .u64 a).wf = true) : U a := by
  unfold U
  have e1 : IntKind.u64.min = 0 := by decide
  have e2 : IntKind.u64.max = 18446744073709551615 := by decide
  simp only [Lit.wf, e1, e2, Bool.and_eq_true, decide_eq_true_eq] at h
  exact h
theorem plusF_comm (a b : Int) : plusF b a = plusF a b := by unfold plusF; split <;> split <;> omega
theorem plusF_assoc {a b c : Int} (ha : U a) (hb : U b) (hc : U c) : plusF (plusF a b) c = plusF a (plusF b c) := by
  unfold plusF U at *; repeat' split
  all_goals omega
theorem plusF_left {a b : Int} (ha : U a) (hb : U b) : a ≤ plusF a b ∧ b ≤ plusF a b := by unfold plusF U at *; split <;> omega
theorem plusF_mono {a b c : Int} (ha : U a) (hb : U b) (hc : U c) (h : a ≤ c) : plusF a b ≤ plusF c b := by
  unfold plusF U at *; repeat' split
  all_goals omega

set_option maxHeartbeats 400000 in
theorem stampPlus_any (a b c : Int) (ha : U a) (hb : U b) (hc : U c) (w : World) :
    Calls Tryd.prog 3 #[.int .u64 a, .int .u64 b, .int .u64 c] w fun e w' => e = .returned (.bool true) ∧ w = w' := by
  have e1 : (plusF a b != plusF b a) = false := by rw [bne_eq_false_iff_eq]; exact (plusF_comm a b).symm
  have e2 : (plusF (plusF a b) c == plusF a (plusF b c)) = true := by rw [beq_iff_eq]; exact plusF_assoc ha hb hc
  obtain ⟨l1, l2⟩ := plusF_left ha hb
  have hab := plusF_U ha hb
  have hba := plusF_U hb ha
  have hbc := plusF_U hb hc
  have hcb := plusF_U hc hb
  by_cases h : c < a
  · go_enter Tryd.func3, Tryd.ntmps3
    go_wp2_with (first
      | (go_at_call 9; refine (told_true _).mono ?_; rintro e w' ⟨rfl, rfl⟩)
      | (go_at_call 10; refine (refPlus_any _ _ (by assumption) (by assumption) _).mono ?_; rintro e w' ⟨rfl, rfl⟩)
      | (go_at_call 11; refine (reaches_any _ _ _ (by assumption) (by assumption) (by assumption) _).mono ?_; rintro e w' ⟨rfl, rfl⟩)
      | (go_at_call 12; refine (refReaches_any _ _ _ (by assumption) (by assumption) (by assumption) _).mono ?_; rintro e w' ⟨rfl, rfl⟩)
      | (go_at_call 8; refine (plus_any _ _ (by assumption) (by assumption) _).mono ?_; rintro e w' ⟨rfl, rfl⟩))
    go_ret
    exact ⟨rfl, rfl⟩
  · have hm := plusF_mono ha hb hc (by omega)
    go_enter Tryd.func3, Tryd.ntmps3
    go_wp2_with (first
      | (go_at_call 9; refine (told_true _).mono ?_; rintro e w' ⟨rfl, rfl⟩)
      | (go_at_call 10; refine (refPlus_any _ _ (by assumption) (by assumption) _).mono ?_; rintro e w' ⟨rfl, rfl⟩)
      | (go_at_call 11; refine (reaches_any _ _ _ (by assumption) (by assumption) (by assumption) _).mono ?_; rintro e w' ⟨rfl, rfl⟩)
      | (go_at_call 12; refine (refReaches_any _ _ _ (by assumption) (by assumption) (by assumption) _).mono ?_; rintro e w' ⟨rfl, rfl⟩)
      | (go_at_call 8; refine (plus_any _ _ (by assumption) (by assumption) _).mono ?_; rintro e w' ⟨rfl, rfl⟩))
    go_ret
    exact ⟨rfl, rfl⟩
end Go.Proofs.YtcjbmeebenaonaaDoor.Stamp
