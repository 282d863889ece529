/-
  PACKAGE mem: Log; a Mem that isn't there.
-/
import Derived.Test.YtmggnalobfihnaaMemNew
import Derived.Shelf.SlicesE.Clone
namespace Go.Proofs.Ytmggnalobfihnaa.Mm
open Go.RowKit Rw Pk Go.Maps Go.Shelf
set_option linter.unusedVariables false

theorem cloneEv_any {w : World} {τ : Nat → Nat} {t : Nat} {v : Value} {l : List Ev} (h : Row evK w τ t 98 v l) (hl : l.length ≤ 1000000) :
    Calls Try.prog 41 #[v] w fun e w' => ∃ v', e = .returned v' ∧ Own evK w' w.heap.size 98 v' l ∧ Below w.heap.size w w' := by
  obtain ⟨i0, hi, hz0, hz1, hz2⟩ := info_partsP infoEv
  rcases h.1.form with ⟨rfl, rfl⟩ | ⟨g, cap, rfl, _, hg, hc1, hc2⟩
  · exact (AnyE.slices_Clone_nil Try.cloneEv 0 0 w).mono fun e w' ⟨he, hw⟩ => ⟨_, he, by rw [hw]; exact Own.nil _ _ _, by rw [hw]; exact Below.refl _ _⟩
  · refine (AnyE.slices_Clone Try.cloneEv i0 (.agg #[.int .i64 0, .int .i64 0, .int .i64 0, .bool false]) 4 32 hi hz0 hz1 hz2 rfl (by omega) Try.sizeOf98 g 0 l.length cap (evK.flat l) w (flat_length l) (by unfold maxLen; omega) (by omega) (fun j u hu => ?_) (flat_one l)).mono
      fun e w' ⟨v', he, ho, _, hb⟩ => ⟨v', he, ho, hb⟩
    have := World.ownsRow.cells h.1 (g := g) rfl j u hu
    rwa [show ((⟨g, 0, none⟩ : Addr).add j) = ⟨g, 0 + j, none⟩ by unfold Addr.add; split <;> simp_all] at this
set_option maxRecDepth 1000000 in
set_option maxHeartbeats 4000000 in
theorem log_any {w : World} {τ : Nat → Nat} {b : Nat} {M : St} (hM : MemAt τ w b M) (hB : Bnd M) :
    Calls Try.prog 22 #[.pointer (some ⟨b, 0, none⟩)] w fun e w' => ∃ v, e = .returned v ∧ Own evK w' w.heap.size 98 v M.lg ∧ Below w.heap.size w w' := by
  have hl := hB.2.2.2.1
  obtain ⟨V, hV⟩ := hM
  obtain ⟨_, _, _, _, c4, _⟩ := five hV.st
  have HC := Lib.hid (cloneEv_any hV.lg hl)
  obtain ⟨ao, cap, hv⟩ := row_form hV.lg
  rw [hv] at c4 HC
  clear hV hv
  go_enter Try.func22, Try.ntmps22
  go_wp2_with fail
  go_at_call 41
  refine HC.out.mono ?_
  rintro e w1 ⟨v', rfl, ho, hb⟩
  have HO := Lib.hid ho
  have HB := Lib.hid hb
  clear ho hb
  go_wp2_with fail
  go_ret
  exact ⟨_, rfl, HO.out, HB.out⟩

/-! ### a Mem that isn't there -/
set_option maxRecDepth 1000000 in
theorem there_nil (k : Int) (a : Int) (w : World) : Calls Try.prog 44 #[.pointer none, .int .i64 k, .int .i64 a] w fun e w' => e = .returned (.bool false) ∧ w = w' := by
  go_enter Try.func44, Try.ntmps44
  go_wp2_with fail
  go_ret
  exact ⟨rfl, rfl⟩
set_option maxRecDepth 1000000 in
theorem may_nil (who : Int) (k : Int) (a : Int) (w : World) : Calls Try.prog 63 #[.pointer none, .int .i64 who, .int .i64 k, .int .i64 a] w fun e w' => e = .returned (.bool false) ∧ w = w' := by
  go_enter Try.func63, Try.ntmps63
  go_wp2_with fail
  go_at_call 44
  refine (there_nil k a _).mono ?_
  rintro e w' ⟨rfl, rfl⟩
  go_wp2_with fail
  go_ret
  exact ⟨rfl, rfl⟩
set_option maxRecDepth 1000000 in
theorem load_nil (who : Int) (a : Int) (w : World) : Calls Try.prog 43 #[.pointer none, .int .i64 who, .int .i64 a] w fun e w' => e = .returned (.int .u64 0) ∧ w = w' := by
  go_enter Try.func43, Try.ntmps43
  go_wp2_with fail
  go_at_call 63
  refine (may_nil who 0 a _).mono ?_
  rintro e w' ⟨rfl, rfl⟩
  go_wp2_with fail
  go_ret
  exact ⟨rfl, rfl⟩
set_option maxRecDepth 1000000 in
theorem store_nil (who : Int) (a : Int) (x : Int) (w : World) : Calls Try.prog 52 #[.pointer none, .int .i64 who, .int .i64 a, .int .u64 x] w fun e w' => e = .returned (.tuple #[]) ∧ w = w' := by
  go_enter Try.func52, Try.ntmps52
  go_wp2_with fail
  go_at_call 63
  refine (may_nil who 1 a _).mono ?_
  rintro e w' ⟨rfl, rfl⟩
  go_wp2_with fail
  go_end0
  exact ⟨rfl, rfl⟩
set_option maxRecDepth 1000000 in
theorem get_nil (who : Int) (a : Int) (w : World) : Calls Try.prog 50 #[.pointer none, .int .i64 who, .int .i64 a] w fun e w' => e = .returned (.slice none 0 0) ∧ w = w' := by
  go_enter Try.func50, Try.ntmps50
  go_wp2_with fail
  go_at_call 63
  refine (may_nil who 2 a _).mono ?_
  rintro e w' ⟨rfl, rfl⟩
  go_wp2_with fail
  go_ret
  exact ⟨rfl, rfl⟩
set_option maxRecDepth 1000000 in
theorem setm_nil (who : Int) (a : Int) (w : World) : Calls Try.prog 51 #[.pointer none, .int .i64 who, .int .i64 a, .slice none 0 0] w fun e w' => e = .returned (.tuple #[]) ∧ w = w' := by
  go_enter Try.func51, Try.ntmps51
  go_wp2_with fail
  go_at_call 63
  refine (may_nil who 3 a _).mono ?_
  rintro e w' ⟨rfl, rfl⟩
  go_wp2_with fail
  go_end0
  exact ⟨rfl, rfl⟩
set_option maxRecDepth 1000000 in
theorem takem_nil (who : Int) (a : Int) (w : World) : Calls Try.prog 48 #[.pointer none, .int .i64 who, .int .i64 a] w fun e w' => e = .returned (.bool false) ∧ w = w' := by
  go_enter Try.func48, Try.ntmps48
  go_wp2_with fail
  go_at_call 63
  refine (may_nil who 4 a _).mono ?_
  rintro e w' ⟨rfl, rfl⟩
  go_wp2_with fail
  go_ret
  exact ⟨rfl, rfl⟩
set_option maxRecDepth 1000000 in
theorem release_nil (who : Int) (k : Int) (a : Int) (w : World) : Calls Try.prog 67 #[.pointer none, .int .i64 who, .int .i64 k, .int .i64 a] w fun e w' => e = .returned (.bool false) ∧ w = w' := by
  go_enter Try.func67, Try.ntmps67
  go_wp2_with fail
  go_at_call 63
  refine (may_nil who k a _).mono ?_
  rintro e w' ⟨rfl, rfl⟩
  go_wp2_with fail
  go_ret
  exact ⟨rfl, rfl⟩
set_option maxRecDepth 1000000 in
theorem freem_nil (who : Int) (a : Int) (w : World) : Calls Try.prog 53 #[.pointer none, .int .i64 who, .int .i64 a] w fun e w' => e = .returned (.bool false) ∧ w = w' := by
  go_enter Try.func53, Try.ntmps53
  go_wp2_with fail
  go_at_call 67
  refine (release_nil who 5 a _).mono ?_
  rintro e w' ⟨rfl, rfl⟩
  go_wp2_with fail
  go_ret
  exact ⟨rfl, rfl⟩
set_option maxRecDepth 1000000 in
theorem asleep_nil (who : Int) (w : World) : Calls Try.prog 34 #[.pointer none, .int .i64 who] w fun e w' => e = .returned (.bool false) ∧ w = w' := by
  go_enter Try.func34, Try.ntmps34
  go_wp2_with fail
  go_ret
  exact ⟨rfl, rfl⟩
set_option maxRecDepth 1000000 in
theorem holder_nil (l : Int) (w : World) : Calls Try.prog 28 #[.pointer none, .int .i64 l] w fun e w' => e = .returned (.int .i64 (-1)) ∧ w = w' := by
  go_enter Try.func28, Try.ntmps28
  go_wp2_with fail
  go_at_call 44
  refine (there_nil 4 l _).mono ?_
  rintro e w' ⟨rfl, rfl⟩
  go_wp2_with fail
  go_ret
  exact ⟨rfl, rfl⟩
set_option maxRecDepth 1000000 in
theorem time_nil (w : World) : Calls Try.prog 12 #[.pointer none] w fun e w' => e = .returned (.int .i64 0) ∧ w = w' := by
  go_enter Try.func12, Try.ntmps12
  go_wp2_with fail
  go_ret
  exact ⟨rfl, rfl⟩
set_option maxRecDepth 1000000 in
theorem logm_nil (w : World) : Calls Try.prog 22 #[.pointer none] w fun e w' => e = .returned (.slice none 0 0) ∧ w = w' := by
  go_enter Try.func22, Try.ntmps22
  go_wp2_with fail
  go_ret
  exact ⟨rfl, rfl⟩
end Go.Proofs.Ytmggnalobfihnaa.Mm
