/-
  PACKAGE marchlandlaw11: told.
-/
import Derived.Test.YtjmkcgkkgamafaaRgQs
import Derived.Test.YtjmkcgkkgamafaaRgAlone
namespace Go.Proofs.Ytjmkcgkkgamafaa.Rg
open Go.RowKit Rw Pk Go.Maps Mm
set_option linter.unusedVariables false
theorem gi_init {N : Nat} (hN : 1 ≤ N) : Gi N [] 0 0 0 0 [] 0 [] 0 (initS 4 (N + 2) 0) :=
  ⟨good_init 4 (N + 2) 0, fun _ => rfl, rfl, rfl, rfl, Nat.zero_le _, hN, fun i z h => by simp at h, by omega, by omega, by omega, by omega⟩
theorem rgch_new (w : World) (p t d : Int) (T : TypeId) (hw : (⟨p, t, d⟩ : Batch.Ch).Wf) : Batch.Sl (w.alloc (.cells #[.int .i64 p, .int .u64 t, .int .i64 d] T)) (.slice (some ⟨w.heap.size, 0, none⟩) 1 1) [⟨p, t, d⟩] := by
  have h := heap_alloc_new w (.cells #[.int .i64 p, .int .u64 t, .int .i64 d] T)
  have hc : ∀ o, (w.alloc (.cells #[.int .i64 p, .int .u64 t, .int .i64 d] T)).cell? ⟨w.heap.size, o, none⟩ = #[Value.int .i64 p, .int .u64 t, .int .i64 d][o]? := fun o => cell_of_row _ _ _ _ _ _ h
  refine ⟨_, _, rfl, .inr ⟨w.heap.size, 0, rfl, fun i x hx => ?_⟩, Nat.le_refl _, by decide, fun x hx => by simp at hx; subst hx; exact hw⟩
  cases i with
  | succ k => simp at hx
  | zero =>
    simp at hx
    subst hx
    exact ⟨hc _, hc _, hc _⟩
theorem rgch_wf : (⟨0, 5, 1⟩ : Batch.Ch).Wf := ⟨by decide, by decide, by decide, by decide, by decide, by decide⟩
set_option maxRecDepth 1000000 in
set_option maxHeartbeats 8000000 in
theorem rgtold_any (w : World) :
    Calls Try.prog 13 #[] w fun e w' => e = .returned (.bool true) ∧ Below w.heap.size w w' := by
  go_enter Try.func13, Try.ntmps13
  go_wp2_with fail
  go_at_call 12
  refine (rgbegin_any (N := 1) (.inl rfl) w).mono ?_
  rintro e w1 ⟨p, r, zs, rfl, hq⟩
  have HQ := Lib.hid hq
  have HG0 := Lib.hid (gi_init (N := 1) (Nat.le_refl _))
  clear hq
  go_wp2_with fail
  go_at_call 25
  have hb1 : Below w1.heap.size w1 (w1.alloc (.cells #[.int .i64 0, .int .u64 5, .int .i64 1] 85)) := (Below.refl _ _).alloc (Nat.le_refl _) _
  refine (rgpush_yes (HQ.out.below hb1) rfl 0 (rgch_new w1 0 5 1 _ rgch_wf) (by decide) (fun g hg => by
    have e : w1.heap.size = g := by simpa [Value.ownBlock] using hg
    have := HQ.out.ri.lt
    omega)).mono ?_
  rintro e w2 ⟨a, rfl, ha, bv, zs1, z1, z2, hg⟩
  have HG := Lib.hid (show Rg w.heap.size w w1 [] zs1 a r ⟨p, 1, 1, ((1 : Nat) : Int), true, false⟩ ⟨r, 0, false, bv, 0, 0, 0, false, false, 0⟩ [⟨0, 5, 1⟩] (initS 4 (1 + 2) 0) w2 from hg)
  clear hg hb1
  go_wp2_with fail
  go_at_call 17
  refine (alone_push_ok HG.out (HG0.out.pushN [⟨0, 5, 1⟩]) (by decide) (by decide) (by decide) (by decide) ⟨by decide, by simp; exact rgch_wf⟩ (by decide)).mono ?_
  rintro e w3 ⟨rfl, M1, g1, hl1, hr⟩
  have HG1 := Lib.hid g1
  have HR := Lib.hid hr
  clear g1 hr hl1
  go_wp2_with fail
  go_at_call 19
  refine (rgok_any HR.out.ac).mono ?_
  rintro e w4 ⟨rfl, rfl⟩
  go_wp2_with fail
  go_at_call 25
  refine (rgpush_yes (HR.out.ring (by simp)) rfl 0 (Batch.Sl.nil _) (by decide) (fun g hg => by simp [Value.ownBlock] at hg)).mono ?_
  rintro e w5 ⟨b, rfl, hb, bv2, zs2, z3, z4, hg⟩
  have HG := Lib.hid (show Rg w.heap.size w w1 [] zs2 b r ⟨p, 1, 1, ((1 : Nat) : Int), true, false⟩ ⟨r, 0, false, bv2, 0, 0, 0, false, false, 0⟩ [] M1 w5 from hg)
  clear hg
  go_wp2_with fail
  go_at_call 17
  refine (alone_push_no HG.out (HG1.out.pushN []) (by decide) (by decide) (by decide) (by decide) rfl).mono ?_
  rintro e w6 ⟨rfl, M2, g2, hl2, hr⟩
  have HG2 := Lib.hid g2
  have HR2 := Lib.hid hr
  clear g2 hr
  go_wp2_with fail
  go_at_call 19
  refine (rgok_any HR2.out.ac).mono ?_
  rintro e w7 ⟨rfl, rfl⟩
  go_wp2_with fail
  go_at_call 15
  refine (rgpop_yes ((HR2.out.ring (by simp)).rebase (fs' := [b]) (by intro j hj; obtain rfl := List.mem_singleton.1 hj; exact HR2.out.am)) rfl 1).mono ?_
  rintro e w8 ⟨c, rfl, hc, zs3, z5, z6, hg⟩
  have HG := Lib.hid (show Rg w.heap.size w w6 [b] zs3 c r ⟨p, 1, 1, ((1 : Nat) : Int), false, true⟩ ⟨r, 1, true, .slice none 0 0, 0, 0, 0, false, false, 0⟩ [] M2 w8 from hg)
  have HBC := Lib.hid (show b ≠ c ∧ b ≠ r from ⟨fun e => by have := HR2.out.ac.lt; omega, HR2.out.ne⟩)
  clear hg
  go_wp2_with fail
  go_at_call 17
  refine (alone_pop_ok HG.out HG2.out (by decide) (by decide) (by decide) (by decide) (by simp)).mono ?_
  rintro e w9 ⟨rfl, M3, b', v3, zs4, he3, g3, hl3, z7, z8, hr⟩
  obtain rfl : b' = [⟨0, 5, 1⟩] := by simpa using he3.symm
  have HR3 := Lib.hid hr
  have HAB := Lib.hid (HR2.out.ac.of_block (HR3.out.fr b (by simp) HBC.out.1 HBC.out.2))
  have hm1 : (M2.lg.length : Int) < (M3.lg.length : Int) := by omega
  have hm2 : (0 : Int) < (M2.lg.length : Int) := by omega
  clear g3 hr he3 hl2 hl3
  go_wp2_with fail
  go_at_call 19
  refine (rgok_any HR3.out.ac).mono ?_
  rintro e w10 ⟨rfl, rfl⟩
  go_wp2_with fail
  go_at_call 22
  refine (rgbatch_any HR3.out.ac HR3.out.sl (by decide)).mono ?_
  rintro e w11 ⟨v4, rfl, ho, hb4⟩
  obtain ⟨g4, c4, rfl⟩ : ∃ g c, v4 = .slice (some ⟨g, 0, none⟩) 1 c := by
    rcases Batch.Own.form ho with ⟨h, _⟩ | ⟨g, c, h, _⟩
    · cases h
    · exact ⟨g, c, h⟩
  have HB4 := Lib.hid hb4
  clear ho hb4
  go_wp2_with fail
  go_at_call 22
  have hr4 := HR3.out.below HB4.out
  refine (rgbatch_any hr4.ac hr4.sl (by decide)).mono ?_
  rintro e w12 ⟨v5, rfl, ho, hb5⟩
  obtain ⟨g5, c5, rfl, _, _⟩ : ∃ g c, v5 = .slice (some ⟨g, 0, none⟩) 1 c ∧ True ∧ True := by
    rcases Batch.Own.form ho with ⟨h, _⟩ | ⟨g, c, h, _⟩
    · cases h
    · exact ⟨g, c, h, trivial, trivial⟩
  obtain ⟨d0, d1, d2⟩ := Batch.Own.at ho (i := 0) rfl
  have HB5 := Lib.hid hb5
  have HR5 := Lib.hid (hr4.below hb5)
  have HAB5 := Lib.hid ((HAB.out.of_block (HB4.out.block b HAB.out.lt)))
  have HAB6 := Lib.hid ((HAB5.out.of_block (HB5.out.block b HAB5.out.lt)))
  clear ho hb5 hr4
  go_wp2_with fail
  go_at_call 23
  refine (rgmark_any HR5.out.ac).mono ?_
  rintro e w13 ⟨rfl, rfl⟩
  go_wp2_with fail
  go_at_call 23
  refine (rgmark_any HAB6.out).mono ?_
  rintro e w14 ⟨rfl, rfl⟩
  go_wp2_with fail
  go_at_call 23
  refine (rgmark_any HAB6.out).mono ?_
  rintro e w15 ⟨rfl, rfl⟩
  go_wp2_with fail
  go_ret
  exact ⟨pbool (decide_eq_true (by omega)), HR5.out.mz.kept⟩
end Go.Proofs.Ytjmkcgkkgamafaa.Rg
