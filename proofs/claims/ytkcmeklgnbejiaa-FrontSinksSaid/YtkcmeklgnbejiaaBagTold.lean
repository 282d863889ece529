
/-
  PACKAGE marchlandlaw04: told.
-/
import Derived.Test.YtkcmeklgnbejiaaBagFind
import Derived.Test.YtkcmeklgnbejiaaBagApply
import Derived.Test.YtkcmeklgnbejiaaBatchTold
namespace Go.Proofs.Ytkcmeklgnbejiaa.Batch
open Go.RowKit
set_option linter.unusedVariables false

def U1 : List Ch := [⟨1, 5, 2⟩, ⟨1, 9, 1⟩]
def U2 : List Ch := [⟨1, 5, -2⟩]
def U3 : List Ch := [⟨1, 9, 1⟩]
def U4 : List Ch := [⟨1, 5, -1⟩]
theorem wf_small {x : Ch} (h0 : 0 ≤ x.p ∧ x.p ≤ 63) (h1 : 0 ≤ x.t ∧ x.t ≤ 1000) (h2 : -1000 ≤ x.d ∧ x.d ≤ 1000) : x.Wf := ⟨by omega, by omega, by omega, by omega, by omega, by omega⟩
theorem u1_wf : ∀ x ∈ U1, x.Wf := by
  intro x hx
  unfold U1 at hx
  simp at hx
  rcases hx with rfl | rfl <;> exact wf_small (by decide) (by decide) (by decide)
theorem u2_wf : ∀ x ∈ U2, x.Wf := by
  intro x hx
  unfold U2 at hx
  simp at hx
  subst hx
  exact wf_small (by decide) (by decide) (by decide)
theorem u3_wf : ∀ x ∈ U3, x.Wf := by
  intro x hx
  unfold U3 at hx
  simp at hx
  subst hx
  exact wf_small (by decide) (by decide) (by decide)
theorem u4_wf : ∀ x ∈ U4, x.Wf := by
  intro x hx
  unfold U4 at hx
  simp at hx
  subst hx
  exact wf_small (by decide) (by decide) (by decide)
theorem u1_right : RightP U1 := by
  unfold U1
  refine ⟨fun x hx => ?_, by simp [Lt]⟩
  simp at hx
  rcases hx with rfl | rfl <;> exact ⟨by decide, by decide⟩
theorem one_right {x : Ch} (h : wrongN x = 0) (h0 : x.d ≠ 0) : RightP [x] := ⟨fun y hy => by simp at hy; subst hy; exact ⟨h, h0⟩, by simp⟩
theorem u2_right : RightP U2 := one_right (by decide) (by decide)
theorem u3_right : RightP U3 := one_right (by decide) (by decide)
theorem u4_right : RightP U4 := one_right (by decide) (by decide)
theorem u_a : applyE U1 U2 = 0 ∧ applyR U1 U2 = U3 := ⟨by kernel_rfl, by kernel_rfl⟩
theorem u_b : applyE U3 U4 = 11 ∧ applyR U3 U4 = [] := ⟨by kernel_rfl, by kernel_rfl⟩
theorem u_l1 : leastL U1 1 = 5 := by kernel_rfl
theorem u_l2 : leastL U3 1 = 9 := by kernel_rfl
theorem u_l3 : leastL U3 0 = 18446744073709551615 := by kernel_rfl
theorem u_p : posB U1 = true := by kernel_rfl

set_option maxRecDepth 1000000 in
set_option maxHeartbeats 8000000 in
theorem bagtold_any (w : World) : Calls Try.prog 15 #[] w fun e w' => e = .returned (.bool true) ∧ Below w.heap.size w w' := by
  have HN := Lib.hid (fun (W : World) (L : List Ch) hw hl => sl_new W L 46 hw hl)
  have HU := Lib.hid (show U1.length = 2 ∧ U2.length = 1 ∧ U3.length = 1 ∧ U4.length = 1 from ⟨rfl, rfl, rfl, rfl⟩)
  have H1 := Lib.hid (HN.out w U1 u1_wf (by decide))
  have HB := Lib.hid (show Below w.heap.size w (w.alloc (.cells (cellsL U1).toArray 46)) from (Below.refl _ _).alloc (Nat.le_refl _) _)
  have H2 := Lib.hid (HN.out (w.alloc (.cells (cellsL U1).toArray 46)) U2 u2_wf (by decide))
  have hsz : (w.alloc (.cells (cellsL U1).toArray 46)).heap.size = w.heap.size + 1 := by simp
  replace H2 := Lib.hid (by have h := H2.out; rw [hsz] at h; exact h)
  clear hsz
  have HB2 := Lib.hid (show Below (w.alloc (.cells (cellsL U1).toArray 46)).heap.size (w.alloc (.cells (cellsL U1).toArray 46)) ((w.alloc (.cells (cellsL U1).toArray 46)).alloc (.cells (cellsL U2).toArray 46)) from (Below.refl _ _).alloc (Nat.le_refl _) _)
  replace HB := Lib.hid (HB.out.trans (HB2.out.mono HB.out.size))
  replace H1 := Lib.hid (H1.out.below HB2.out)
  have HA := Lib.hid (apply_any H1.out H2.out u1_right u2_right (by decide))
  clear HB2
  go_enter Try.func15, Try.ntmps15
  go_wp2_with fail
  go_at_call 13
  refine HA.out.mono ?_
  rw [u_a.1, u_a.2]
  rintro e w1 ⟨v1, rfl, hown, hb⟩
  replace H1 := Lib.hid (H1.out.below hb)
  replace HB := Lib.hid (HB.out.trans (hb.mono HB.out.size))
  have H3 := Lib.hid (hown.sl u3_wf)
  obtain ⟨ao1, cap1, rfl, _⟩ := hown.form'
  rw [HU.out.2.2.1] at H3 ⊢
  clear H2 HA hown hb
  have H4 := Lib.hid (HN.out w1 U4 u4_wf (by decide))
  have HB2 := Lib.hid (show Below w1.heap.size w1 (w1.alloc (.cells (cellsL U4).toArray 46)) from (Below.refl _ _).alloc (Nat.le_refl _) _)
  replace HB := Lib.hid (HB.out.trans (HB2.out.mono HB.out.size))
  replace H1 := Lib.hid (H1.out.below HB2.out)
  replace H3 := Lib.hid (H3.out.below HB2.out)
  have HA := Lib.hid (apply_any H3.out H4.out u3_right u4_right (by decide))
  clear HB2
  go_wp2_with fail
  go_at_call 13
  refine HA.out.mono ?_
  rw [u_b.1, u_b.2]
  rintro e w2 ⟨v2, rfl, hown, hb⟩
  replace H1 := Lib.hid (H1.out.below hb)
  replace H3 := Lib.hid (H3.out.below hb)
  replace HB := Lib.hid (HB.out.trans (hb.mono HB.out.size))
  obtain ⟨ao2, cap2, rfl, _⟩ := hown.form'
  clear H4 HA hown hb
  simp only [List.length_nil]
  go_wp2_with fail
  go_at_call 18
  refine (least_any 1 H1.out u1_right.2 (by decide)).mono ?_
  rw [u_l1]
  rintro e w3 ⟨rfl, hb⟩
  replace H1 := Lib.hid (H1.out.below hb)
  replace H3 := Lib.hid (H3.out.below hb)
  replace HB := Lib.hid (HB.out.trans (hb.mono HB.out.size))
  clear  hb
  go_wp2_with fail
  go_at_call 18
  refine (least_any 1 H3.out u3_right.2 (by decide)).mono ?_
  rw [u_l2]
  rintro e w4 ⟨rfl, hb⟩
  replace H1 := Lib.hid (H1.out.below hb)
  replace H3 := Lib.hid (H3.out.below hb)
  replace HB := Lib.hid (HB.out.trans (hb.mono HB.out.size))
  clear  hb
  go_wp2_with fail
  go_at_call 18
  refine (least_any 0 H3.out u3_right.2 (by decide)).mono ?_
  rw [u_l3]
  rintro e w5 ⟨rfl, hb⟩
  replace H1 := Lib.hid (H1.out.below hb)
  replace H3 := Lib.hid (H3.out.below hb)
  replace HB := Lib.hid (HB.out.trans (hb.mono HB.out.size))
  clear  hb
  go_wp2_with fail
  go_at_call 21
  refine (bagright_any H1.out u1_right).mono ?_
  rw [u_p]
  rintro e w6 ⟨rfl, hb⟩
  replace H1 := Lib.hid (H1.out.below hb)
  replace H3 := Lib.hid (H3.out.below hb)
  replace HB := Lib.hid (HB.out.trans (hb.mono HB.out.size))
  clear  hb
  go_wp2_with fail
  go_at_call 20
  refine (sum_any H3.out).mono ?_
  rintro e w9 ⟨rfl, rfl⟩
  rw [HU.out.2.2.1]
  go_wp2_with fail
  go_ret
  exact ⟨rfl, HB.out⟩
end Go.Proofs.Ytkcmeklgnbejiaa.Batch
