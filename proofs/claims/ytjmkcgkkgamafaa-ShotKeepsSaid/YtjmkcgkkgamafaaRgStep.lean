/-
  PACKAGE ring: end, access, Step: of any act.
-/
import Derived.Test.YtjmkcgkkgamafaaRgPush
import Derived.Test.YtjmkcgkkgamafaaRgPop
import Derived.Test.YtjmkcgkkgamafaaBatchRefSums
namespace Go.Proofs.Ytjmkcgkkgamafaa.Rg
open Go.RowKit Rw Pk Go.Maps Mm
set_option linter.unusedVariables false
section
variable {w w' : World} {R : Ri} {A : Ac} {n a r : Nat} {w0 wr : World} {fs zs : List Nat} {l : List Batch.Ch} {M M' : Mm.St}
def endR (x : Bool) (R : Ri) (A : Ac) : Ri := if x then (if A.pops then { R with pp := false } else { R with ps := false }) else R
def endA (x : Bool) (A : Ac) (t : Int) : Ac := if x then (if A.pops then { A with ov := true, mk' := t } else { A with ov := true, mk' := t, bv := .slice none 0 0 }) else A
def endL (x : Bool) (A : Ac) (l : List Batch.Ch) : List Batch.Ch := if x then (if A.pops then l else []) else l
set_option maxRecDepth 1000000 in
set_option maxHeartbeats 8000000 in
theorem rgend_any (h : Rg n w0 wr fs zs a r R A l M w) (t : Int) :
    Calls Try.prog 68 #[.pointer (some ⟨a, 0, none⟩), .int .i64 t] w fun e w' => e = .returned (.tuple #[]) ∧ Rg n w0 wr fs zs a r (endR true R A) (endA true A t) (endL true A l) M w' := by
  have HR := Lib.hid h
  have hne := h.ne
  have hne' := Ne.symm h.ne
  obtain ⟨c0, c1, c2, c3, c4, c5, c6, c7, c8, c9, cf⟩ := h.ac.cells
  obtain ⟨r0, r1, r2, r3, r4, r5, rf⟩ := h.ri.cells
  rw [h.ar] at c0
  clear h
  have HR1 := Lib.hid (HR.out.setA 8 (.bool true) (HR.out.ac.set8 true) rfl rfl)
  have HR2 := Lib.hid (HR1.out.setA 9 (.int .i64 t) (HR1.out.ac.set9 t) rfl rfl)
  obtain ⟨d0, d1, d2, d3, d4, d5, d6, d7, d8, d9, df⟩ := HR2.out.ac.cells
  obtain ⟨s0, s1, s2, s3, s4, s5, sf⟩ := HR2.out.ri.cells
  simp only at d0 d2 d3
  rw [HR.out.ar] at d0
  cases hp : A.pops with
  | true =>
    rw [hp] at d2 c2
    go_enter Try.func68, Try.ntmps68
    go_wp2_with fail
    ((try simp only [Exit.inBlock, Exit.then]); refine bodyPost_ret (results_none rfl _ _ _) rfl ?_)
    refine ⟨rfl, ?_⟩
    have hx := HR2.out.setR 5 (.bool false) (HR2.out.ri.set5 false) rfl
    unfold endR endA endL
    simp only [hp, if_true]
    rw [hp] at hx
    exact hx
  | false =>
    rw [hp] at d2 c2
    have HR3 := Lib.hid (HR2.out.setR 4 (.bool false) (HR2.out.ri.set4 false) rfl)
    have HR4 := Lib.hid (HR3.out.setV (.slice none 0 0) (Batch.Sl.nil _) (fun g hg => by simp [Value.ownBlock] at hg))
    obtain ⟨q0, q1, q2, q3, q4, q5, q6, q7, q8, q9, qf⟩ := HR3.out.ac.cells
    go_enter Try.func68, Try.ntmps68
    go_wp2_with fail
    go_end0
    refine ⟨rfl, ?_⟩
    unfold endR endA endL
    simp only [hp, if_true, Bool.false_eq_true, if_false]
    have hx := HR4.out
    rw [hp] at hx
    exact hx
def rgDo (b : Bool) : FuncId := if b then 98 else 99
set_option maxRecDepth 1000000 in
set_option maxHeartbeats 8000000 in
theorem rgaccess_any (h : Rg n w0 wr fs zs a r R A l M w) (hacc : 0 ≤ A.acc ∧ A.acc ≤ 1000) {Q : Bool → World → Prop}
    (hc : ∀ w', w.heap.size ≤ w'.heap.size → Rg n w0 wr fs zs a r R { A with acc := A.acc + 1 } l M w' → Calls Try.prog (rgDo A.pops) #[.pointer (some ⟨a, 0, none⟩)] w' fun e w'' => ∃ x, e = .returned (.bool x) ∧ Q x w'') :
    Calls Try.prog 67 #[.pointer (some ⟨a, 0, none⟩)] w fun e w' => ∃ x, e = .returned (.bool x) ∧ Q x w' := by
  have HR := Lib.hid h
  have HC := Lib.hid hc
  obtain ⟨c0, c1, c2, c3, c4, c5, c6, c7, c8, c9, cf⟩ := h.ac.cells
  have hw1 : IntKind.i64.wrap (A.acc + 1) = A.acc + 1 := by simp [IntKind.wrap, IntKind.bits, IntKind.signed]; omega
  have hw2 : wrap64 (A.acc + 1) = A.acc + 1 := by unfold wrap64; omega
  clear h hc hacc
  have HR1 := Lib.hid (HR.out.setA 4 (.int .i64 (A.acc + 1)) (HR.out.ac.set4 (A.acc + 1)) rfl rfl)
  cases hp : A.pops with
  | true =>
    rw [hp] at c2
    go_enter Try.func67, Try.ntmps67
    go_wp2_with fail
    go_at_call 98
    try rw [hw2]
    try rw [hw1]
    have hcc := HC.out _ (by rw [Mm.size_setCell]; exact Nat.le_refl _) HR1.out
    rw [hp] at hcc
    refine Calls.mono hcc ?_
    clear hcc
    rintro e w3 ⟨x, rfl, hq⟩
    have HQ := Lib.hid hq
    clear hq
    go_wp2_with fail
    go_ret
    exact ⟨x, rfl, HQ.out⟩
  | false =>
    rw [hp] at c2
    go_enter Try.func67, Try.ntmps67
    go_wp2_with fail
    go_at_call 99
    try rw [hw2]
    try rw [hw1]
    have hcc := HC.out _ (by rw [Mm.size_setCell]; exact Nat.le_refl _) HR1.out
    rw [hp] at hcc
    refine Calls.mono hcc ?_
    clear hcc
    rintro e w3 ⟨x, rfl, hq⟩
    have HQ := Lib.hid hq
    clear hq
    go_wp2_with fail
    go_ret
    exact ⟨x, rfl, HQ.out⟩
set_option maxRecDepth 1000000 in
set_option maxHeartbeats 8000000 in
theorem rgstep_any (h : Rg n w0 wr fs zs a r R A l M w) (hov : A.ov = false) (hsp : M.sp A.who = false) (hwho : I64 A.who) (hl : M.lg.length ≤ 1000000) {Q : Bool → Ac → List Batch.Ch → Mm.St → List Nat → Prop}
    (hc : ∀ w', w.heap.size ≤ w'.heap.size → Rg n w0 wr fs zs a r R A l M w' → Calls Try.prog 67 #[.pointer (some ⟨a, 0, none⟩)] w' fun e w'' => ∃ x, e = .returned (.bool x) ∧ ∃ A' l' M' zs', Q x A' l' M' zs' ∧ Rg n w0 wr fs zs' a r R A' l' M' w'')
    (hq : ∀ x A' l' M' zs', Q x A' l' M' zs' → M'.lg.length = M.lg.length + 1 ∧ A'.ov = false) :
    Calls Try.prog 28 #[.pointer (some ⟨a, 0, none⟩)] w fun e w' => ∃ x, e = .returned (.bool x) ∧ ∃ A' l' M' zs', Q x A' l' M' zs' ∧ Rg n w0 wr fs zs' a r (endR x R A') (endA x A' (M'.lg.length : Int)) (endL x A' l') M' w' := by
  have HR := Lib.hid h
  have HC := Lib.hid hc
  have HQ := Lib.hid hq
  have HOV := Lib.hid (rgover_any h.ac)
  rw [hov] at HOV
  have HSP := Lib.hid (Mm.mz_asleep h.mz A.who hwho)
  rw [hsp] at HSP
  have HTM := Lib.hid (Mm.mz_time h.mz)
  obtain ⟨c0, c1, c2, c3, c4, c5, c6, c7, c8, c9, cf⟩ := h.ac.cells
  obtain ⟨r0, _⟩ := h.ri.cells
  rw [h.ar] at c0
  clear h hc hq hov hsp hwho hl
  go_enter Try.func28, Try.ntmps28
  go_wp2_with fail
  go_at_call 16
  refine HOV.out.mono ?_
  rintro e w1 ⟨rfl, rfl⟩
  go_wp2_with fail
  go_at_call 66
  refine HSP.out.mono ?_
  rintro e w1 ⟨rfl, rfl⟩
  go_wp2_with fail
  go_at_call 14
  refine HTM.out.mono ?_
  rintro e w1 ⟨rfl, rfl⟩
  go_wp2_with fail
  go_at_call 67
  refine (HC.out _ (Nat.le_refl _) HR.out).mono ?_
  rintro e w3 ⟨x, rfl, A', l', M', zs', hQ, hr3⟩
  obtain ⟨q1, q2⟩ := HQ.out _ _ _ _ _ hQ
  have HQQ := Lib.hid hQ
  have HR3 := Lib.hid hr3
  have HTM3 := Lib.hid (Mm.mz_time hr3.mz)
  obtain ⟨d0, d1, d2, d3, d4, d5, d6, d7, d8, d9, df⟩ := hr3.ac.cells
  rw [hr3.ar] at d0
  rw [q2] at d8
  have Q1 := Lib.hid q1
  have hne : ((M'.lg.length : Int) == (M.lg.length : Int)) = false := by rw [beq_eq_false_iff_ne]; omega
  have hne2 : decide ((M'.lg.length : Int) = (M.lg.length : Int)) = false := decide_eq_false (by omega)
  generalize hT' : (M'.lg.length : Int) = T' at *
  generalize hT : (M.lg.length : Int) = T at *
  clear hQ hr3 q1 HTM HSP HOV HC HQ c0 c1 c2 c3 c4 c5 c6 c7 c8 c9 cf r0
  cases x with
  | false =>
    go_wp2_with fail
    go_at_call 14
    refine HTM3.out.mono ?_
    rintro e w4 ⟨rfl, rfl⟩
    go_wp2_with fail
    go_ret
    exact ⟨false, rfl, A', l', M', zs', HQQ.out, HR3.out⟩
  | true =>
    go_wp2_with fail
    go_at_call 14
    refine HTM3.out.mono ?_
    rintro e w4 ⟨rfl, rfl⟩
    go_wp2_with fail
    go_at_call 68
    refine (rgend_any HR3.out T').mono ?_
    rintro e w5 ⟨rfl, hr5⟩
    have HR5 := Lib.hid hr5
    obtain ⟨_, _, _, _, _, _, _, _, e8, _, _⟩ := hr5.ac.cells
    have e8' : w5.cell? ⟨a, 8, none⟩ = some (.bool true) := by
      rw [e8]
      unfold endA
      cases A'.pops <;> rfl
    clear hr5 e8
    go_wp2_with fail
    go_ret
    exact ⟨true, rfl, A', l', M', zs', HQQ.out, by rw [hT']; exact HR5.out⟩
end
end Go.Proofs.Ytjmkcgkkgamafaa.Rg
