/-
  PACKAGE marchlandref03: Same, Pack, Minus, Fix, Merge.
-/
import Derived.Test.YtlkljeedlkbkgaaGreatDoorBatchRefSums
import Derived.Test.YtlkljeedlkbkgaaGreatDoorJoined5
namespace Go.Proofs.YtlkljeedlkbkgaaGreatDoor.Batch
open Go.RowKit Go.Lib
set_option linter.unusedVariables false

theorem neqRf : NeqAt Tryz.prog 67 (fun x : Ch => .agg (Ch.cells x).toArray) eqCh := by
  refine ⟨fun x y w => ?_, GuardAt.agg _ (by kernel_rfl)⟩
  have u3 := Tryz.underlying3
  have a3 := Tryz.isAgg3
  have z3 := Tryz.sizeOf3
  have u2 := Tryz.underlying2
  have a2 := Tryz.isAgg2
  have z2 := Tryz.sizeOf2
  have u42 := Tryz.underlying36
  have a42 := Tryz.isAgg36
  have z42 := Tryz.sizeOf36
  have hS : Tryz.prog.underlying 67 = some (.struct (Tryz.prog.fieldsOf 67)) := by kernel_rfl
  have hp : Tryz.prog.stoodInHeld 67 = false := by kernel_rfl
  simp only [Ch.cells]
  rw [run_neq_struct, show (10000 : Nat) = 9999 + 1 from rfl, run_equalIn_agg w 9999 67 _ _ hS hp]
  simp only [Program.fieldsOf, Tryz.underlying67]
  go_simp
  unfold eqCh
  by_cases h1 : x.p = y.p <;> by_cases h2 : x.t = y.t <;> by_cases h3 : x.d = y.d <;> simp [h1, h2, h3]
theorem neqRf' (x y : Ch) (w : World) : (binOp .neq 67 (.agg #[.int .i64 x.p, .int .u64 x.t, .int .i64 x.d]) (.agg #[.int .i64 y.p, .int .u64 y.t, .int .i64 y.d])).run Tryz.prog w = .ok (.bool (!eqCh x y)) w := neqRf.1 x y w

theorem eqCh_false {x y : Ch} (h : x ≠ y) : eqCh x y = false := by
  cases e : eqCh x y
  · rfl
  · exact absurd ((eqCh_iff x y).1 e) h
/-- The first i are the same. -/
def SameTo (a b : List Ch) (i : Nat) : Prop := a.take i = b.take i
theorem SameTo.step {a b : List Ch} {i : Nat} {x : Ch} (h : SameTo a b i) (ha : a[i]? = some x) (hb : b[i]? = some x) : SameTo a b (i + 1) := by
  unfold SameTo at *
  rw [take_succ' ha, take_succ' hb, h]
theorem SameTo.all {a b : List Ch} {i : Nat} (h : SameTo a b i) (ha : a.length ≤ i) (hb : b.length ≤ i) : eqL a b = true := by
  unfold SameTo at h
  rw [take_all ha, take_all hb] at h
  rw [h]
  exact eqL_self b
theorem not_same {a b : List Ch} {i : Nat} {x y : Ch} (ha : a[i]? = some x) (hb : b[i]? = some y) (h : x ≠ y) : eqL a b = false :=
  eqL_false fun e => h (by rw [e, hb] at ha; exact (Option.some.inj ha).symm)

set_option maxRecDepth 1000000 in
set_option maxHeartbeats 4000000 in
theorem refsame_any {w : World} {v1 v2 : Value} {a b : List Ch} (h1 : Rd w v1 a) (h2 : Rd w v2 b) :
    Calls Tryz.prog 41 #[v1, v2] w fun e w' => e = .returned (.bool (eqL a b)) ∧ Below w.heap.size w w' := by
  obtain ⟨ao1, cap1, rfl, hc1, hm1, _, k1⟩ := h1
  obtain ⟨ao2, cap2, rfl, hc2, hm2, _, k2⟩ := h2
  have K1 := Lib.hid k1
  have K2 := Lib.hid k2
  have hl1 : a.length ≤ 9223372036854775807 := by omega
  have hl2 : b.length ≤ 9223372036854775807 := by omega
  clear k1 k2 hc1 hc2 hm1 hm2
  by_cases hn : a.length = b.length
  · have HN := Lib.hid hn
    have hne : ((a.length : Int) != (b.length : Int)) = false := by rw [hn]; simp
    clear hn
    go_enter Tryz.func41, Tryz.ntmps41
    go_wp2
    go_loopg [5] a.length (fun k t wr => ∃ i : Nat, i + k = a.length ∧ t = .int .i64 i ∧ SameTo a b i ∧ ∃ q, wr = w.drewN q)
    case atStart => exact ⟨0, by omega, rfl, by unfold SameTo; simp, 0, rfl⟩
    case round =>
      obtain ⟨i, hik, rfl, hsm, q, rfl⟩ := hrel
      have HIK := Lib.hid hik
      have HS := Lib.hid hsm
      clear hsm hik
      by_cases hlt : i < a.length
      · obtain ⟨x, hx, _⟩ := at_of hlt
        obtain ⟨y, hy, _⟩ := at_of (show i < b.length by have := HN.out; omega)
        obtain ⟨b1, o1, ha1, c1⟩ := K1.out.resolve_left (by intro e; rw [e] at hlt; simp at hlt)
        obtain ⟨b2, o2, ha2, c2⟩ := K2.out.resolve_left (by intro e; rw [e] at hy; simp at hy)
        subst ha1 ha2
        obtain ⟨x0, x1, x2⟩ := c1 i x hx
        obtain ⟨y0, y1, y2⟩ := c2 i y hy
        have hi0 : (0 : Int) ≤ (i : Int) := Int.natCast_nonneg _
        have hi1 : (i : Int) < (a.length : Int) := by omega
        have hi2 : (i : Int) < (b.length : Int) := by have := HN.out; omega
        have HLT := Lib.hid hlt
        have hrun := neqRf' x y
        by_cases hxy : x = y
        · have HNEW := Lib.hid (HS.out.step hx (by rw [hxy]; exact hy))
          have he : eqCh x y = true := (eqCh_iff x y).2 hxy
          rw [he] at hrun
          clear hx hy c1 c2 K1 K2 hxy he
          go_wp2_with fail
          go_quiet (fail)
          go_wp2_with fail
          go_roundg (gk - 1)
          case measure => have := HIK.out; have := HLT.out; omega
          case rel => exact ⟨i + 1, by have := HIK.out; have := HLT.out; omega, by go_num, HNEW.out, _, rfl⟩
        · have HNEW := Lib.hid (not_same hx hy hxy)
          have he : eqCh x y = false := eqCh_false hxy
          rw [he] at hrun
          clear hx hy c1 c2 K1 K2 hxy he
          go_wp2_with fail
          go_quiet (fail)
          go_wp2_with fail
          go_ret
          exact ⟨by rw [HNEW.out]; rfl, below_drewN (below_drewN (Below.refl _ _) _) _⟩
      · have HD := Lib.hid (HS.out.all (by omega) (by have := HN.out; omega))
        go_wp2_with fail
        go_ret
        exact ⟨by rw [HD.out]; rfl, below_drewN (Below.refl _ _) _⟩
  · have HN := Lib.hid (eqL_false (a := a) (b := b) (fun e => hn (by rw [e])))
    have hne : ((a.length : Int) != (b.length : Int)) = true := by rw [bne_iff_ne]; omega
    clear hn
    go_enter Tryz.func41, Tryz.ntmps41
    go_wp2
    go_ret
    exact ⟨by rw [HN.out]; rfl, Below.refl _ _⟩
set_option maxRecDepth 1000000 in
set_option maxHeartbeats 4000000 in
theorem refpack_any {w : World} {v : Value} {l : List Ch} (hv : Rd w v l) :
    Calls Tryz.prog 75 #[v] w fun e w' => ∃ v' : Value, (e = .returned (.tuple #[v', .int .i64 (packE l)])) ∧ Own w' w.heap.size 67 v' (packR l) ∧ Below w.heap.size w w' := by
  have HV0 := Lib.hid hv
  obtain ⟨ao, cap, rfl, hlc, hcm, _, hcell⟩ := hv
  have HC := Lib.hid hcell
  have hlen : l.length ≤ 9223372036854775807 := by omega
  clear hcell hlc hcm
  by_cases h16 : 16 < l.length
  · have HR := Lib.hid (pack_many h16)
    have h16' : (16 : Int) < (l.length : Int) := by omega
    clear h16
    go_enter Tryz.func75, Tryz.ntmps75
    go_wp2
    go_ret2
    refine ⟨_, ret_two HR.out.1.symm, ?_, Below.refl _ _⟩
    rw [HR.out.2]
    exact Own.nil _ _ _
  · have H16 := Lib.hid h16
    have h16' : ¬ ((16 : Int) < (l.length : Int)) := by omega
    have HS := Lib.hid (refsums_any HV0.out (by omega))
    clear h16
    go_enter Tryz.func75, Tryz.ntmps75
    go_wp2
    go_loopg [4] l.length (fun k t wr => ∃ i : Nat, i + k = l.length ∧ t = .int .i64 i ∧ (∀ y ∈ l.take i, wrongN y = 0) ∧ wr = w)
    case atStart => exact ⟨0, by omega, rfl, by simp, rfl⟩
    case round =>
      obtain ⟨i, hik, rfl, hok, hwr⟩ := hrel
      subst wr
      have HIK := Lib.hid hik
      have HOK := Lib.hid hok
      clear hok hik
      by_cases hlt1 : i < l.length
      · obtain ⟨x, hx, hxm⟩ := at_of hlt1
        obtain ⟨b, off, hao, hcc⟩ := HC.out.resolve_left (by intro e; rw [e] at hlt1; simp at hlt1)
        subst hao
        obtain ⟨c0, c1, c2⟩ := hcc i x hx
        have HX := Lib.hid hx
        have hi0' : (0 : Int) ≤ (i : Int) := Int.natCast_nonneg _
        have hi1 : (i : Int) < (l.length : Int) := by omega
        have HLT := Lib.hid hlt1
        clear hx hxm hcc HC
        by_cases hp0 : x.p < 0
        · have HV := Lib.hid (show wrongN x = 2 from if_pos (.inl hp0))
          have HW := Lib.hid (show wrongN x ≠ 0 by rw [HV.out]; decide)
          have hj0 : decide (x.p < 0) = true := decide_eq_true hp0
          clear hp0
          have HR := Lib.hid (pack_wrong H16.out (by rw [firstWrong_at HX.out HOK.out HW.out]; exact HW.out))
          have HE := Lib.hid ((firstWrong_at HX.out HOK.out HW.out).trans HV.out)
          obtain ⟨p, t, d⟩ := x
          simp only at c0 c1 c2 hj0
          go_wp2_with fail
          go_ret2
          refine ⟨_, ret_two ((HR.out.1.trans HE.out).symm), ?_, Below.refl _ _⟩
          rw [HR.out.2]
          exact Own.nil _ _ _
        have hj0 : decide (x.p < 0) = false := decide_eq_false hp0
        by_cases hp1 : 64 ≤ x.p
        · have HV := Lib.hid (show wrongN x = 2 from if_pos (.inr hp1))
          have HW := Lib.hid (show wrongN x ≠ 0 by rw [HV.out]; decide)
          have hj1 : decide (63 < x.p) = true := decide_eq_true (by omega)
          clear hp0 hp1
          have HR := Lib.hid (pack_wrong H16.out (by rw [firstWrong_at HX.out HOK.out HW.out]; exact HW.out))
          have HE := Lib.hid ((firstWrong_at HX.out HOK.out HW.out).trans HV.out)
          obtain ⟨p, t, d⟩ := x
          simp only at c0 c1 c2 hj0 hj1
          go_wp2_with fail
          go_ret2
          refine ⟨_, ret_two ((HR.out.1.trans HE.out).symm), ?_, Below.refl _ _⟩
          rw [HR.out.2]
          exact Own.nil _ _ _
        have hj1 : decide (63 < x.p) = false := decide_eq_false (by omega)
        by_cases ht0 : x.t = 18446744073709551615
        · have HV := Lib.hid (show wrongN x = 1 by unfold wrongN; rw [if_neg (fun h => h.elim hp0 hp1), if_pos ht0])
          have HW := Lib.hid (show wrongN x ≠ 0 by rw [HV.out]; decide)
          have hj2 : (x.t == 18446744073709551615) = true := by rw [beq_iff_eq]; exact ht0
          clear hp0 hp1 ht0
          have HR := Lib.hid (pack_wrong H16.out (by rw [firstWrong_at HX.out HOK.out HW.out]; exact HW.out))
          have HE := Lib.hid ((firstWrong_at HX.out HOK.out HW.out).trans HV.out)
          obtain ⟨p, t, d⟩ := x
          simp only at c0 c1 c2 hj0 hj1 hj2
          go_wp2_with fail
          go_ret2
          refine ⟨_, ret_two ((HR.out.1.trans HE.out).symm), ?_, Below.refl _ _⟩
          rw [HR.out.2]
          exact Own.nil _ _ _
        have hj2 : (x.t == 18446744073709551615) = false := by rw [beq_eq_false_iff_ne]; exact ht0
        cases ho : overB x.d
        rotate_left 1
        · have HV := Lib.hid (show wrongN x = 10 by unfold wrongN; rw [if_neg (fun h => h.elim hp0 hp1), if_neg ht0, if_pos (show overB x.d = true from ho)])
          have HW := Lib.hid (show wrongN x ≠ 0 by rw [HV.out]; decide)
          clear hp0 hp1 ht0
          have HR := Lib.hid (pack_wrong H16.out (by rw [firstWrong_at HX.out HOK.out HW.out]; exact HW.out))
          have HE := Lib.hid ((firstWrong_at HX.out HOK.out HW.out).trans HV.out)
          obtain ⟨p, t, d⟩ := x
          simp only at c0 c1 c2 hj0 hj1 hj2 ho
          go_wp2_with (go_at_call 111; refine (within_any _ _).mono ?_; rintro e w' ⟨rfl, rfl⟩)
          go_ret2
          refine ⟨_, ret_two ((HR.out.1.trans HE.out).symm), ?_, Below.refl _ _⟩
          rw [HR.out.2]
          exact Own.nil _ _ _
        have HV := Lib.hid (show wrongN x = 0 by unfold wrongN; rw [if_neg (fun h => h.elim hp0 hp1), if_neg ht0, if_neg (by show ¬ overB x.d = true; rw [ho]; decide)])
        have HOK2 := Lib.hid (show ∀ y ∈ l.take (i + 1), wrongN y = 0 by
          intro y hy
          rw [take_succ' HX.out] at hy
          rcases List.mem_append.1 hy with hy | hy
          · exact HOK.out y hy
          · simp at hy; subst hy; exact HV.out)
        obtain ⟨p, t, d⟩ := x
        simp only at c0 c1 c2 hj0 hj1 hj2 ho
        clear hp0 hp1 ht0
        go_wp2_with (go_at_call 111; refine (within_any _ _).mono ?_; rintro e w' ⟨rfl, rfl⟩)
        go_roundg (gk - 1)
        case measure => have := HIK.out; have := HLT.out; omega
        case rel => exact ⟨i + 1, by have := HIK.out; have := HLT.out; omega, by go_num, HOK2.out, rfl⟩
      · have HF := Lib.hid (firstWrong_none (l := l) (by have h := HOK.out; rw [take_all (by omega)] at h; exact h))
        have HP := Lib.hid (pack_ok H16.out HF.out)
        have HO0 := Lib.hid (fun h : overK l = true => sums_over h)
        have HO1 := Lib.hid (fun h : overK l = false => sums_ok h)
        go_wp2_with fail
        go_at_call 106
        refine HS.out.mono ?_
        rintro e w1 ⟨v1, rfl, hown1, hb1⟩
        have HO := Lib.hid hown1
        have HB := Lib.hid hb1
        clear hown1 hb1
        cases ho : overK l
        · go_wp2_with fail
          go_ret2
          refine ⟨_, ret_two ((HP.out.1.trans (HO1.out ho).1).symm), ?_, HB.out⟩
          rw [HP.out.2]
          exact HO.out
        · go_wp2_with fail
          go_ret2
          refine ⟨_, ret_two ((HP.out.1.trans (HO0.out ho).1).symm), ?_, HB.out⟩
          rw [HP.out.2, (HO0.out ho).2]
          exact Own.nil _ _ _
end Go.Proofs.YtlkljeedlkbkgaaGreatDoor.Batch
