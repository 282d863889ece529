/-
  PACKAGE marchlandref03: Same, Pack, Minus, Fix, Merge.
  PACKAGE marchlandref03: Minus, Fix, Merge.
-/
import Derived.Test.YtkeldggdllaheaaBatchRefSums
import Derived.Test.YtkeldggdllaheaaJoined4
namespace Go.Proofs.Ytkeldggdllaheaa.Batch
open Go.RowKit Go.Lib
set_option linter.unusedVariables false

theorem neqRf : NeqAt Try.prog 65 (fun x : Ch => .agg (Ch.cells x).toArray) eqCh := by
  refine ⟨fun x y w => ?_, GuardAt.agg _ (by kernel_rfl)⟩
  have u3 := Try.underlying3
  have a3 := Try.isAgg3
  have z3 := Try.sizeOf3
  have u2 := Try.underlying2
  have a2 := Try.isAgg2
  have z2 := Try.sizeOf2
  have u42 := Try.underlying23
  have a42 := Try.isAgg23
  have z42 := Try.sizeOf23
  have hS : Try.prog.underlying 65 = some (.struct (Try.prog.fieldsOf 65)) := by kernel_rfl
  have hp : Try.prog.stoodInHeld 65 = false := by kernel_rfl
  simp only [Ch.cells]
  rw [run_neq_struct, show (10000 : Nat) = 9999 + 1 from rfl, run_equalIn_agg w 9999 65 _ _ hS hp]
  simp only [Program.fieldsOf, Try.underlying65]
  go_simp
  unfold eqCh
  by_cases h1 : x.p = y.p <;> by_cases h2 : x.t = y.t <;> by_cases h3 : x.d = y.d <;> simp [h1, h2, h3]
theorem neqRf' (x y : Ch) (w : World) : (binOp .neq 65 (.agg #[.int .i64 x.p, .int .u64 x.t, .int .i64 x.d]) (.agg #[.int .i64 y.p, .int .u64 y.t, .int .i64 y.d])).run Try.prog w = .ok (.bool (!eqCh x y)) w := neqRf.1 x y w

theorem eqCh_false {x y : Ch} (h : x ≠ y) : eqCh x y = false := by
  cases e : eqCh x y
  · rfl
  · exact absurd ((eqCh_iff x y).1 e) h
/-- The first i are the same. -/
def SameTo (a b : List Ch) (i : Nat) : Prop := a.take i = b.take i
theorem SameTo.step {a b : List Ch} {i : Nat} {x : Ch} (h : SameTo a b i) (ha : a[i]? = some x) (hb : b[i]? = some x) : SameTo a b (i + 1) := by
  unfold SameTo at *
  rw [take_succ' ha, take_succ' hb, h]
theorem SameTo.all {a b : List Ch} {i : Nat} (h : SameTo a b i) (ha : a.length ≤ i) (hb : b.length ≤ i) : eqL a b = true := by
  unfold SameTo at h
  rw [take_all ha, take_all hb] at h
  rw [h]
  exact eqL_self b
theorem not_same {a b : List Ch} {i : Nat} {x y : Ch} (ha : a[i]? = some x) (hb : b[i]? = some y) (h : x ≠ y) : eqL a b = false :=
  eqL_false fun e => h (by rw [e, hb] at ha; exact (Option.some.inj ha).symm)

set_option maxRecDepth 1000000 in
set_option maxHeartbeats 4000000 in
theorem refsame_any {w : World} {v1 v2 : Value} {a b : List Ch} (h1 : Rd w v1 a) (h2 : Rd w v2 b) :
    Calls Try.prog 14 #[v1, v2] w fun e w' => e = .returned (.bool (eqL a b)) ∧ Below w.heap.size w w' := by
  obtain ⟨ao1, cap1, rfl, hc1, hm1, _, k1⟩ := h1
  obtain ⟨ao2, cap2, rfl, hc2, hm2, _, k2⟩ := h2
  have K1 := Lib.hid k1
  have K2 := Lib.hid k2
  have hl1 : a.length ≤ 9223372036854775807 := by omega
  have hl2 : b.length ≤ 9223372036854775807 := by omega
  clear k1 k2 hc1 hc2 hm1 hm2
  by_cases hn : a.length = b.length
  · have HN := Lib.hid hn
    have hne : ((a.length : Int) != (b.length : Int)) = false := by rw [hn]; simp
    clear hn
    go_enter Try.func14, Try.ntmps14
    go_wp2
    go_loopg [5] a.length (fun k t wr => ∃ i : Nat, i + k = a.length ∧ t = .int .i64 i ∧ SameTo a b i ∧ ∃ q, wr = w.drewN q)
    case atStart => exact ⟨0, by omega, rfl, by unfold SameTo; simp, 0, rfl⟩
    case round =>
      obtain ⟨i, hik, rfl, hsm, q, rfl⟩ := hrel
      have HIK := Lib.hid hik
      have HS := Lib.hid hsm
      clear hsm hik
      by_cases hlt : i < a.length
      · obtain ⟨x, hx, _⟩ := at_of hlt
        obtain ⟨y, hy, _⟩ := at_of (show i < b.length by have := HN.out; omega)
        obtain ⟨b1, o1, ha1, c1⟩ := K1.out.resolve_left (by intro e; rw [e] at hlt; simp at hlt)
        obtain ⟨b2, o2, ha2, c2⟩ := K2.out.resolve_left (by intro e; rw [e] at hy; simp at hy)
        subst ha1 ha2
        obtain ⟨x0, x1, x2⟩ := c1 i x hx
        obtain ⟨y0, y1, y2⟩ := c2 i y hy
        have hi0 : (0 : Int) ≤ (i : Int) := Int.natCast_nonneg _
        have hi1 : (i : Int) < (a.length : Int) := by omega
        have hi2 : (i : Int) < (b.length : Int) := by have := HN.out; omega
        have HLT := Lib.hid hlt
        have hrun := neqRf' x y
        by_cases hxy : x = y
        · have HNEW := Lib.hid (HS.out.step hx (by rw [hxy]; exact hy))
          have he : eqCh x y = true := (eqCh_iff x y).2 hxy
          rw [he] at hrun
          clear hx hy c1 c2 K1 K2 hxy he
          go_wp2_with fail
          go_quiet (fail)
          go_wp2_with fail
          go_roundg (gk - 1)
          case measure => have := HIK.out; have := HLT.out; omega
          case rel => exact ⟨i + 1, by have := HIK.out; have := HLT.out; omega, by go_num, HNEW.out, _, rfl⟩
        · have HNEW := Lib.hid (not_same hx hy hxy)
          have he : eqCh x y = false := eqCh_false hxy
          rw [he] at hrun
          clear hx hy c1 c2 K1 K2 hxy he
          go_wp2_with fail
          go_quiet (fail)
          go_wp2_with fail
          go_ret
          exact ⟨by rw [HNEW.out]; rfl, below_drewN (below_drewN (Below.refl _ _) _) _⟩
      · have HD := Lib.hid (HS.out.all (by omega) (by have := HN.out; omega))
        go_wp2_with fail
        go_ret
        exact ⟨by rw [HD.out]; rfl, below_drewN (Below.refl _ _) _⟩
  · have HN := Lib.hid (eqL_false (a := a) (b := b) (fun e => hn (by rw [e])))
    have hne : ((a.length : Int) != (b.length : Int)) = true := by rw [bne_iff_ne]; omega
    clear hn
    go_enter Try.func14, Try.ntmps14
    go_wp2
    go_ret
    exact ⟨by rw [HN.out]; rfl, Below.refl _ _⟩
end Go.Proofs.Ytkeldggdllaheaa.Batch
namespace Go.Proofs.Ytkeldggdllaheaa.Batch
open Go.RowKit
set_option linter.unusedVariables false

end Go.Proofs.Ytkeldggdllaheaa.Batch
