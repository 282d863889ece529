/-
  YtlkljeedlkbkgaaGreatDoorClSame
-/
import Derived.Test.YtlkljeedlkbkgaaGreatDoorJoined22
import Derived.Test.YtlkljeedlkbkgaaGreatDoorJoined7
import Derived.Test.YtlkljeedlkbkgaaGreatDoorClTo
import Derived.Deep.QuietTactic
import Derived.BigQuiet
namespace Go.Proofs.YtlkljeedlkbkgaaGreatDoor.Cl
open Go.RowKit Go.Lib Gr
set_option linter.unusedVariables false
theorem neqH7 (x : Ed) (w : World) : (binOp .neq 50 (.agg #[.int .i64 x.f, .int .i64 x.t, .int .u64 x.a]) (.agg #[.int .i64 x.f, .int .i64 x.t, .int .u64 x.a])).run Tryz.prog w = .ok (.bool false) w := by
  have u3 := Tryz.underlying3
  have a3 := Tryz.isAgg3
  have z3 := Tryz.sizeOf3
  have u42 := Tryz.underlying36
  have a42 := Tryz.isAgg36
  have z42 := Tryz.sizeOf36
  have hS : Tryz.prog.underlying 50 = some (.struct (Tryz.prog.fieldsOf 50)) := by kernel_rfl
  have hp : Tryz.prog.stoodInHeld 50 = false := by kernel_rfl
  rw [run_neq_struct, show (10000 : Nat) = 9999 + 1 from rfl, run_equalIn_agg w 9999 50 _ _ hS hp]
  simp only [Program.fieldsOf, Tryz.underlying50]
  go_simp
  try simp
set_option maxRecDepth 1000000 in
set_option maxHeartbeats 8000000 in
theorem ownsame_yes {w : World} {v1 v2 u1 u2 : Value} {H : List Ed} {B : List Batch.Ch} (h1 : Rd w v1 H) (h2 : Rd w v2 H) (b1 : Batch.Rd w u1 B) (b2 : Batch.Rd w u2 B) :
    Calls Tryz.prog 39 #[.agg #[v1, u1], .agg #[v2, u2]] w fun e w' => e = .returned (.bool true) ∧ Below w.heap.size w w' := by
  have HU1 := Lib.hid b1
  have HU2 := Lib.hid b2
  obtain ⟨s1, d1, e1, _⟩ := b1
  obtain ⟨s2, d2, e2, _⟩ := b2
  subst e1 e2
  obtain ⟨ao1, cap1, rfl, hc1, hm1, _, k1⟩ := h1
  obtain ⟨ao2, cap2, rfl, hc2, hm2, _, k2⟩ := h2
  have K1 := Lib.hid k1
  have K2 := Lib.hid k2
  have hl1 : H.length ≤ 9223372036854775807 := by omega
  clear k1 k2 hc1 hc2 hm1 hm2
  obtain ⟨w0, hw0⟩ : ∃ w0, w0 = (w.alloc (.cells #[.slice ao1 H.length cap1, .slice s1 B.length d1] 29)).alloc (.cells #[.slice ao2 H.length cap2, .slice s2 B.length d2] 29) := ⟨_, rfl⟩
  have hb0 : Below w.heap.size w w0 := by rw [hw0]; exact ((Below.refl _ _).alloc (Nat.le_refl _) _).alloc (by simp) _
  have hx0 : w0.heap[w.heap.size]? = some (.cells #[.slice ao1 H.length cap1, .slice s1 B.length d1] 29 (0, 0)) := by
    rw [hw0, heap_alloc_old _ _ (by simp)]; exact heap_alloc_new w _
  have hy0 : w0.heap[w.heap.size + 1]? = some (.cells #[.slice ao2 H.length cap2, .slice s2 B.length d2] 29 (0, 0)) := by
    rw [hw0]; have := heap_alloc_new (w.alloc (.cells #[.slice ao1 H.length cap1, .slice s1 B.length d1] 29)) (.cells #[.slice ao2 H.length cap2, .slice s2 B.length d2] 29); simpa using this
  have HX := Lib.hid hx0
  have HY := Lib.hid hy0
  have HB0 := Lib.hid hb0
  clear hb0
  obtain ⟨x0, x1, _⟩ := pair_cells hx0
  obtain ⟨y0, y1, _⟩ := pair_cells hy0
  clear hx0 hy0
  have hne : ((H.length : Int) != (H.length : Int)) = false := by simp
  go_enter Tryz.func39, Tryz.ntmps39
  go_upto_region 1 with fail
  rw [← hw0]
  clear hw0
  go_wp2_with fail
  clear x0 x1 y0 y1
  go_loopg [5] H.length (fun k t wr => ∃ i : Nat, i + k = H.length ∧ t = .int .i64 i ∧ Below w0.heap.size w0 wr)
  case atStart => exact ⟨0, by omega, rfl, Below.refl _ _⟩
  case round =>
    obtain ⟨i, hik, rfl, hwr⟩ := hrel
    have HIK := Lib.hid hik
    have HBR := Lib.hid hwr
    obtain ⟨x0, x1, _⟩ := pair_cells ((HBR.out.block _ (Array.getElem?_eq_some_iff.1 HX.out).1).trans HX.out)
    obtain ⟨y0, y1, _⟩ := pair_cells ((HBR.out.block _ (Array.getElem?_eq_some_iff.1 HY.out).1).trans HY.out)
    have hi0 : (0 : Int) ≤ (i : Int) := Int.natCast_nonneg _
    clear hik hwr
    by_cases hlt : i < H.length
    · obtain ⟨x, hx, _⟩ := Gr.at_of hlt
      obtain ⟨g1, o1, rfl, c1⟩ := K1.out.resolve_left (by intro e; rw [e] at hlt; simp at hlt)
      obtain ⟨g2, o2, rfl, c2⟩ := K2.out.resolve_left (by intro e; rw [e] at hlt; simp at hlt)
      have q1 := c1 i x hx
      have q2 := c2 i x hx
      have hbw : Below w.heap.size w wr := HB0.out.trans (HBR.out.mono HB0.out.size)
      obtain ⟨p0, p1, p2⟩ := q1.below hbw q1.lt
      obtain ⟨r0, r1, r2⟩ := q2.below hbw q2.lt
      have hi1 : (i : Int) < (H.length : Int) := by omega
      have HLT := Lib.hid hlt
      have hrun := neqH7 x
      obtain ⟨xf, xt, xa⟩ := x
      simp only at hrun p0 p1 p2 r0 r1 r2
      clear hx c1 c2 q1 q2 hbw
      go_wp2_with fail
      go_quiet (fail)
      go_wp2_with fail
      go_roundg (gk - 1)
      case measure => have := HIK.out; have := HLT.out; omega
      case rel => exact ⟨i + 1, by have := HIK.out; have := HLT.out; omega, by go_num, below_drewN HBR.out _⟩
    · have hd1 : decide ((i : Int) < (H.length : Int)) = false := decide_eq_false (by omega)
      have hd2 : decide (i < H.length) = false := decide_eq_false hlt
      have hbw := Lib.hid (HB0.out.trans (HBR.out.mono HB0.out.size))
      go_wp2_with fail
      go_at_call 41
      refine (Batch.refsame_any (HU1.out.below hbw.out) (HU2.out.below hbw.out)).mono ?_
      rintro e w' ⟨rfl, hb⟩
      have HB' := Lib.hid (hbw.out.trans (hb.mono hbw.out.size))
      clear hb x0 x1 y0 y1
      go_wp2_with fail
      go_ret
      exact ⟨by rw [Batch.eqL_self]; rfl, HB'.out⟩
end Go.Proofs.YtlkljeedlkbkgaaGreatDoor.Cl
