/-
  marchlandref18: SameGraph of two that read the same. (gen/scgof.py)
-/
import Derived.Test.YtdbaacalfbbdiaaGreatDoorScGParse
namespace Go.Proofs.YtdbaacalfbbdiaaGreatDoor.Sc
open Go.RowKit
set_option linter.unusedVariables false
set_option linter.unusedSimpArgs false
set_option maxRecDepth 1000000 in
set_option maxHeartbeats 16000000 in
theorem sameG_self {w : World} {v1 v2 : Value} {g : Gm} (r1 : GrR w v1 g) (r2 : GrR w v2 g) :
    Calls Tryz.prog 17 #[v1, v2] w fun e w' => e = .returned (.bool true) ∧ Below w.heap.size w w' := by
  obtain ⟨n, E, I⟩ := g
  obtain ⟨ae, ce, ai, ci, rfl, hv1, hi1⟩ := r1
  obtain ⟨af, cf, aj, cj, rfl, hv2, hi2⟩ := r2
  dsimp only at *
  obtain ⟨w1, hw1⟩ : ∃ w1, w1 = (w.alloc (.cells #[.int .i64 n, .slice ae E.length ce, .slice ai I.length ci] 44)).alloc (.cells #[.int .i64 n, .slice af E.length cf, .slice aj I.length cj] 44) := ⟨_, rfl⟩
  have HX := Lib.hid (show w1.heap[w.heap.size]? = some (.cells #[.int .i64 n, .slice ae E.length ce, .slice ai I.length ci] 44 (0, 0)) by rw [hw1, heap_alloc_old _ _ (by simp)]; exact heap_alloc_new w _)
  have HZ := Lib.hid (show w1.heap[w.heap.size + 1]? = some (.cells #[.int .i64 n, .slice af E.length cf, .slice aj I.length cj] 44 (0, 0)) by
    rw [hw1]; have h := heap_alloc_new (w.alloc (.cells #[.int .i64 n, .slice ae E.length ce, .slice ai I.length ci] 44)) (.cells #[.int .i64 n, .slice af E.length cf, .slice aj I.length cj] 44); simpa using h)
  have hb1 : Below w.heap.size w w1 := by rw [hw1]; exact ((Below.refl _ _).alloc (Nat.le_refl _) _).alloc (by simp) _
  have HB1 := Lib.hid hb1
  have HV1 := Lib.hid (hv1.below hb1)
  have HV2 := Lib.hid (hv2.below hb1)
  have HI1 := Lib.hid (hi1.below hb1)
  have HI2 := Lib.hid (hi2.below hb1)
  clear hv1 hv2 hi1 hi2 hb1
  obtain ⟨NE, hNE⟩ : ∃ k, k = E.length := ⟨_, rfl⟩
  obtain ⟨NI, hNI⟩ : ∃ k, k = I.length := ⟨_, rfl⟩
  rw [← hNE, ← hNI] at HX HZ hw1 ⊢
  have HNE := Lib.hid (And.intro hNE hNI)
  have hN9 : NE ≤ 9223372036854775807 := by obtain ⟨_, c9, _, q1, q2, _⟩ := HV1.out; rw [hNE]; omega
  have hI9 : NI ≤ 9223372036854775807 := by obtain ⟨_, c9, _, q1, q2, _⟩ := HI1.out; rw [hNI]; omega
  have bn : (n == n) = true := by simp
  have be : ((NE : Int) == (NE : Int)) = true := by simp
  have bi : ((NI : Int) == (NI : Int)) = true := by simp
  clear hNE hNI
  go_enter Tryz.func17, Tryz.ntmps17
  go_upto_region 1 with fail
  rw [← hw1]
  clear hw1
  obtain ⟨s, hs⟩ : ∃ s, s = w.heap.size := ⟨_, rfl⟩
  obtain ⟨s2, hs2⟩ : ∃ s2, s2 = w.heap.size + 1 := ⟨_, rfl⟩
  rw [← hs2] at HZ ⊢
  rw [← hs] at HX ⊢
  have HSS := Lib.hid (And.intro (Array.getElem?_eq_some_iff.1 HX.out).1 (Array.getElem?_eq_some_iff.1 HZ.out).1)
  obtain ⟨x0, x1, x2⟩ := cells3 HX.out
  obtain ⟨y0, y1, y2⟩ := cells3 HZ.out
  clear hs hs2
  go_wp2_with fail
  go_loopg [5] (NE + 1) (fun k t wr => ∃ (i : Nat), i + k = NE + 1 ∧ i ≤ NE ∧ t = .int .i64 i ∧ Below w1.heap.size w1 wr)
  case atStart => exact ⟨0, by omega, by omega, rfl, Below.refl _ _⟩
  case round =>
    obtain ⟨i, hik, hil, rfl, hbw⟩ := hrel
    have HIK := Lib.hid hik
    have HBW := Lib.hid hbw
    have hi0 : (0 : Int) ≤ (i : Int) := Int.natCast_nonneg _
    obtain ⟨x0, x1, x2⟩ := cells3 ((HBW.out.block _ HSS.out.1).trans HX.out)
    obtain ⟨y0, y1, y2⟩ := cells3 ((HBW.out.block _ HSS.out.2).trans HZ.out)
    clear hik hbw
    by_cases hlt : i < NE
    · obtain ⟨x, hx⟩ : ∃ x, E[i]? = some x := ⟨_, List.getElem?_eq_getElem (by rw [← HNE.out.1]; exact hlt)⟩
      have hne : E ≠ [] := by intro e; rw [e] at hx; simp at hx
      obtain ⟨_, _, e1, _, _, _, h1⟩ := HV1.out
      obtain ⟨_, _, e2, _, _, _, h2⟩ := HV2.out
      simp only [Value.slice.injEq] at e1 e2
      obtain ⟨rfl, _, rfl⟩ := e1
      obtain ⟨rfl, _, rfl⟩ := e2
      obtain ⟨b1, o1, rfl, q1⟩ := h1.resolve_left hne
      obtain ⟨b2, o2, rfl, q2⟩ := h2.resolve_left hne
      obtain ⟨c0, c1, c2⟩ := (q1 i x hx).below HBW.out (q1 i x hx).lt
      obtain ⟨d0, d1, d2⟩ := (q2 i x hx).below HBW.out (q2 i x hx).lt
      have hi1 : (i : Int) < (NE : Int) := by omega
      obtain ⟨p, t, d⟩ := x
      simp only at c0 c1 c2 d0 d1 d2
      have bp : (p == p) = true := by simp
      have bt : (t == t) = true := by simp
      have bd : (d == d) = true := by simp
      clear hx hne h1 h2 q1 q2 HV1 HV2 HI1 HI2 bn be bi
      go_upto_region 6 with fail
      go_quiet (fail)
      go_wp2_with fail
      go_roundg (NE - i)
      case measure => have := HIK.out; omega
      case rel => exact ⟨i + 1, by have := HIK.out; omega, by omega, by go_num, below_drewN HBW.out _⟩
    · have hin : i = NE := by omega
      subst hin
      clear HIK hil hlt
      go_wp2_with fail
      go_loopg [6] (NI + 1) (fun k t wz => ∃ (j : Nat), j + k = NI + 1 ∧ j ≤ NI ∧ t = .int .i64 j ∧ Below w1.heap.size w1 wz)
      case atStart => exact ⟨0, by omega, by omega, rfl, HBW.out⟩
      case round =>
        obtain ⟨j, hjk, hjl, rfl, hbz⟩ := hrel
        have HJK := Lib.hid hjk
        have HBZ := Lib.hid hbz
        have hj0 : (0 : Int) ≤ (j : Int) := Int.natCast_nonneg _
        obtain ⟨x0, x1, x2⟩ := cells3 ((HBZ.out.block _ HSS.out.1).trans HX.out)
        obtain ⟨y0, y1, y2⟩ := cells3 ((HBZ.out.block _ HSS.out.2).trans HZ.out)
        clear hjk hbz
        by_cases hlt : j < NI
        · obtain ⟨x, hx⟩ : ∃ x, I[j]? = some x := ⟨_, List.getElem?_eq_getElem (by rw [← HNE.out.2]; exact hlt)⟩
          have hne : I ≠ [] := by intro e; rw [e] at hx; simp at hx
          obtain ⟨_, _, e1, _, _, _, h1⟩ := HI1.out
          obtain ⟨_, _, e2, _, _, _, h2⟩ := HI2.out
          simp only [Value.slice.injEq] at e1 e2
          obtain ⟨rfl, _, rfl⟩ := e1
          obtain ⟨rfl, _, rfl⟩ := e2
          obtain ⟨b1, o1, rfl, q1⟩ := h1.resolve_left hne
          obtain ⟨b2, o2, rfl, q2⟩ := h2.resolve_left hne
          have c0 := (HBZ.out.cell (p := ⟨b1, o1 + j, none⟩) (Lib.lt_of_cell (q1 j x hx))).trans (q1 j x hx)
          have d0 := (HBZ.out.cell (p := ⟨b2, o2 + j, none⟩) (Lib.lt_of_cell (q2 j x hx))).trans (q2 j x hx)
          have hj1 : (j : Int) < (NI : Int) := by omega
          have bx : (x == x) = true := by simp
          clear hx hne h1 h2 q1 q2 HV1 HV2 HI1 HI2 bn be bi
          go_upto_region 11 with fail
          go_quiet (fail)
          go_wp2_with fail
          go_roundg (NI - j)
          case measure => have := HJK.out; omega
          case rel => exact ⟨j + 1, by have := HJK.out; omega, by omega, by go_num, below_drewN HBZ.out _⟩
        · have hjn : j = NI := by omega
          subst hjn
          go_wp2_with fail
          go_ret
          exact ⟨rfl, HB1.out.trans (HBZ.out.mono HB1.out.size)⟩
end Go.Proofs.YtdbaacalfbbdiaaGreatDoor.Sc
