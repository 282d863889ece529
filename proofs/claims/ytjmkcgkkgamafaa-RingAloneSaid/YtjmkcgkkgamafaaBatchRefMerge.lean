/-
  PACKAGE marchlandref03: Merge.
-/
import Derived.Test.YtjmkcgkkgamafaaBatchRefFix
namespace Go.Proofs.Ytjmkcgkkgamafaa.Batch
open Go.RowKit
set_option linter.unusedVariables false

theorem own0 (w : World) (T : TypeId) : (w.alloc (.cells #[] T)).ownsRow w.heap.size T 3 (.slice (some ⟨w.heap.size, 0, none⟩) 0 0) 0 [] :=
  ⟨rfl, .inr ⟨w.heap.size, 0, #[], rfl, Nat.le_refl _, heap_alloc_new w _, Nat.le_refl _, by simp, rfl, rfl⟩⟩
theorem Rd.srcR {w : World} {ao : Option Addr} {n cap : Nat} {l : List Ch} (h : Rd w (.slice ao n cap) l) : n = l.length ∧ Src w ao l.length (cellsL l) := by
  obtain ⟨ao', cap', hv, h1, h2, h3, h4⟩ := h
  simp at hv
  obtain ⟨rfl, rfl, rfl⟩ := hv
  refine ⟨rfl, ?_⟩
  rcases h4 with rfl | h4
  · cases ao with
    | none => exact .inl ⟨rfl, rfl, rfl⟩
    | some a => exact .inr ⟨a, rfl, fun j u hu => by simp [cellsL] at hu⟩
  · exact (Sl.src (l := l) (n := l.length) (cap := cap) ⟨_, _, rfl, .inr h4, h1, h2, h3⟩).2
set_option maxRecDepth 1000000 in
set_option maxHeartbeats 4000000 in
theorem refmerge_anyR {w : World} {va vb : Value} {A B : List Ch} (ha : Sl w va A) (hb : Rd w vb B) (hl : A.length + B.length ≤ 100000) :
    Calls Try.prog 77 #[va, vb] w fun e w' => ∃ v' : Value, (e = .returned (.tuple #[v', .int .i64 (sumsE (A ++ B))])) ∧ Own w' w.heap.size 82 v' (sumsR (A ++ B)) ∧ Below w.heap.size w w' := by
  obtain ⟨i0, hi, hz0, hz1, hz2⟩ := info_parts infoRf2
  have HA := Lib.hid ha
  have HB := Lib.hid hb
  have HL := Lib.hid hl
  have HW := Lib.hid (both_wf ha.wf hb.wf)
  obtain ⟨aa, ca, rfl, _⟩ := ha
  obtain ⟨ab, cb, rfl, _⟩ := hb
  clear hl
  go_enter Try.func77, Try.ntmps77
  have h0 := own0 w 82
  have hB0 : Below w.heap.size w (w.alloc (.cells #[] 82)) := (Below.refl _ _).alloc (Nat.le_refl _) _
  have HAr := Lib.hid (HA.out.below hB0).src.2
  have HB0 := Lib.hid hB0
  have hs0 : w.heap.size ≤ (w.alloc (.cells #[] 82)).heap.size := hB0.size
  clear hB0
  go_wp2_with (first
    | (at_builtin
       refine wpList_append_any _ rfl (.tmp 9) (.tmp 10) _ _ rfl w.heap.size 82 82 i0 (.agg #[.int .i64 0, .int .u64 0, .int .i64 0]) 3 24 Try.underlying37 Try.underlying37 hi hz0 hz1 hz2 rfl (by decide) _ 0 [] rfl h0 aa A.length ca (cellsL A) rfl (cellsL_length _) HAr.out (cellsL_one _) (by have := HL.out; unfold maxLen; omega) (by have := HL.out; omega) hs0 ?_
       intro v1 w1 hown1 hg1 hat1
       have hbw1 : Below w.heap.size w w1 := HB0.out.grown hg1 hs0 (fun k e => (h0.lt k e).1)
       have HB1 := Lib.hid hbw1
       have HO1 := Lib.hid hown1
       have hbs1 : w.heap.size ≤ w1.heap.size := hbw1.size
       have HBr := Lib.hid (HB.out.below HB1.out).srcR.2
       clear hg1 hat1 hbw1 h0 hown1 hs0)
    | (at_builtin
       refine wpList_append_any _ rfl (.tmp 11) (.tmp 12) _ _ rfl w.heap.size 82 82 i0 (.agg #[.int .i64 0, .int .u64 0, .int .i64 0]) 3 24 Try.underlying37 Try.underlying37 hi hz0 hz1 hz2 rfl (by decide) _ (0 + A.length) ([] ++ cellsL A) rfl HO1.out ab B.length cb (cellsL B) rfl (cellsL_length _) HBr.out (cellsL_one _) (by have := HL.out; unfold maxLen; omega) (by have := HL.out; omega) hbs1 ?_
       intro v2 w2 hown2 hg2 hat2
       have hbw2 : Below w.heap.size w w2 := HB1.out.grown hg2 hbs1 (fun k e => (HO1.out.lt k e).1)
       have HB2 := Lib.hid hbw2
       have hO2 : Own w2 w.heap.size 82 v2 (A ++ B) := by
         unfold Own
         rw [List.length_append, cellsL_append]
         rw [Nat.zero_add, List.nil_append] at hown2
         exact hown2
       have hform := hO2.form'
       have hlen : (A ++ B).length ≤ 100000 := by rw [List.length_append]; exact HL.out
       have HP := Lib.hid (fun ho : overK (A ++ B) = false => sums_ok ho)
       have HPO := Lib.hid (fun ho : overK (A ++ B) = true => sums_over ho)
       generalize hLe : A ++ B = L at hO2 hform hlen HP HPO HW
       have HLe := Lib.hid hLe
       clear hLe
       have HO2 := Lib.hid hO2
       obtain ⟨ao2, cap2, rfl, _⟩ := hform
       have HS := Lib.hid (refsums_any (hO2.rd HW.out) hlen)
       clear hg2 hat2 hbw2 hown2 hO2 hlen))
  go_at_call 65
  refine HS.out.mono ?_
  rintro e w3 ⟨v3, rfl, hown3, hb3⟩
  have HO3 := Lib.hid (hown3.mono HB2.out.size)
  have HB3 := Lib.hid (HB2.out.trans (hb3.mono HB2.out.size))
  clear hown3 hb3
  cases ho : overK L
  · go_wp2_with fail
    go_ret2
    exact ⟨_, ret_two (by rw [HLe.out]; exact (HP.out ho).1.symm), by rw [HLe.out]; exact HO3.out, HB3.out⟩
  · go_wp2_with fail
    go_ret2
    refine ⟨_, ret_two (by rw [HLe.out]; exact (HPO.out ho).1.symm), ?_, HB3.out⟩
    rw [HLe.out, (HPO.out ho).2]
    exact Own.nil _ _ _
theorem refmerge_any {w : World} {va vb : Value} {A B : List Ch} (ha : Sl w va A) (hb : Sl w vb B) (hl : A.length + B.length ≤ 100000) :
    Calls Try.prog 77 #[va, vb] w fun e w' => ∃ v' : Value, (e = .returned (.tuple #[v', .int .i64 (sumsE (A ++ B))])) ∧ Own w' w.heap.size 82 v' (sumsR (A ++ B)) ∧ Below w.heap.size w w' := refmerge_anyR ha hb.rd hl
end Go.Proofs.Ytjmkcgkkgamafaa.Batch
