
/-
  PACKAGE batch: Minus.
-/
import Derived.Test.YtkcmeklgnbejiaaBatchRight
namespace Go.Proofs.Ytkcmeklgnbejiaa.Batch
open Go.RowKit
set_option linter.unusedVariables false

def negC (x : Ch) : Ch := ⟨x.p, x.t, wr (-x.d)⟩
def minusL (l : List Ch) : List Ch := l.map negC
theorem negC_wf {x : Ch} (h : x.Wf) : (negC x).Wf := ⟨h.p0, h.p1, h.t0, h.t1, (wr_range _).1, (wr_range _).2⟩
theorem minusL_wf {l : List Ch} (h : ∀ x ∈ l, x.Wf) : ∀ x ∈ minusL l, x.Wf := by
  intro x hx
  obtain ⟨y, hy, rfl⟩ := List.mem_map.1 hx
  exact negC_wf (h y hy)
def negTo (l : List Ch) (i : Nat) : List Ch := (l.take i).map negC ++ l.drop i
theorem negTo_start (l : List Ch) : negTo l 0 = l := by unfold negTo; simp
theorem negTo_done {l : List Ch} {i : Nat} (h : l.length ≤ i) : negTo l i = minusL l := by unfold negTo minusL; rw [take_all h, List.drop_of_length_le h, List.append_nil]
theorem negTo_length {l : List Ch} {i : Nat} (h : i ≤ l.length) : (negTo l i).length = l.length := by unfold negTo; simp; omega
theorem negTo_at {l : List Ch} {i : Nat} {x : Ch} (h : l[i]? = some x) : (negTo l i)[i]? = some x := by
  have hl := (List.getElem?_eq_some_iff.1 h).1
  unfold negTo
  rw [List.getElem?_append_right (by simp; omega)]
  simp only [List.length_map, List.length_take]
  rw [List.getElem?_drop, show i + (i - min i l.length) = i by omega]
  exact h
theorem negTo_step {l : List Ch} {i : Nat} {x : Ch} (h : l[i]? = some x) : (negTo l i).set i (negC x) = negTo l (i + 1) := by
  have hl := (List.getElem?_eq_some_iff.1 h).1
  unfold negTo
  rw [List.set_append_right _ _ (by simp; omega)]
  have e : l.drop i = x :: l.drop (i + 1) := by
    rw [List.drop_eq_getElem_cons hl]
    rw [List.getElem?_eq_getElem hl] at h
    rw [Option.some.inj h]
  rw [e, take_succ' h]
  simp only [List.length_map, List.length_take, List.map_append, List.map_cons, List.map_nil]
  rw [show i - min i l.length = 0 by omega, List.set_cons_zero]
  simp

set_option maxRecDepth 1000000 in
set_option maxHeartbeats 8000000 in
theorem minus_any {w : World} {v : Value} {l : List Ch} (hv : Sl w v l) (hl : l.length ≤ 100000) :
    Calls Try.prog 23 #[v] w fun e w' => ∃ v' : Value, e = .returned v' ∧ Own w' w.heap.size 46 v' (minusL l) ∧ Below w.heap.size w w' := by
  have HCL := Lib.hid (cloneB_any hv hl)
  obtain ⟨ao, cap, rfl, _⟩ := hv
  go_enter Try.func23, Try.ntmps23
  go_wp2_with fail
  go_at_call 44
  refine HCL.out.mono ?_
  rintro e w1 ⟨v1, rfl, hown1, hb1⟩
  have HO1 := Lib.hid hown1
  have HB1 := Lib.hid hb1
  have hform := hown1.form
  clear hown1 hb1 HCL
  rcases hform with ⟨rfl, rfl⟩ | ⟨g, cg, rfl, hBg, hglt, hcg, _⟩
  · go_wp2_with fail
    refine wp_loop_rounds 1 ?_
    rw [rounds_succ]
    go_wp2
    go_ret
    exact ⟨_, rfl, HO1.out, HB1.out⟩
  · have hlen : l.length ≤ 9223372036854775807 := by omega
    go_wp2_with fail
    go_loopg [9] l.length (fun k t wr => ∃ i : Nat, i + k = l.length ∧ t = .int .i64 i ∧ Own wr w.heap.size 46 (.slice (some ⟨g, 0, none⟩) l.length cg) (negTo l i) ∧ Below w.heap.size w wr)
    case atStart => exact ⟨0, by omega, rfl, by rw [negTo_start]; exact HO1.out, HB1.out⟩
    case round =>
      obtain ⟨i, hik, rfl, hown, hbw⟩ := hrel
      have HIK := Lib.hid hik
      have HOWN := Lib.hid hown
      have HBW := Lib.hid hbw
      have hbs : w.heap.size ≤ wr.heap.size := hbw.size
      clear hown hbw hik
      by_cases hlt1 : i < l.length
      · obtain ⟨x, hx, hxm⟩ := at_of hlt1
        obtain ⟨c0, c1, c2⟩ := HOWN.out.at (negTo_at hx)
        have hf := HOWN.out.free (i * 3 + 2)
        have HX := Lib.hid hx
        have hi0' : (0 : Int) ≤ (i : Int) := Int.natCast_nonneg _
        have hi1 : (i : Int) < (l.length : Int) := by omega
        have HLT := Lib.hid hlt1
        clear hx hxm c0 c1
        go_wp2
        go_roundg (gk - 1)
        case measure => have := HIK.out; have := HLT.out; omega
        case rel =>
          refine ⟨i + 1, by have := HIK.out; have := HLT.out; omega, by go_num, ?_, ?_⟩
          · rw [← negTo_step HX.out, wrap64_wr]
            exact HOWN.out.setD (negTo_at HX.out) _
          · exact HBW.out.setCell hBg _
      · have HD := Lib.hid (negTo_done (l := l) (i := i) (by omega))
        go_wp2
        go_ret
        exact ⟨_, rfl, by rw [← HD.out]; exact HOWN.out, HBW.out⟩
end Go.Proofs.Ytkcmeklgnbejiaa.Batch
