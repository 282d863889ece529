/-
  PACKAGE pick, and the document's own: Turns.
-/
import Derived.Test.YtehimacmjlehhaaPick
import Derived.Laws.OwnMore
import Derived.Laws.CopyOwn
import Derived.OwnWalk
namespace Go.Proofs.Ytehimacmjlehhaa.Pk
open Go.RowKit Rw
set_option linter.unusedVariables false

/-- 0, 1, .. m less 1, and again: c of them; turnW: the first i of these, the others 0. -/
def turnW (m : Int) (c i : Nat) : List Int := (List.range c).map fun j : Nat => if j < i then (j : Int) % m else 0
def turnsL (m : Int) (c : Nat) : List Int := (List.range c).map fun j : Nat => (j : Int) % m
theorem turnW_length (m : Int) (c i : Nat) : (turnW m c i).length = c := by unfold turnW; simp
theorem turnsL_length (m : Int) (c : Nat) : (turnsL m c).length = c := by unfold turnsL; simp
theorem turnW_all (m : Int) (c : Nat) : turnW m c c = turnsL m c := by
  unfold turnW turnsL
  apply List.map_congr_left
  intro j hj
  rw [if_pos (List.mem_range.1 hj)]
theorem turnW_none (m : Int) (c : Nat) : turnW m c 0 = List.replicate c 0 := by
  unfold turnW
  simp only [Nat.not_lt_zero, if_false]
  exact List.map_const' ▸ by simp
theorem turnW_at {m : Int} {c i j : Nat} (h : j < c) : (turnW m c i)[j]? = some (if j < i then (j : Int) % m else 0) := by unfold turnW; rw [List.getElem?_map, List.getElem?_range h]; rfl
theorem turnsL_at {m : Int} {c j : Nat} (h : j < c) : (turnsL m c)[j]? = some ((j : Int) % m) := by unfold turnsL; rw [List.getElem?_map, List.getElem?_range h]; rfl
theorem turnW_set (m : Int) {c i : Nat} (h : i < c) : (turnW m c i).set i ((i : Int) % m) = turnW m c (i + 1) := by
  apply List.ext_getElem?
  intro j
  by_cases hj : j < c
  · rw [List.getElem?_set, turnW_at hj, turnW_length, turnW_at hj]
    by_cases he : i = j
    · subst he
      rw [if_pos rfl, if_pos h, if_pos (Nat.lt_succ_self _)]
    · rw [if_neg he]
      by_cases hl : j < i
      · rw [if_pos hl, if_pos (by omega)]
      · rw [if_neg hl, if_neg (by omega)]
  · rw [List.getElem?_eq_none (by rw [List.length_set, turnW_length]; omega), List.getElem?_eq_none (by rw [turnW_length]; omega)]
theorem turnsL_succ (m : Int) (c : Nat) : turnsL m (c + 1) = turnsL m c ++ [(c : Int) % m] := by unfold turnsL; rw [List.range_succ]; simp
theorem turnsL_wf {m : Int} (c : Nat) (h : 1 ≤ m) (h2 : m ≤ 9223372036854775807) : ∀ x ∈ turnsL m c, intK.wf x := by
  intro x hx
  unfold turnsL at hx
  obtain ⟨j, _, rfl⟩ := List.mem_map.1 hx
  have h1 := Int.emod_nonneg (j : Int) (show m ≠ 0 by omega)
  have h3 := Int.emod_lt_of_pos (j : Int) (show 0 < m by omega)
  exact ⟨by omega, by omega⟩
theorem intflat (l : List Int) : intK.flat l = l.map (Value.int .i64) := by
  induction l with
  | nil => rfl
  | cons x r ih => show [Value.int .i64 x] ++ intK.flat r = _; rw [ih]; rfl
theorem own_set1 {w : World} {base a n cap : Nat} {Ty : TypeId} {T : List Int} (h : Own intK w base Ty (.slice (some ⟨a, 0, none⟩) n cap) T) {j : Nat} (hj : j < T.length) (y : Int) :
    Own intK (w.setCell ⟨a, j, none⟩ (.int .i64 y)) base Ty (.slice (some ⟨a, 0, none⟩) n cap) (T.set j y) := by
  unfold Own
  rw [List.length_set, intflat, List.map_set, ← intflat]
  exact row_set h (by show j < T.length * 1; omega) _
theorem infoIn : (Try.prog.info? 3).map (fun i => (i.zero, i.size, i.bytes)) = some (some (.int .i64 0), 1, 8) := by kernel_rfl
theorem info_partsP {P : Program} {t : TypeId} {z : Value} {size bytes : Nat} (h : (P.info? t).map (fun i => (i.zero, i.size, i.bytes)) = some (some z, size, bytes)) : ∃ i, P.info? t = some i ∧ i.zero = some z ∧ i.size = size ∧ i.bytes = bytes := by
  obtain ⟨i, hi, hz⟩ := Option.map_eq_some_iff.1 h
  simp only [Prod.mk.injEq] at hz
  exact ⟨i, hi, hz⟩
theorem made_ints (n : Nat) : (madeCells (Value.int IntKind.i64 0).cells (n * 1)).toList = intK.flat (List.replicate n 0) := by
  rw [intflat, Nat.mul_one]
  apply List.ext_getElem
  · simp [size_madeCells]
  · intro i h1 h2
    simp [madeCells, Nat.mod_one, Value.cells]

set_option maxRecDepth 1000000 in
set_option maxHeartbeats 4000000 in
theorem turns_no (m c : Int) (h : m < 1 ∨ c < 1) (w : World) : Calls Try.prog 45 #[.int .i64 m, .int .i64 c] w fun e w' => e = .returned (.slice none 0 0) ∧ Below w.heap.size w w' := by
  by_cases h1 : m < 1
  · clear h
    go_enter Try.func45, Try.ntmps45
    go_wp2
    go_ret
    exact ⟨rfl, Below.refl _ _⟩
  · have h2 := h.resolve_left h1
    clear h
    go_enter Try.func45, Try.ntmps45
    go_wp2
    go_ret
    exact ⟨rfl, Below.refl _ _⟩

set_option maxRecDepth 1000000 in
set_option maxHeartbeats 4000000 in
theorem turns_any (m : Int) (c : Nat) (h1 : 1 ≤ m) (h2 : m ≤ 9223372036854775807) (h3 : 1 ≤ c) (h4 : c ≤ 500) (w : World) :
    Calls Try.prog 45 #[.int .i64 m, .int .i64 (c : Int)] w fun e w' => ∃ v, e = .returned v ∧ Own intK w' w.heap.size 3 v (turnsL m c) ∧ Below w.heap.size w w' := by
  obtain ⟨i0, hi, hz0, hz1, hz2⟩ := info_partsP infoIn
  obtain ⟨w1, hrun, hown, hg⟩ := run_makeSlice_full (P := Try.prog) w w.heap.size 46 3 i0 (.int .i64 0) 1 Try.underlying46 hi hz0 hz1 .i64 .i64 c (by omega) (by rw [hz2]; omega) (by unfold maxLen; omega) (Nat.le_refl _)
  rw [made_ints, ← turnW_none m] at hown
  have hO : Own intK w1 w.heap.size 3 (.slice (some ⟨w.heap.size, 0, none⟩) c c) (turnW m c 0) := by unfold Own; rw [turnW_length]; exact hown
  have hB := (Below.refl w.heap.size w).grown hg (Nat.le_refl _) (fun k e => by cases e)
  have HO := Lib.hid hO
  have HB := Lib.hid hB
  have hc0 : (1 : Int) ≤ (c : Int) := by omega
  have hc1 : (c : Int) ≤ 500 := by omega
  have hm0 : m ≠ 0 := by omega
  have hm1 : (m == 0) = false := by rw [beq_eq_false_iff_ne]; omega
  clear hown hg hO hB hi hz0 hz1 hz2
  go_enter Try.func45, Try.ntmps45
  go_wp2
  clear hrun
  go_loopg [21] c (fun k t wr => ∃ i : Nat, i + k = c ∧ t = .int .i64 i ∧ Hid (Own intK wr w.heap.size 3 (.slice (some ⟨w.heap.size, 0, none⟩) c c) (turnW m c i)) ∧ Hid (Below w.heap.size w wr))
  case atStart => exact ⟨0, by omega, rfl, HO, HB⟩
  case round =>
    obtain ⟨i, hik, rfl, ho, hb⟩ := hrel
    have HIK := Lib.hid hik
    clear hik
    by_cases hlt : i < c
    · have q := at1 (ho.out.at (i := i) (x := _) (turnW_at hlt))
      rw [intK_k, Nat.mul_one] at q
      have hf := ho.out.free i
      have hi0 : (0 : Int) ≤ (i : Int) := Int.natCast_nonneg _
      have hi1 : (i : Int) < (c : Int) := by omega
      have HS := Lib.hid (own_set1 ho.out (j := i) (by rw [turnW_length]; exact hlt) ((i : Int) % m))
      have HB2 := Lib.hid (hb.out.setCell (p := ⟨w.heap.size, i, none⟩) (Nat.le_refl _) (.int .i64 ((i : Int) % m)))
      have HLT := Lib.hid hlt
      clear hlt
      go_wp2_with fail
      go_roundg (gk - 1)
      case measure => have := HIK.out; have := HLT.out; omega
      case rel => exact ⟨i + 1, by have := HIK.out; have := HLT.out; omega, by go_num, Lib.hid (by rw [← turnW_set m HLT.out]; exact HS.out), Lib.hid HB2.out⟩
    · obtain rfl : i = c := by have := HIK.out; omega
      have hj2 : decide ((i : Int) < (i : Int)) = false := decide_eq_false (by omega)
      go_wp2_with fail
      go_ret
      exact ⟨_, rfl, by rw [← turnW_all]; exact ho.out, hb.out⟩

/-! ### the document's own -/
set_option maxRecDepth 1000000 in
set_option maxHeartbeats 4000000 in
theorem refturns_no (m c : Int) (h : m < 1 ∨ c < 1) (w : World) : Calls Try.prog 46 #[.int .i64 m, .int .i64 c] w fun e w' => e = .returned (.slice none 0 0) ∧ Below w.heap.size w w' := by
  have hx : (decide (0 < c) && decide (0 < m)) = false := by
    rw [Bool.and_eq_false_iff, decide_eq_false_iff_not, decide_eq_false_iff_not]; omega
  by_cases h1 : c < 1
  · have h5 : decide (0 < c) = false := decide_eq_false (by omega)
    have h6 : ¬ 0 < c := by omega
    clear h hx
    go_enter Try.func46, Try.ntmps46
    go_wp2
    go_loopg [5, 6] 1 (fun k s t wr => s = .slice none 0 0 ∧ t = .int .i64 0 ∧ wr = w)
    case atStart => exact ⟨rfl, rfl, rfl⟩
    case round =>
      obtain ⟨rfl, rfl, rfl⟩ := hrel
      go_wp2_with fail
      go_ret
      exact ⟨rfl, Below.refl _ _⟩
  · have h5 : 0 < c := by omega
    have h6 : ¬ 0 < m := by omega
    clear h hx
    go_enter Try.func46, Try.ntmps46
    go_wp2
    go_loopg [5, 6] 1 (fun k s t wr => s = .slice none 0 0 ∧ t = .int .i64 0 ∧ wr = w)
    case atStart => exact ⟨rfl, rfl, rfl⟩
    case round =>
      obtain ⟨rfl, rfl, rfl⟩ := hrel
      go_wp2_with fail
      go_ret
      exact ⟨rfl, Below.refl _ _⟩
set_option maxRecDepth 1000000 in
set_option maxHeartbeats 4000000 in
theorem refturns_any (m : Int) (c : Nat) (h1 : 1 ≤ m) (h2 : m ≤ 9223372036854775807) (h4 : c ≤ 500) (w : World) :
    Calls Try.prog 46 #[.int .i64 m, .int .i64 (c : Int)] w fun e w' => ∃ v, e = .returned v ∧ Own intK w' w.heap.size 3 v (turnsL m c) ∧ Below w.heap.size w w' := by
  obtain ⟨i0, hi, hz0, hz1, hz2⟩ := info_partsP infoIn
  have hc1 : (c : Int) ≤ 500 := by omega
  have hm0 : m ≠ 0 := by omega
  have hm1 : (m == 0) = false := by rw [beq_eq_false_iff_ne]; omega
  go_enter Try.func46, Try.ntmps46
  go_wp2
  go_loopg [5, 6] c (fun k s t wr => ∃ i : Nat, i + k = c ∧ t = .int .i64 i ∧ Own intK wr w.heap.size 3 s (turnsL m i) ∧ Below w.heap.size w wr)
  case atStart => exact ⟨0, by omega, rfl, Own.nil (S := intK) _ _ _, Below.refl _ _⟩
  case round =>
    obtain ⟨i, hik, rfl, ho, hb⟩ := hrel
    have HIK := Lib.hid hik
    clear hik
    have hi0 : (0 : Int) ≤ (i : Int) := Int.natCast_nonneg _
    by_cases hlt : i < c
    · have hi1 : (i : Int) < (c : Int) := by omega
      have HLT := Lib.hid hlt
      have hown : wr.ownsRow w.heap.size 3 1 u5 i (intK.flat (turnsL m i)) := by have := ho; unfold Own at this; rwa [turnsL_length] at this
      have HB := Lib.hid hb
      have hbase := hb.size
      clear hlt ho hb
      go_wp2_with (at_builtin; refine wpList_append_own _ rfl _ _ 46 rfl w.heap.size 3 i0 (.int .i64 0) 1 8 Try.underlying46 hi hz0 hz1 hz2 rfl (by decide) _ _ _ rfl (hown.alloc _) ⟨wr.heap.size, 0, none⟩ 1 1 [.int .i64 ((i : Int) % m)] rfl rfl ?c1 ?c2 ?c3 ?c4 ?c5 ?_)
      case c1 => exact World.news_of_block (cs := #[.int .i64 ((i : Int) % m)]) (heap_alloc_new wr _)
      case c2 => intro u hu; simp at hu; subst hu; rfl
      case c3 => unfold maxLen; omega
      case c4 => omega
      case c5 => simp; omega
      intro v' w1 hown1 hgrow _
      have HO := Lib.hid hown1
      have HB1 := Lib.hid ((HB.out.alloc hbase _).grown hgrow (by simp; omega) (fun k e => (hown.lt k e).1))
      clear hown hown1 hgrow
      go_wp2_with fail
      go_roundg (gk - 1)
      case measure => have := HIK.out; have := HLT.out; omega
      case rel =>
        refine ⟨i + 1, by have := HIK.out; have := HLT.out; omega, by go_num, ?_, HB1.out⟩
        unfold Own
        rw [turnsL_length, turnsL_succ, flat_snoc]
        exact HO.out
    · obtain rfl : i = c := by have := HIK.out; omega
      have hj2 : decide ((i : Int) < (i : Int)) = false := decide_eq_false (by omega)
      have HO := Lib.hid ho
      have HB := Lib.hid hb
      clear ho hb
      go_wp2_with fail
      go_ret
      exact ⟨_, rfl, HO.out, HB.out⟩
end Go.Proofs.Ytehimacmjlehhaa.Pk
