/-
  PACKAGE marchlandref07: the document's Give; PACKAGE marchlandlaw07: a Table as the document has it.
  PACKAGE marchlandlaw07, PLAIN MATHEMATICS: no Id that was given back is taken again.
-/
import Derived.Test.YtaifomnoecbohaaGreatDoorJoined2
import Derived.Deep.Cut
namespace Go.Proofs.YtaifomnoecbohaaGreatDoor.Tb
open Go.RowKit Rw Go.Lib
set_option linter.unusedVariables false

set_option maxRecDepth 1000000 in
set_option maxHeartbeats 8000000 in
/-- What is refused: a copy, false. -/
theorem refgive_no {w : World} {v : Value} {T : List So} (id : Int) (hv : Sl slK w v T) (hl : T.length = 64) (hid2 : id ≤ 9223372036854775807)
    (hn : id < 0 ∨ 0 ≤ id ∧ ∃ (j : Nat) (g' : Int) (u : Bool), id % 64 = (j : Int) ∧ T[j]? = some (g', u) ∧ (u = false ∨ u = true ∧ g' ≠ id / 64)) :
    Calls Tryz.prog 25 #[v, .int .i64 id] w fun e w' => ∃ v', e = .returned (.tuple #[v', .bool false]) ∧ Own slK w' w.heap.size 80 v' T ∧ Below w.heap.size w w' := by
  obtain ⟨i0, hi, hz0, hz1, hz2⟩ := info_parts infoRs
  have HV := Lib.hid hv
  have HN := Lib.hid hn
  obtain ⟨ao, cap, rfl, hc1, hc2⟩ := hv.form
  clear hv hn
  go_enter Tryz.func25, Tryz.ntmps25
  have h0 := own00 w 80
  have hB0 : Below w.heap.size w (w.alloc (.cells #[] 80)) := (Below.refl _ _).alloc (Nat.le_refl _) _
  have HS := Lib.hid (src_of (HV.out.below hB0))
  have HB0 := Lib.hid hB0
  have hs0 : w.heap.size ≤ (w.alloc (.cells #[] 80)).heap.size := hB0.size
  clear hB0
  go_upto_region 2 with
    (at_builtin
     refine Batch.wpList_append_any _ rfl (.tmp 7) (.tmp 8) _ _ rfl w.heap.size 80 80 i0 (.agg #[.int .i64 0, .bool false]) 2 16 Tryz.underlying69 Tryz.underlying69 hi hz0 hz1 hz2 rfl (by decide) _ 0 [] rfl h0 ao T.length cap (slK.flat T) rfl (flat_length T) HS.out (flat_one T) (by unfold maxLen; omega) (by omega) hs0 ?_
     intro v1 w1 hown1 hg1 hat1
     have hO1 : Own slK w1 w.heap.size 80 v1 T := by
       unfold Own
       rw [Nat.zero_add, List.nil_append] at hown1
       exact hown1
     have HB1 := Lib.hid (HB0.out.grown hg1 hs0 (fun k e => (h0.lt k e).1))
     have HO1 := Lib.hid hO1
     clear hown1 hg1 hat1 h0 hO1 hs0)
  have HV1 := HV.out.below HB1.out
  have hlc : (T.length : Int) = 64 := by omega
  rcases HN.out with hn | ⟨hn, j, g', u, hm, hj, hu⟩
  · clear HV1
    go_wp2_with fail
    go_ret2
    exact ⟨_, rfl, HO1.out, HB1.out⟩
  · obtain ⟨b, off, rfl, hbl, q⟩ := HV1.at hj
    obtain ⟨c0, c1⟩ := at2 q
    simp only [slK_k] at c0 c1
    have hjl := (List.getElem?_eq_some_iff.1 hj).1
    have hj0 : (0 : Int) ≤ (j : Int) := Int.natCast_nonneg _
    have hj1 : (j : Int) < (T.length : Int) := by omega
    have hj2 : decide ((T.length : Int) ≤ (j : Int)) = false := decide_eq_false (by omega)
    have hj3 : decide (T.length ≤ j) = false := decide_eq_false (by omega)
    clear HV1 hj q hjl hlc
    rcases hu with rfl | ⟨rfl, hu⟩
    · go_wp2_with fail
      go_ret2
      exact ⟨_, rfl, HO1.out, HB1.out⟩
    · have hu2 : (g' != id / 64) = true := by simpa using hu
      go_wp2_with fail
      go_ret2
      exact ⟨_, rfl, HO1.out, HB1.out⟩

set_option maxRecDepth 1000000 in
set_option maxHeartbeats 8000000 in
theorem refgive_yes {w : World} {v : Value} {T : List So} {j : Nat} {g : Int} (id : Int) (hv : Sl slK w v T) (hid : 0 ≤ id) (hid2 : id ≤ 9223372036854775807) (hm : id % 64 = (j : Int)) (hd : id / 64 = g) (hj : T[j]? = some (g, true)) (hg : 0 ≤ g ∧ g ≤ 100000) (hl : T.length = 64) :
    Calls Tryz.prog 25 #[v, .int .i64 id] w fun e w' => ∃ v', e = .returned (.tuple #[v', .bool true]) ∧ Own slK w' w.heap.size 80 v' (T.set j (g + 1, false)) ∧ Below w.heap.size w w' := by
  obtain ⟨i0, hi, hz0, hz1, hz2⟩ := info_parts infoRs
  have HV := Lib.hid hv
  have HJ := Lib.hid hj
  have hjl := (List.getElem?_eq_some_iff.1 hj).1
  obtain ⟨ao, cap, rfl, hc1, hc2⟩ := hv.form
  have hg0 := hg.1
  have hg1' := hg.2
  have hl1 : T.length ≤ 64 := by omega
  have hl2 : 64 ≤ T.length := by omega
  clear hv hj hg hl
  go_enter Tryz.func25, Tryz.ntmps25
  have h0 := own00 w 80
  have hB0 : Below w.heap.size w (w.alloc (.cells #[] 80)) := (Below.refl _ _).alloc (Nat.le_refl _) _
  have HS := Lib.hid (src_of (HV.out.below hB0))
  have HB0 := Lib.hid hB0
  have hs0 : w.heap.size ≤ (w.alloc (.cells #[] 80)).heap.size := hB0.size
  clear hB0
  go_upto_region 2 with
    (at_builtin
     refine Batch.wpList_append_any _ rfl (.tmp 7) (.tmp 8) _ _ rfl w.heap.size 80 80 i0 (.agg #[.int .i64 0, .bool false]) 2 16 Tryz.underlying69 Tryz.underlying69 hi hz0 hz1 hz2 rfl (by decide) _ 0 [] rfl h0 ao T.length cap (slK.flat T) rfl (flat_length T) HS.out (flat_one T) (by unfold maxLen; omega) (by omega) hs0 ?_
     intro v1 w1 hown1 hg1 hat1
     have hO1 : Own slK w1 w.heap.size 80 v1 T := by
       unfold Own
       rw [Nat.zero_add, List.nil_append] at hown1
       exact hown1
     have HB1 := Lib.hid (HB0.out.grown hg1 hs0 (fun k e => (h0.lt k e).1))
     have HO1 := Lib.hid hO1
     clear hown1 hg1 hat1 h0 hO1 hs0)
  obtain ⟨b, off, rfl, hbl, q⟩ := (HV.out.below HB1.out).at HJ.out
  obtain ⟨a, cap', rfl, ha0, ha1, _, _⟩ := own_some HO1.out (by omega)
  obtain ⟨c0, c1⟩ := at2 q
  obtain ⟨d0, d1⟩ := at2 (HO1.out.at HJ.out)
  have cf0 := HO1.out.free (j * 2)
  have cf := HO1.out.free (j * 2 + 1)
  simp only [slK_k] at c0 c1 d0 d1
  have hj0 : (0 : Int) ≤ (j : Int) := Int.natCast_nonneg _
  have hj1 : (j : Int) < (T.length : Int) := by omega
  have hj2 : decide ((T.length : Int) ≤ (j : Int)) = false := decide_eq_false (by omega)
  have hj3 : decide (T.length ≤ j) = false := decide_eq_false (by omega)
  have hu2 : (g != g) = false := by simp
  clear q hjl
  go_wp2_with fail
  go_ret2
  exact ⟨_, rfl, own_put HO1.out HJ.out (g + 1, false), (HB1.out.setCell (p := ⟨a, j * 2, none⟩) ha0 _).setCell (p := ⟨a, j * 2 + 1, none⟩) ha0 _⟩

set_option maxRecDepth 1000000 in
set_option maxHeartbeats 8000000 in
theorem table_any {w : World} {v : Value} {l : List So} (hv : Sl slK w v l) (hl : l.length ≤ 100000) :
    Calls Tryz.prog 26 #[v] w fun e w' => ∃ v', e = .returned v' ∧ Own slK w' w.heap.size 80 v' l ∧ Below w.heap.size w w' := by
  obtain ⟨i0, hi, hz0, hz1, hz2⟩ := info_parts infoRs
  have HV := Lib.hid hv
  obtain ⟨ao, cap, rfl, hc1, hc2⟩ := hv.form
  have HL := Lib.hid hl
  have hlen : l.length ≤ 9223372036854775807 := by omega
  clear hv hc1 hc2 hl
  go_enter Tryz.func26, Tryz.ntmps26
  go_wp2
  go_loopg [3, 4] (l.length + 1) (fun k o t wr => ∃ i : Nat, i + k = l.length + 1 ∧ i ≤ l.length ∧ t = .int .i64 i ∧ wr.ownsRow w.heap.size 80 2 o i (slK.flat (l.take i)) ∧ Below w.heap.size w wr)
  case atStart => exact ⟨0, by omega, by omega, rfl, World.ownsRow_nil _ _ _ _, Below.refl _ _⟩
  case round =>
    obtain ⟨i, hik, hil, rfl, hown, hbw⟩ := hrel
    have HIK := Lib.hid hik
    clear hik
    by_cases hlt1 : i < l.length
    · obtain ⟨p, t, hx⟩ := at_ofT hlt1
      obtain ⟨b, off, rfl, hbl, q⟩ := HV.out.at hx
      obtain ⟨c0, c1⟩ := at2 (q.below hbw hbl)
      simp only [slK_k] at c0 c1
      have HX := Lib.hid hx
      have HI := Lib.hid hlt1
      clear hx q
      have hbase : w.heap.size ≤ wr.heap.size := hbw.size
      have hi0' : (0 : Int) ≤ (i : Int) := Int.natCast_nonneg _
      have hi1 : (i : Int) < (l.length : Int) := by omega
      have ag : u3.ownBlock ≠ some b := fun e => by have := (hown.lt b e).1; omega
      have hbl2 : b < wr.heap.size := by omega
      go_wp2_with fail
      go_region_held3 (fun w' => w'.cell? ⟨b, off + i * 2, none⟩ = some (.int .i64 p) ∧ w'.cell? ⟨b, off + i * 2 + 1, none⟩ = some (.bool t))
        (first
          | go_keep
          | (go_split_ands
             refine ⟨?_, ?_⟩
             · (rw [hgrow.cell_far _ (by simp; omega) (Ne.symm ag)]; assumption)
             · (rw [hgrow.cell_far _ (by simp; omega) (Ne.symm ag)]; assumption)))
        ((refine step_append_lies _ (by rfl) _ _ _ (by rfl) w.heap.size 80 i0 _ 2 16 Tryz.underlying69 hi hz0 hz1 hz2 rfl (by omega) u3 i (slK.flat (l.take i)) (by rfl) ((hown.alloc _).drew)
            ⟨wr.heap.size, 0, none⟩ 1 1 [.int .i64 p, .bool t] (by rfl) (by rfl) (World.news_of_block (cs := #[.int .i64 p, .bool t]) (t := 80) (fr := (0, 0)) (heap_alloc_new wr _)) (by simp [Value.oneCell'])
            (by omega) (by unfold maxLen; omega) (by have := HL.out; omega) (by simp; omega) (wr.heap.size + 1) (by simp) ?_; intro gg cap1 w1 hown1 hgrow hat hlt))
      have hb1 : Below w.heap.size w w1 := ((hbw.alloc hbase _).drew).grown hgrow (by simp; omega) (fun k e => (hown.lt k e).1)
      have HO := Lib.hid hown1
      have HB1 := Lib.hid hb1
      clear hown hown1 hgrow hat hlt hbw hb1 c0 c1 ag
      go_wp2
      go_roundg (l.length - i)
      case measure => have := HIK.out; have := HI.out; omega
      case rel =>
        refine ⟨i + 1, by have := HIK.out; have := HI.out; omega, by have := HI.out; omega, by go_num, ?_, HB1.out⟩
        rw [take_succT HX.out, flat_snoc]
        exact HO.out
    · have hin : i = l.length := by omega
      have hown2 : Own slK wr w.heap.size 80 u3 l := by
        have h := hown
        rw [hin, List.take_length] at h
        exact h
      have HO := Lib.hid hown2
      clear hown hown2 hin
      go_wp2
      go_ret
      exact ⟨_, rfl, HO.out, hbw⟩
end Go.Proofs.YtaifomnoecbohaaGreatDoor.Tb
namespace Go.Proofs.YtaifomnoecbohaaGreatDoor.Tb
open Go.RowKit Rw
set_option linter.unusedVariables false

/-- 64 places, each of few Gens; what was given back is of an elder Gen. -/
structure TabP (T : List So) (D : List Int) (i : Nat) : Prop where
  len : T.length = 64
  gen : ∀ x ∈ T, 0 ≤ x.1 ∧ x.1 ≤ (i : Int)
  old : ∀ d ∈ D, 0 ≤ d ∧ d ≤ 9223372036854775807 ∧ ∃ (j : Nat) (g : Int) (u : Bool), d % 64 = (j : Int) ∧ T[j]? = some (g, u) ∧ d / 64 < g
  many : D.length ≤ i
theorem TabP.start : TabP freshL [] 0 := ⟨by simp [freshL], fun x hx => by unfold freshL at hx; obtain ⟨_, rfl⟩ := List.mem_replicate.1 hx; decide, by simp, by simp⟩
theorem TabP.wf {T : List So} {D : List Int} {i : Nat} (h : TabP T D i) (hi : i ≤ 1000) : ∀ x ∈ T, slK.wf x := fun x hx => by
  have := h.gen x hx
  exact ⟨by omega, by omega⟩
theorem TabP.next {T : List So} {D : List Int} {i : Nat} (h : TabP T D i) : TabP T D (i + 1) := ⟨h.len, fun x hx => by have := h.gen x hx; omega, h.old, by have := h.many; omega⟩
/-- A free place, or none. -/
theorem free_or (T : List So) : FreeP T (-1) ∨ ∃ (j : Nat) (g : Int), FreeP T j ∧ T[j]? = some (g, false) := by
  have key : ∀ n, n ≤ T.length → (∀ x ∈ T.take n, x.2 = true) ∨ ∃ (j : Nat) (g : Int), FreeP T j ∧ T[j]? = some (g, false) := by
    intro n
    induction n with
    | zero => exact fun _ => .inl (by simp)
    | succ k ih =>
      intro hk
      rcases ih (by omega) with h | h
      · obtain ⟨g, u, hx⟩ := at_ofT (show k < T.length by omega)
        cases u
        · exact .inr ⟨k, g, .inr ⟨k, g, rfl, hx, h⟩, hx⟩
        · refine .inl fun x hx' => ?_
          rw [take_succT hx] at hx'
          rcases List.mem_append.1 hx' with hx' | hx'
          · exact h x hx'
          · simp at hx'; subst hx'; rfl
      · exact .inr h
  rcases key T.length (Nat.le_refl _) with h | h
  · exact .inl (.inl ⟨rfl, by simpa using h⟩)
  · exact .inr h
/-- What is taken was never given back. -/
theorem TabP.never {T : List So} {D : List Int} {i j : Nat} {g : Int} (h : TabP T D i) (hj : T[j]? = some (g, false)) {d : Int} (hd : d ∈ D) : d ≠ (j : Int) + 64 * g := by
  intro e
  have hl := (List.getElem?_eq_some_iff.1 hj).1
  rw [h.len] at hl
  obtain ⟨_, _, j', g', u, h1, h2, h3⟩ := h.old d hd
  have hjj : j' = j := by omega
  subst hjj
  rw [hj] at h2
  simp at h2
  omega
theorem TabP.take {T : List So} {D : List Int} {i j : Nat} {g : Int} (h : TabP T D i) (hj : T[j]? = some (g, false)) : TabP (T.set j (g, true)) D (i + 1) := by
  have hl := (List.getElem?_eq_some_iff.1 hj).1
  have hg := h.gen _ (List.mem_of_getElem? hj)
  refine ⟨by rw [List.length_set]; exact h.len, fun x hx => ?_, fun d hd => ?_, by have := h.many; omega⟩
  · rcases List.mem_or_eq_of_mem_set hx with hx | rfl
    · have := h.gen x hx; omega
    · simp only at hg ⊢; omega
  · obtain ⟨h0, h1, j', g', u, h2, h3, h4⟩ := h.old d hd
    refine ⟨h0, h1, j', g', if j' = j then true else u, h2, ?_, h4⟩
    by_cases e : j' = j
    · subst e
      rw [hj] at h3
      simp at h3
      rw [if_pos rfl, List.getElem?_set_self hl, h3.1]
    · rw [if_neg e, List.getElem?_set_ne (fun h => e h.symm)]
      exact h3
theorem TabP.give {T : List So} {D : List Int} {i j : Nat} {g id : Int} (h : TabP T D i) (hid : 0 ≤ id) (hid2 : id ≤ 9223372036854775807) (hm : id % 64 = (j : Int)) (hd : id / 64 = g) (hj : T[j]? = some (g, true)) : TabP (T.set j (g + 1, false)) (D ++ [id]) (i + 1) := by
  have hl := (List.getElem?_eq_some_iff.1 hj).1
  have hg := h.gen _ (List.mem_of_getElem? hj)
  refine ⟨by rw [List.length_set]; exact h.len, fun x hx => ?_, fun d hd' => ?_, by have := h.many; simp; omega⟩
  · rcases List.mem_or_eq_of_mem_set hx with hx | rfl
    · have := h.gen x hx; omega
    · simp only at hg ⊢; omega
  · rcases List.mem_append.1 hd' with hd' | hd'
    · obtain ⟨h0, h1, j', g', u, h2, h3, h4⟩ := h.old d hd'
      by_cases e : j' = j
      · subst e
        rw [hj] at h3
        simp at h3
        exact ⟨h0, h1, j', g + 1, false, h2, List.getElem?_set_self hl, by omega⟩
      · exact ⟨h0, h1, j', g', u, h2, by rw [List.getElem?_set_ne (fun h => e h.symm)]; exact h3, h4⟩
    · simp at hd'
      subst hd'
      exact ⟨hid, hid2, j, g + 1, false, hm, List.getElem?_set_self hl, by omega⟩
/-- What is not given: no such place, another Gen, not taken. -/
theorem give_or {T : List So} (hl : T.length = 64) {id : Int} (hid : 0 ≤ id) : ∃ (j : Nat) (g : Int) (u : Bool), id % 64 = (j : Int) ∧ T[j]? = some (g, u) := by
  obtain ⟨j, hj⟩ : ∃ j : Nat, id % 64 = (j : Int) := ⟨(id % 64).toNat, by omega⟩
  obtain ⟨g, u, hx⟩ := at_ofT (show j < T.length by omega)
  exact ⟨j, g, u, hj, hx⟩
end Go.Proofs.YtaifomnoecbohaaGreatDoor.Tb
