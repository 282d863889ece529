/-
  PACKAGE claim: Take, Give.
-/
import Derived.Test.YtdllgeanmlmmfaaGreatDoorJoined2
import Derived.Deep.QuietTactic
import Derived.BigQuiet
namespace Go.Proofs.YtdllgeanmlmmfaaGreatDoor.Tb
open Go.RowKit Rw Go.Lib
set_option linter.unusedVariables false

abbrev So := Int × Bool
theorem at_ofT {l : List So} {i : Nat} (h : i < l.length) : ∃ g u, l[i]? = some (g, u) := ⟨l[i].1, l[i].2, List.getElem?_eq_getElem h⟩
/-- The first place that is free. -/
def FreeP (T : List So) (z : Int) : Prop := (z = -1 ∧ ∀ x ∈ T, x.2 = true) ∨ ∃ (j : Nat) (g : Int), z = j ∧ T[j]? = some (g, false) ∧ ∀ x ∈ T.take j, x.2 = true
theorem FreeP.one {T : List So} {z z' : Int} (h : FreeP T z) (h' : FreeP T z') : z = z' := by
  rcases h with ⟨e, h⟩ | ⟨j, g, e, hj, h⟩
  · rcases h' with ⟨e', h'⟩ | ⟨j', g', e', hj', h'⟩
    · omega
    · exact absurd (h _ (List.mem_of_getElem? hj')) (by simp)
  · rcases h' with ⟨e', h'⟩ | ⟨j', g', e', hj', h'⟩
    · exact absurd (h' _ (List.mem_of_getElem? hj)) (by simp)
    · rcases Nat.lt_trichotomy j j' with hlt | hlt | hlt
      · exact absurd (h' (g, false) (List.mem_iff_getElem?.2 ⟨j, by rw [List.getElem?_take_of_lt hlt]; exact hj⟩)) (by simp)
      · omega
      · exact absurd (h (g', false) (List.mem_iff_getElem?.2 ⟨j', by rw [List.getElem?_take_of_lt hlt]; exact hj'⟩)) (by simp)
theorem take_succT {l : List So} {i : Nat} {x : So} (h : l[i]? = some x) : l.take (i + 1) = l.take i ++ [x] := by rw [List.take_add_one, h]; rfl

set_option maxRecDepth 1000000 in
set_option maxHeartbeats 8000000 in
theorem idxS_any {w : World} {v : Value} {T : List So} (hv : Sl slK w v T) :
    Calls Tryz.prog 90 #[v, .func (.func 91) #[] #[]] w fun e w' => ∃ z : Int, e = .returned (.int .i64 z) ∧ FreeP T z ∧ Below w.heap.size w w' := by
  have HV := Lib.hid hv
  obtain ⟨ao, cap, rfl, hc1, hc2⟩ := hv.form
  have hlen : T.length ≤ 9223372036854775807 := by omega
  have HCM := Lib.hid (fun g u W => take1_any g u W)
  clear hv
  go_enter Tryz.func90, Tryz.ntmps90
  go_wp2
  go_loopg [8] T.length (fun k s8 wr => ∃ i : Nat, i + k = T.length ∧ s8 = .int .i64 i ∧ (∀ x ∈ T.take i, x.2 = true) ∧ Below w.heap.size w wr)
  case atStart => exact ⟨0, by omega, rfl, by simp, Below.refl _ _⟩
  case round =>
    obtain ⟨i, hik, rfl, hok, hbw⟩ := hrel
    have HIK := Lib.hid hik
    have HOK := Lib.hid hok
    have HBW := Lib.hid hbw
    clear hok hbw hik
    by_cases hlt : i < T.length
    · obtain ⟨g, u, hx⟩ := at_ofT hlt
      obtain ⟨b, off, hao, hbl, q⟩ := HV.out.at hx
      subst hao
      obtain ⟨c0, c1⟩ := at2 (q.below HBW.out hbl)
      simp only [slK_k] at c0 c1
      have HX := Lib.hid hx
      have hi0 : (0 : Int) ≤ (i : Int) := Int.natCast_nonneg _
      have hi1 : (i : Int) < (T.length : Int) := by omega
      have HLT := Lib.hid hlt
      clear hx q hlt
      cases u
      all_goals
        go_wp2_with fail
        go_at_call 91
        refine (HCM.out g _ _).mono ?_
        rintro e w1 ⟨rfl, hcb⟩
        have HB1 := Lib.hid (HBW.out.trans (hcb.mono HBW.out.size))
        clear hcb c0 c1
        go_wp2_with fail
      · go_ret
        exact ⟨_, rfl, .inr ⟨i, g, rfl, HX.out, HOK.out⟩, HB1.out⟩
      · go_roundg (gk - 1)
        case measure => have := HIK.out; have := HLT.out; omega
        case rel => exact ⟨i + 1, by have := HIK.out; have := HLT.out; omega, by go_num, fun x hx => by
          rw [take_succT HX.out] at hx
          rcases List.mem_append.1 hx with hx | hx
          · exact HOK.out x hx
          · simp at hx; subst hx; rfl, HB1.out⟩
    · have hj2 : decide ((i : Int) < (T.length : Int)) = false := decide_eq_false (by omega)
      have HF := Lib.hid (show FreeP T (-1) from .inl ⟨rfl, fun x hx => HOK.out x (by rw [List.take_of_length_le (by omega)]; exact hx)⟩)
      go_wp2_with fail
      go_ret
      exact ⟨_, rfl, HF.out, HBW.out⟩

set_option maxRecDepth 1000000 in
set_option maxHeartbeats 8000000 in
theorem take_no {w : World} {v : Value} {T : List So} (hv : Sl slK w v T) (hn : FreeP T (-1)) :
    Calls Tryz.prog 62 #[v] w fun e w' => e = .returned (.tuple #[v, .int .i64 0, .bool false]) ∧ Below w.heap.size w w' := by
  have HI := Lib.hid (idxS_any hv)
  have HN := Lib.hid hn
  clear hv hn
  go_enter Tryz.func62, Tryz.ntmps62
  go_wp2_with fail
  go_at_call 90
  refine HI.out.mono ?_
  rintro e w1 ⟨z, rfl, hz, hb⟩
  obtain rfl := hz.one HN.out
  have HB := Lib.hid hb
  clear hz hb
  go_wp2_with fail
  go_ret3
  exact ⟨rfl, HB.out⟩

theorem slK_set {T : List So} {j : Nat} {x y : So} (h : T[j]? = some x) : slK.flat (T.set j y) = ((slK.flat T).set (j * 2) (.int .i64 y.1)).set (j * 2 + 1) (.bool y.2) := by
  have e : ∀ (z : So) q, slK.flat (z :: q) = .int .i64 z.1 :: .bool z.2 :: slK.flat q := fun _ _ => rfl
  induction T generalizing j with
  | nil => simp at h
  | cons z r ih =>
    cases j with
    | zero => rfl
    | succ k =>
      rw [List.set_cons_succ, e, e, ih (by simpa using h), show (k + 1) * 2 = k * 2 + 1 + 1 by omega]
      rfl
theorem slK_set1 {T : List So} {j : Nat} {g : Int} {u : Bool} (h : T[j]? = some (g, u)) (u' : Bool) : slK.flat (T.set j (g, u')) = (slK.flat T).set (j * 2 + 1) (.bool u') := by
  rw [slK_set h]
  congr 1
  have h0 := flat_at (S := slK) h 0 (by decide)
  obtain ⟨hl, he⟩ := List.getElem?_eq_some_iff.1 (show (slK.flat T)[j * 2]? = some (.int .i64 g) from h0)
  show (slK.flat T).set (j * 2) (.int .i64 g) = _
  rw [← he, List.set_getElem_self]
theorem own_used {w : World} {base a n cap : Nat} {Ty : TypeId} {T : List So} (h : Own slK w base Ty (.slice (some ⟨a, 0, none⟩) n cap) T) {j : Nat} {g : Int} {u : Bool} (hj : T[j]? = some (g, u)) (u' : Bool) :
    Own slK (w.setCell ⟨a, j * 2 + 1, none⟩ (.bool u')) base Ty (.slice (some ⟨a, 0, none⟩) n cap) (T.set j (g, u')) := by
  have hl := (List.getElem?_eq_some_iff.1 hj).1
  unfold Own
  rw [slK_set1 hj, List.length_set]
  exact row_set h (by show j * 2 + 1 < T.length * 2; omega) _
theorem own_put {w : World} {base a n cap : Nat} {Ty : TypeId} {T : List So} (h : Own slK w base Ty (.slice (some ⟨a, 0, none⟩) n cap) T) {j : Nat} {x : So} (hj : T[j]? = some x) (y : So) :
    Own slK ((w.setCell ⟨a, j * 2, none⟩ (.int .i64 y.1)).setCell ⟨a, j * 2 + 1, none⟩ (.bool y.2)) base Ty (.slice (some ⟨a, 0, none⟩) n cap) (T.set j y) := by
  have hl := (List.getElem?_eq_some_iff.1 hj).1
  unfold Own
  rw [slK_set hj, List.length_set]
  exact row_set (row_set h (by show j * 2 < T.length * 2; omega) _) (by show j * 2 + 1 < T.length * 2; omega) _
theorem own_some {w : World} {base : Nat} {Ty : TypeId} {v : Value} {T : List So} (h : Own slK w base Ty v T) (h0 : 0 < T.length) : ∃ a cap, v = .slice (some ⟨a, 0, none⟩) T.length cap ∧ base ≤ a ∧ a < w.heap.size ∧ T.length ≤ cap ∧ cap ≤ 9223372036854775807 := by
  rcases h.form with ⟨rfl, _⟩ | ⟨a, cap, h1, h2, h3, h4, h5⟩
  · simp at h0
  · exact ⟨a, cap, h1, h2, h3, h4, h5⟩

set_option maxRecDepth 1000000 in
set_option maxHeartbeats 8000000 in
theorem take_yes {w : World} {v : Value} {T : List So} {j : Nat} {g : Int} (hv : Sl slK w v T) (hn : FreeP T j) (hj : T[j]? = some (g, false)) (hl : T.length ≤ 64) (hg : 0 ≤ g ∧ g ≤ 100000) :
    Calls Tryz.prog 62 #[v] w fun e w' => ∃ v', e = .returned (.tuple #[v', .int .i64 ((j : Int) + 64 * g), .bool true]) ∧ Own slK w' w.heap.size 173 v' (T.set j (g, true)) ∧ Below w.heap.size w w' := by
  have HI := Lib.hid (idxS_any hv)
  have HV := Lib.hid hv
  have HN := Lib.hid hn
  have hjl := (List.getElem?_eq_some_iff.1 hj).1
  have HJ := Lib.hid hj
  obtain ⟨ao, cap, rfl, _⟩ := hv.form
  obtain ⟨b, off, rfl, hbl, q⟩ := hv.at hj
  have HQ := Lib.hid q
  have hj0 : (0 : Int) ≤ (j : Int) := Int.natCast_nonneg _
  have hj1 : (j : Int) < (T.length : Int) := by omega
  have hw1 : IntKind.i64.wrap (64 * g) = 64 * g := by rw [IntKind.wrap_i64]; omega
  have hw2 : IntKind.i64.wrap ((j : Int) + 64 * g) = (j : Int) + 64 * g := by rw [IntKind.wrap_i64]; omega
  clear hv hn hj q hg hjl
  go_enter Tryz.func62, Tryz.ntmps62
  go_wp2_with fail
  go_at_call 90
  refine HI.out.mono ?_
  rintro e w1 ⟨z, rfl, hz, hb⟩
  obtain rfl := hz.one HN.out
  have HB := Lib.hid hb
  clear hz hb
  go_wp2_with fail
  go_at_call 92
  refine (cloneT_any (HV.out.below HB.out) (by omega)).mono ?_
  rintro e w2 ⟨v', rfl, ho, hb⟩
  obtain ⟨a, cap', rfl, ha0, ha1, _, _⟩ := own_some ho (by omega)
  have HO := Lib.hid ho
  have hab := Nat.lt_of_lt_of_le hbl HB.out.size
  have hne : b ≠ a := by omega
  have hne' : a ≠ b := by omega
  have HB2 := Lib.hid (HB.out.trans (hb.mono HB.out.size))
  obtain ⟨c0, c1⟩ := at2 (ho.at HJ.out)
  have cf := ho.free (j * 2 + 1)
  obtain ⟨d0, d1⟩ := at2 ((HQ.out.below HB.out hbl).below hb hab)
  simp only [slK_k] at c0 c1 d0 d1
  clear ho hb d1 c0
  go_wp2_with fail
  go_quiet (fail)
  go_wp2_with fail
  go_ret3
  exact ⟨_, rfl, (own_used (HO.out.mono HB.out.size) HJ.out true).draw _, below_drewN (HB2.out.setCell (p := ⟨a, j * 2 + 1, none⟩) (by have := HB.out.size; show w.heap.size ≤ a; omega) _) _⟩
end Go.Proofs.YtdllgeanmlmmfaaGreatDoor.Tb
