/-
  YtlkljeedlkbkgaaGreatDoorClClose
  YtlkljeedlkbkgaaGreatDoorSlTab
  YtlkljeedlkbkgaaGreatDoorSlTake
  YtlkljeedlkbkgaaGreatDoorSlGive
-/
import Derived.Test.YtlkljeedlkbkgaaGreatDoorClAdvance
import Derived.Test.YtlkljeedlkbkgaaGreatDoorJoined13
import Derived.Test.YtlkljeedlkbkgaaGreatDoorJoined5
import Derived.Test.YtlkljeedlkbkgaaGreatDoorJoined4
import Derived.Shelf.SlicesE.Clone
import Derived.WalkKit
import Derived.WalkLawsBesides
import Derived.WalkSpells
import Derived.WalkSmall
import Derived.StillTactics
import Derived.StillTailTactics
import Derived.Outline
import Derived.Deep.QuietTactic
import Derived.BigQuiet
import Derived.Laws.StructEq
import Derived.Deep.RegionHeld3
import Derived.Deep.Cut
namespace Go.Proofs.YtlkljeedlkbkgaaGreatDoor.Cl
open Go.RowKit Gr
set_option linter.unusedVariables false
set_option maxRecDepth 1000000 in
set_option maxHeartbeats 8000000 in
theorem close_stale {w : World} {vh vb : Value} {H : List Ed} {B : List Batch.Ch} (h : Int) (ho : OwnAt w vh vb H B) (hr : Rise H) (hl : H.length ≤ 100000) (hh : hasB H h = false) :
    Calls Tryz.prog 25 #[.agg #[vh, vb], .int .i64 h] w fun e w' => ∃ ve, e = .returned (.tuple #[.agg #[vh, vb], .slice none 0 0, ve]) ∧ ErrIs w' ve ([(handleS, h)], 7) ∧ Below w.heap.size w w' := by
  have HP := Lib.hid (fun W hW => place_any (w := W) (v := vh) (vb := vb) h hW hr hl)
  have HH := Lib.hid hh
  have HOW := Lib.hid ho
  obtain ⟨ao, cap, rfl, _⟩ := ho.hands
  obtain ⟨ab, capb, rfl, _⟩ := ho.held
  obtain ⟨w0, hw0⟩ : ∃ w0, w0 = (w.alloc (.cells #[.slice ao H.length cap, .slice ab B.length capb] 47)).alloc (.cells #[.slice none 0 0, .slice none 0 0] 47) := ⟨_, rfl⟩
  obtain ⟨hb0, hs0, hx0, hy0⟩ := start2 w _ _ hw0
  have HX := Lib.hid hx0
  have HY := Lib.hid hy0
  have HB0 := Lib.hid hb0
  have HS0 := Lib.hid hs0
  clear hb0 hs0 hx0 hy0 hr hh ho
  go_enter Tryz.func25, Tryz.ntmps25
  go_wp2_with fail
  go_at_call 44
  rw [← hw0]
  clear hw0
  refine (HP.out w0 (HOW.out.hands.below HB0.out)).mono ?_
  rw [HH.out]
  rintro e w1 ⟨rfl, hb⟩
  have hlt0 : w.heap.size < w0.heap.size := by have := HS0.out; omega
  have hlt1 : w.heap.size + 1 < w0.heap.size := by have := HS0.out; omega
  have HX1 := Lib.hid ((hb.block _ hlt0).trans HX.out)
  have HY1 := Lib.hid ((hb.block _ hlt1).trans HY.out)
  have HB1 := Lib.hid (HB0.out.trans (hb.mono HB0.out.size))
  have hs1 := hb.size
  have hlx : w.heap.size < w1.heap.size := by omega
  have hly : w.heap.size + 1 < w1.heap.size := by omega
  obtain ⟨x0, x1, _⟩ := pair_cells HX1.out
  clear hb hlt0 hlt1 hs1
  go_upto_region 3 with fail
  go_region_held3 (fun w' => w'.cell? ⟨w.heap.size, 0, none⟩ = some (.slice ao H.length cap) ∧ w'.cell? ⟨w.heap.size, 1, none⟩ = some (.slice ab B.length capb))
    (first
      | go_keep
      | (go_split_ands
         refine ⟨?_, ?_⟩ <;> (rw [hcb.cell (by simp; omega)]; assumption)))
    ((go_at_call 61; refine (stale_any h _).mono ?_; rintro e w2 ⟨ve, rfl, hve, hcb⟩; obtain ⟨y0, y1, yf⟩ := pair_cells ((hcb.block (w.heap.size + 1) (by simp; omega)).trans HY1.out); have yf0 := yf 0; have yf1 := yf 1; clear yf))
  go_wp2_with fail
  have hb12 : Below w1.heap.size w1 w2 := (below_drewN (Below.refl w1.heap.size w1) 1).trans hcb
  obtain ⟨r0, r1, _⟩ := pair_cells (heap_setCell_same _ (w.heap.size + 1) 1 _ _ (.slice ab B.length capb) (heap_setCell_same w2 (w.heap.size + 1) 0 _ _ (.slice ao H.length cap) ((hb12.block _ hly).trans HY1.out)))
  refine bodyPost_ret (v := .tuple #[.agg #[.slice ao H.length cap, .slice ab B.length capb], .slice none 0 0, ve]) (by simp [results, Tryz.results25, go_sem, r0, r1]) rfl ⟨_, rfl, ?_, ?_⟩
  · exact err_set hve y0 _ _
  · exact ((HB1.out.trans (hb12.mono HB1.out.size)).setCell (p := ⟨w.heap.size + 1, 0, none⟩) (Nat.le_succ _) _).setCell (p := ⟨w.heap.size + 1, 1, none⟩) (Nat.le_succ _) _
end Go.Proofs.YtlkljeedlkbkgaaGreatDoor.Cl
namespace Go.Proofs.YtlkljeedlkbkgaaGreatDoor.Tb
open Go.RowKit Rw Go.Shelf Go.Lib
set_option linter.unusedVariables false
def slK : Kd (Int × Bool) where
  k := 2
  cells x := [.int .i64 x.1, .bool x.2]
  wf x := -9223372036854775808 ≤ x.1 ∧ x.1 ≤ 9223372036854775807
  len _ := rfl
  one x u hu := by simp at hu; rcases hu with rfl | rfl <;> rfl
theorem slK_k : slK.k = 2 := rfl
theorem at2 {w : World} {b o : Nat} {g : Int} {u : Bool} (h : AtK slK w b o (g, u)) : w.cell? ⟨b, o, none⟩ = some (.int .i64 g) ∧ w.cell? ⟨b, o + 1, none⟩ = some (.bool u) :=
  ⟨h 0 _ (by decide) rfl, h 1 _ (by decide) rfl⟩
theorem infoSl : (Tryz.prog.info? 126).map (fun i => (i.zero, i.size, i.bytes)) = some (some (.agg #[.int .i64 0, .bool false]), 2, 16) := by kernel_rfl
theorem info_parts {P : Program} {t : TypeId} {z : Value} {size bytes : Nat} (h : (P.info? t).map (fun i => (i.zero, i.size, i.bytes)) = some (some z, size, bytes)) : ∃ i, P.info? t = some i ∧ i.zero = some z ∧ i.size = size ∧ i.bytes = bytes := by
  obtain ⟨i, hi, hz⟩ := Option.map_eq_some_iff.1 h
  simp only [Prod.mk.injEq] at hz
  exact ⟨i, hi, hz⟩
theorem cloneT_any {w : World} {v : Value} {l : List (Int × Bool)} (h : Sl slK w v l) (hl : l.length ≤ 100000) :
    Calls Tryz.prog 67 #[v] w fun e w' => ∃ v', e = .returned v' ∧ Own slK w' w.heap.size 126 v' l ∧ Below w.heap.size w w' := by
  have hh := h
  obtain ⟨ao, cap, rfl, h1, _⟩ := h
  obtain ⟨i0, hi, hz0, hz1, hz2⟩ := info_parts infoSl
  rcases h1 with ⟨rfl, rfl⟩ | ⟨b, off, _, rfl, h1⟩
  · exact (AnyE.slices_Clone_nil Tryz.cloneT 0 cap w).mono fun e w' ⟨he, hw⟩ => ⟨_, he, by rw [hw]; exact Own.nil _ _ _, by rw [hw]; exact Below.refl _ _⟩
  · exact (AnyE.slices_Clone Tryz.cloneT i0 (.agg #[.int .i64 0, .bool false]) 2 16 hi hz0 hz1 hz2 rfl (by omega) Tryz.sizeOf126 b off l.length cap (slK.flat l) w (flat_length l) (by unfold maxLen; omega) (by omega) (hh.cells (by decide)) (flat_one l)).mono
      fun e w' ⟨v', he, ho, _, hb⟩ => ⟨v', he, ho, hb⟩
def freshL : List (Int × Bool) := List.replicate 64 (0, false)
set_option maxRecDepth 1000000 in
set_option maxHeartbeats 4000000 in
theorem fresh_any (w : World) : Calls Tryz.prog 27 #[] w fun e w' => ∃ v, e = .returned v ∧ Own slK w' w.heap.size 126 v freshL ∧ Below w.heap.size w w' := by
  obtain ⟨i0, hi, hz0, hz1, hz2⟩ := info_parts infoSl
  obtain ⟨w1, hrun, hown, hg⟩ := run_makeSlice_full (P := Tryz.prog) w w.heap.size 82 126 i0 (.agg #[.int .i64 0, .bool false]) 2 Tryz.underlying82 hi hz0 hz1 .i64 .i64 64 (by decide) (by rw [hz2]; decide) (by decide) (Nat.le_refl _)
  have hrun' : (Instr.makeSlice 82 (.int .i64 64) (.int .i64 64)).run Tryz.prog w = .ok (.slice (some ⟨w.heap.size, 0, none⟩) 64 64) w1 := hrun
  have hcs : (madeCells (Value.agg #[Value.int IntKind.i64 0, Value.bool false]).cells (64 * 2)).toList = slK.flat freshL := by kernel_rfl
  have hO : Own slK w1 w.heap.size 126 (.slice (some ⟨w.heap.size, 0, none⟩) 64 64) freshL := by unfold Own; rw [← hcs]; exact hown
  have HO := Lib.hid hO
  have HB := Lib.hid ((Below.refl w.heap.size w).grown hg (Nat.le_refl _) (fun k e => by cases e))
  clear hrun hown hg hO hi hz0 hz1 hz2
  go_enter Tryz.func27, Tryz.ntmps27
  go_wp2
  go_ret
  exact ⟨_, rfl, HO.out, HB.out⟩
theorem take1_any (g : Int) (u : Bool) (w : World) : Calls Tryz.prog 66 #[.agg #[.int .i64 g, .bool u]] w fun e w' => e = .returned (.bool (!u)) ∧ Below w.heap.size w w' := by
  have hb : Below w.heap.size w (w.alloc (.cells #[.int .i64 g, .bool u] 126)) := (Below.refl _ _).alloc (Nat.le_refl _) _
  have HB := Lib.hid hb
  clear hb
  cases u
  all_goals
    go_enter Tryz.func66, Tryz.ntmps66
    go_wp2
    go_ret
    exact ⟨rfl, HB.out⟩
end Go.Proofs.YtlkljeedlkbkgaaGreatDoor.Tb
namespace Go.Proofs.YtlkljeedlkbkgaaGreatDoor.Tb
open Go.RowKit Rw Go.Lib
set_option linter.unusedVariables false
abbrev So := Int × Bool
theorem at_ofT {l : List So} {i : Nat} (h : i < l.length) : ∃ g u, l[i]? = some (g, u) := ⟨l[i].1, l[i].2, List.getElem?_eq_getElem h⟩
def FreeP (T : List So) (z : Int) : Prop := (z = -1 ∧ ∀ x ∈ T, x.2 = true) ∨ ∃ (j : Nat) (g : Int), z = j ∧ T[j]? = some (g, false) ∧ ∀ x ∈ T.take j, x.2 = true
theorem FreeP.one {T : List So} {z z' : Int} (h : FreeP T z) (h' : FreeP T z') : z = z' := by
  rcases h with ⟨e, h⟩ | ⟨j, g, e, hj, h⟩
  · rcases h' with ⟨e', h'⟩ | ⟨j', g', e', hj', h'⟩
    · omega
    · exact absurd (h _ (List.mem_of_getElem? hj')) (by simp)
  · rcases h' with ⟨e', h'⟩ | ⟨j', g', e', hj', h'⟩
    · exact absurd (h' _ (List.mem_of_getElem? hj)) (by simp)
    · rcases Nat.lt_trichotomy j j' with hlt | hlt | hlt
      · exact absurd (h' (g, false) (List.mem_iff_getElem?.2 ⟨j, by rw [List.getElem?_take_of_lt hlt]; exact hj⟩)) (by simp)
      · omega
      · exact absurd (h (g', false) (List.mem_iff_getElem?.2 ⟨j', by rw [List.getElem?_take_of_lt hlt]; exact hj'⟩)) (by simp)
theorem take_succT {l : List So} {i : Nat} {x : So} (h : l[i]? = some x) : l.take (i + 1) = l.take i ++ [x] := by rw [List.take_add_one, h]; rfl
set_option maxRecDepth 1000000 in
set_option maxHeartbeats 8000000 in
theorem idxS_any {w : World} {v : Value} {T : List So} (hv : Sl slK w v T) :
    Calls Tryz.prog 65 #[v, .func (.func 66) #[] #[]] w fun e w' => ∃ z : Int, e = .returned (.int .i64 z) ∧ FreeP T z ∧ Below w.heap.size w w' := by
  have HV := Lib.hid hv
  obtain ⟨ao, cap, rfl, hc1, hc2⟩ := hv.form
  have hlen : T.length ≤ 9223372036854775807 := by omega
  have HCM := Lib.hid (fun g u W => take1_any g u W)
  clear hv
  go_enter Tryz.func65, Tryz.ntmps65
  go_wp2
  go_loopg [8] T.length (fun k s8 wr => ∃ i : Nat, i + k = T.length ∧ s8 = .int .i64 i ∧ (∀ x ∈ T.take i, x.2 = true) ∧ Below w.heap.size w wr)
  case atStart => exact ⟨0, by omega, rfl, by simp, Below.refl _ _⟩
  case round =>
    obtain ⟨i, hik, rfl, hok, hbw⟩ := hrel
    have HIK := Lib.hid hik
    have HOK := Lib.hid hok
    have HBW := Lib.hid hbw
    clear hok hbw hik
    by_cases hlt : i < T.length
    · obtain ⟨g, u, hx⟩ := at_ofT hlt
      obtain ⟨b, off, hao, hbl, q⟩ := HV.out.at hx
      subst hao
      obtain ⟨c0, c1⟩ := at2 (q.below HBW.out hbl)
      simp only [slK_k] at c0 c1
      have HX := Lib.hid hx
      have hi0 : (0 : Int) ≤ (i : Int) := Int.natCast_nonneg _
      have hi1 : (i : Int) < (T.length : Int) := by omega
      have HLT := Lib.hid hlt
      clear hx q hlt
      cases u
      all_goals
        go_wp2_with fail
        go_at_call 66
        refine (HCM.out g _ _).mono ?_
        rintro e w1 ⟨rfl, hcb⟩
        have HB1 := Lib.hid (HBW.out.trans (hcb.mono HBW.out.size))
        clear hcb c0 c1
        go_wp2_with fail
      · go_ret
        exact ⟨_, rfl, .inr ⟨i, g, rfl, HX.out, HOK.out⟩, HB1.out⟩
      · go_roundg (gk - 1)
        case measure => have := HIK.out; have := HLT.out; omega
        case rel => exact ⟨i + 1, by have := HIK.out; have := HLT.out; omega, by go_num, fun x hx => by
          rw [take_succT HX.out] at hx
          rcases List.mem_append.1 hx with hx | hx
          · exact HOK.out x hx
          · simp at hx; subst hx; rfl, HB1.out⟩
    · have hj2 : decide ((i : Int) < (T.length : Int)) = false := decide_eq_false (by omega)
      have HF := Lib.hid (show FreeP T (-1) from .inl ⟨rfl, fun x hx => HOK.out x (by rw [List.take_of_length_le (by omega)]; exact hx)⟩)
      go_wp2_with fail
      go_ret
      exact ⟨_, rfl, HF.out, HBW.out⟩
theorem slK_set {T : List So} {j : Nat} {x y : So} (h : T[j]? = some x) : slK.flat (T.set j y) = ((slK.flat T).set (j * 2) (.int .i64 y.1)).set (j * 2 + 1) (.bool y.2) := by
  have e : ∀ (z : So) q, slK.flat (z :: q) = .int .i64 z.1 :: .bool z.2 :: slK.flat q := fun _ _ => rfl
  induction T generalizing j with
  | nil => simp at h
  | cons z r ih =>
    cases j with
    | zero => rfl
    | succ k =>
      rw [List.set_cons_succ, e, e, ih (by simpa using h), show (k + 1) * 2 = k * 2 + 1 + 1 by omega]
      rfl
theorem slK_set1 {T : List So} {j : Nat} {g : Int} {u : Bool} (h : T[j]? = some (g, u)) (u' : Bool) : slK.flat (T.set j (g, u')) = (slK.flat T).set (j * 2 + 1) (.bool u') := by
  rw [slK_set h]
  congr 1
  have h0 := flat_at (S := slK) h 0 (by decide)
  obtain ⟨hl, he⟩ := List.getElem?_eq_some_iff.1 (show (slK.flat T)[j * 2]? = some (.int .i64 g) from h0)
  show (slK.flat T).set (j * 2) (.int .i64 g) = _
  rw [← he, List.set_getElem_self]
theorem own_used {w : World} {base a n cap : Nat} {Ty : TypeId} {T : List So} (h : Own slK w base Ty (.slice (some ⟨a, 0, none⟩) n cap) T) {j : Nat} {g : Int} {u : Bool} (hj : T[j]? = some (g, u)) (u' : Bool) :
    Own slK (w.setCell ⟨a, j * 2 + 1, none⟩ (.bool u')) base Ty (.slice (some ⟨a, 0, none⟩) n cap) (T.set j (g, u')) := by
  have hl := (List.getElem?_eq_some_iff.1 hj).1
  unfold Own
  rw [slK_set1 hj, List.length_set]
  exact row_set h (by show j * 2 + 1 < T.length * 2; omega) _
theorem own_put {w : World} {base a n cap : Nat} {Ty : TypeId} {T : List So} (h : Own slK w base Ty (.slice (some ⟨a, 0, none⟩) n cap) T) {j : Nat} {x : So} (hj : T[j]? = some x) (y : So) :
    Own slK ((w.setCell ⟨a, j * 2, none⟩ (.int .i64 y.1)).setCell ⟨a, j * 2 + 1, none⟩ (.bool y.2)) base Ty (.slice (some ⟨a, 0, none⟩) n cap) (T.set j y) := by
  have hl := (List.getElem?_eq_some_iff.1 hj).1
  unfold Own
  rw [slK_set hj, List.length_set]
  exact row_set (row_set h (by show j * 2 < T.length * 2; omega) _) (by show j * 2 + 1 < T.length * 2; omega) _
theorem own_some {w : World} {base : Nat} {Ty : TypeId} {v : Value} {T : List So} (h : Own slK w base Ty v T) (h0 : 0 < T.length) : ∃ a cap, v = .slice (some ⟨a, 0, none⟩) T.length cap ∧ base ≤ a ∧ a < w.heap.size ∧ T.length ≤ cap ∧ cap ≤ 9223372036854775807 := by
  rcases h.form with ⟨rfl, _⟩ | ⟨a, cap, h1, h2, h3, h4, h5⟩
  · simp at h0
  · exact ⟨a, cap, h1, h2, h3, h4, h5⟩
set_option maxRecDepth 1000000 in
set_option maxHeartbeats 8000000 in
theorem take_yes {w : World} {v : Value} {T : List So} {j : Nat} {g : Int} (hv : Sl slK w v T) (hn : FreeP T j) (hj : T[j]? = some (g, false)) (hl : T.length ≤ 64) (hg : 0 ≤ g ∧ g ≤ 100000) :
    Calls Tryz.prog 26 #[v] w fun e w' => ∃ v', e = .returned (.tuple #[v', .int .i64 ((j : Int) + 64 * g), .bool true]) ∧ Own slK w' w.heap.size 126 v' (T.set j (g, true)) ∧ Below w.heap.size w w' := by
  have HI := Lib.hid (idxS_any hv)
  have HV := Lib.hid hv
  have HN := Lib.hid hn
  have hjl := (List.getElem?_eq_some_iff.1 hj).1
  have HJ := Lib.hid hj
  obtain ⟨ao, cap, rfl, _⟩ := hv.form
  obtain ⟨b, off, rfl, hbl, q⟩ := hv.at hj
  have HQ := Lib.hid q
  have hj0 : (0 : Int) ≤ (j : Int) := Int.natCast_nonneg _
  have hj1 : (j : Int) < (T.length : Int) := by omega
  have hw1 : IntKind.i64.wrap (64 * g) = 64 * g := by rw [IntKind.wrap_i64]; omega
  have hw2 : IntKind.i64.wrap ((j : Int) + 64 * g) = (j : Int) + 64 * g := by rw [IntKind.wrap_i64]; omega
  clear hv hn hj q hg hjl
  go_enter Tryz.func26, Tryz.ntmps26
  go_wp2_with fail
  go_at_call 65
  refine HI.out.mono ?_
  rintro e w1 ⟨z, rfl, hz, hb⟩
  obtain rfl := hz.one HN.out
  have HB := Lib.hid hb
  clear hz hb
  go_wp2_with fail
  go_at_call 67
  refine (cloneT_any (HV.out.below HB.out) (by omega)).mono ?_
  rintro e w2 ⟨v', rfl, ho, hb⟩
  obtain ⟨a, cap', rfl, ha0, ha1, _, _⟩ := own_some ho (by omega)
  have HO := Lib.hid ho
  have hab := Nat.lt_of_lt_of_le hbl HB.out.size
  have hne : b ≠ a := by omega
  have hne' : a ≠ b := by omega
  have HB2 := Lib.hid (HB.out.trans (hb.mono HB.out.size))
  obtain ⟨c0, c1⟩ := at2 (ho.at HJ.out)
  have cf := ho.free (j * 2 + 1)
  obtain ⟨d0, d1⟩ := at2 ((HQ.out.below HB.out hbl).below hb hab)
  simp only [slK_k] at c0 c1 d0 d1
  clear ho hb d1 c0
  go_wp2_with fail
  go_quiet (fail)
  go_wp2_with fail
  go_ret3
  exact ⟨_, rfl, (own_used (HO.out.mono HB.out.size) HJ.out true).draw _, below_drewN (HB2.out.setCell (p := ⟨a, j * 2 + 1, none⟩) (by have := HB.out.size; show w.heap.size ≤ a; omega) _) _⟩
end Go.Proofs.YtlkljeedlkbkgaaGreatDoor.Tb
namespace Go.Proofs.YtlkljeedlkbkgaaGreatDoor.Tb
open Go.RowKit Rw Go.Lib
set_option linter.unusedVariables false
theorem neqSl (a b : Int) (u v : Bool) (w : World) : (binOp .neq 126 (.agg #[.int .i64 a, .bool u]) (.agg #[.int .i64 b, .bool v])).run Tryz.prog w = .ok (.bool (!(a == b && u == v))) w := by
  have u3 := Tryz.underlying3
  have a3 := Tryz.isAgg3
  have z3 := Tryz.sizeOf3
  have u2 := Tryz.underlying4
  have a2 := Tryz.isAgg4
  have z2 := Tryz.sizeOf4
  have hS : Tryz.prog.underlying 126 = some (.struct (Tryz.prog.fieldsOf 126)) := by kernel_rfl
  have hp : Tryz.prog.stoodInHeld 126 = false := by kernel_rfl
  rw [run_neq_struct, show (10000 : Nat) = 9999 + 1 from rfl, run_equalIn_agg w 9999 126 _ _ hS hp]
  simp only [Program.fieldsOf, Tryz.underlying126]
  go_simp
  cases u <;> cases v <;> by_cases h1 : a = b <;> simp [h1]
set_option maxRecDepth 1000000 in
set_option maxHeartbeats 8000000 in
theorem give_no {w : World} {v : Value} {T : List So} {j : Nat} {g g' : Int} {u : Bool} (id : Int) (hv : Sl slK w v T) (hid : 0 ≤ id) (hid2 : id ≤ 9223372036854775807) (hm : id % 64 = (j : Int)) (hd : id / 64 = g) (hj : T[j]? = some (g', u)) (hn : (g' == g && u == true) = false) :
    Calls Tryz.prog 28 #[v, .int .i64 id] w fun e w' => e = .returned (.tuple #[v, .bool false]) ∧ w = w' := by
  have hjl := (List.getElem?_eq_some_iff.1 hj).1
  obtain ⟨ao, cap, rfl, hc1, hc2⟩ := hv.form
  obtain ⟨b, off, rfl, hbl, q⟩ := hv.at hj
  obtain ⟨c0, c1⟩ := at2 q
  simp only [slK_k] at c0 c1
  have hlen : T.length ≤ 9223372036854775807 := by omega
  have hj0 : (0 : Int) ≤ (j : Int) := Int.natCast_nonneg _
  have hj1 : (j : Int) < (T.length : Int) := by omega
  have hj2 : decide ((T.length : Int) ≤ (j : Int)) = false := decide_eq_false (by omega)
  have hj3 : decide (T.length ≤ j) = false := decide_eq_false (by omega)
  have hrun := fun w => neqSl g' g u true w
  rw [hn] at hrun
  clear hv hj hjl q hn
  go_enter Tryz.func28, Tryz.ntmps28
  go_wp2
  go_ret2
  exact ⟨rfl, rfl⟩
set_option maxRecDepth 1000000 in
set_option maxHeartbeats 8000000 in
theorem give_yes {w : World} {v : Value} {T : List So} {j : Nat} {g : Int} (id : Int) (hv : Sl slK w v T) (hid : 0 ≤ id) (hid2 : id ≤ 9223372036854775807) (hm : id % 64 = (j : Int)) (hd : id / 64 = g) (hj : T[j]? = some (g, true)) (hg : 0 ≤ g ∧ g ≤ 100000) (hl : T.length ≤ 64) :
    Calls Tryz.prog 28 #[v, .int .i64 id] w fun e w' => ∃ v', e = .returned (.tuple #[v', .bool true]) ∧ Own slK w' w.heap.size 126 v' (T.set j (g + 1, false)) ∧ Below w.heap.size w w' := by
  have HV := Lib.hid hv
  have HJ := Lib.hid hj
  have hjl := (List.getElem?_eq_some_iff.1 hj).1
  obtain ⟨ao, cap, rfl, hc1, hc2⟩ := hv.form
  obtain ⟨b, off, rfl, hbl, q⟩ := hv.at hj
  obtain ⟨c0, c1⟩ := at2 q
  simp only [slK_k] at c0 c1
  have hj0 : (0 : Int) ≤ (j : Int) := Int.natCast_nonneg _
  have hj1 : (j : Int) < (T.length : Int) := by omega
  have hj2 : decide ((T.length : Int) ≤ (j : Int)) = false := decide_eq_false (by omega)
  have hj3 : decide (T.length ≤ j) = false := decide_eq_false (by omega)
  have hg0 := hg.1
  have hg1 := hg.2
  have hrun := fun w => neqSl g g true true w
  rw [show (g == g && true == true) = true by simp] at hrun
  clear hv hj q hg
  go_enter Tryz.func28, Tryz.ntmps28
  go_wp2_with fail
  go_at_call 67
  refine (cloneT_any HV.out (by omega)).mono ?_
  rintro e w2 ⟨v', rfl, ho, hb⟩
  obtain ⟨a, cap', rfl, ha0, ha1, _, _⟩ := own_some ho (by omega)
  have HO := Lib.hid ho
  have HB := Lib.hid hb
  obtain ⟨d0, d1⟩ := at2 (ho.at HJ.out)
  have cf0 := ho.free (j * 2)
  have cf := ho.free (j * 2 + 1)
  simp only [slK_k] at d0 d1
  clear ho hb c0 c1
  go_wp2_with fail
  go_ret2
  exact ⟨_, rfl, own_put HO.out HJ.out (g + 1, false), (HB.out.setCell (p := ⟨a, j * 2, none⟩) ha0 _).setCell (p := ⟨a, j * 2 + 1, none⟩) ha0 _⟩
end Go.Proofs.YtlkljeedlkbkgaaGreatDoor.Tb
