/-
  YtlkljeedlkbkgaaGreatDoorClTold
-/
import Derived.Test.YtlkljeedlkbkgaaGreatDoorJoined17
import Derived.Test.YtlkljeedlkbkgaaGreatDoorJoined18
import Derived.Test.YtlkljeedlkbkgaaGreatDoorGFix
import Derived.Test.YtlkljeedlkbkgaaGreatDoorJoined22
import Derived.Deep.RegionWith
namespace Go.Proofs.YtlkljeedlkbkgaaGreatDoor.Cl
open Go.RowKit Gr Go.Proofs.YtlkljeedlkbkgaaGreatDoor.Fault
set_option linter.unusedVariables false
def O1 : List Ed := [⟨3, 1, 5⟩]
def O2 : List Ed := [⟨3, 1, 9⟩]
def D1 : List Batch.Ch := [⟨1, 5, -1⟩, ⟨1, 9, 1⟩]
def D2 : List Batch.Ch := [⟨1, 7, 1⟩]
theorem o1_wf : ∀ x ∈ O1, x.Wf := by
  intro x hx
  unfold O1 at hx
  simp at hx
  subst hx
  exact ⟨by decide, by decide, by decide, by decide, by decide, by decide⟩
theorem o1_rise : Rise O1 := by unfold Rise O1; simp
theorem o2_rise : Rise O2 := by unfold Rise O2; simp
theorem o1_has : hasB O1 3 = true := by kernel_rfl
theorem o1_idx : idx O1 3 = 0 := by kernel_rfl
theorem o2_has : hasB O2 4 = false := by kernel_rfl
theorem d2_pack : Batch.packE D2 = 0 ∧ Batch.packR D2 = D2 := ⟨by kernel_rfl, by kernel_rfl⟩
theorem o2_all : allL O2 [] = [⟨1, 9, 1⟩] := by kernel_rfl
theorem hold_nil : HoldP [] := ⟨⟨⟨by simp, by simp⟩, by simp⟩, by simp⟩
theorem e_ok : GOk 2 [] [0] :=
  ⟨by decide, by decide, by decide, fun e he => by simp at he, chkV_ok (by decide) (by decide) (by decide) (fun e he => by simp at he) (by simp) (by decide) (InOk.snoc (l := []) (fun j p hj => absurd hj (by simp)) ⟨Int.le_refl _, by omega⟩ (by simp)) (no_round (fun e he => by simp at he) (fun e he => by simp at he))⟩
theorem d2_up {M : Nat → Nat → Int} (hM : MU M 2) : upE [] (allL O2 []) M 2 ⟨1, 7, 1⟩ = 5 := by
  refine upE_lets (by decide) (by decide) ?_
  rw [o2_all]
  refine lets_no fun x hx => ?_
  simp at hx
  subst hx
  rw [letB_at (i := 1) (j := 1) rfl rfl (by decide)]
  have h := hM 1 1 (by decide) (by decide)
  unfold Stamp.U at h
  unfold Stamp.reachB Stamp.plusF
  rw [decide_eq_false_iff_not]
  intro e
  dsimp only at e
  split at e <;> omega
theorem mu_of {E : List Ed} {n : Nat} {M : Nat → Nat → Int} (h : LeastM E true n M) : MU M n := fun i j hi hj => (h i j hi hj).1.1
theorem txt5S : ((⟨(textL [(changeS, 0)] 5).toArray⟩ : ByteArray).toList == [99, 104, 97, 110, 103, 101, 32, 48, 58, 32, 117, 110, 106, 117, 115, 116, 105, 102, 105, 101, 100]) = true := by
  rw [Lib.toList_data]
  simp [textL, placesL, placeL, Lib.itoa, Lib.decDigits, wordS, wordL, changeS]
theorem txt7S : ((⟨(textL [(handleS, 4)] 7).toArray⟩ : ByteArray).toList == [104, 97, 110, 100, 108, 101, 32, 52, 58, 32, 115, 116, 97, 108, 101]) = true := by
  rw [Lib.toList_data]
  simp [textL, placesL, placeL, Lib.itoa, Lib.decDigits, wordS, wordL, handleS]
theorem txt5 : ∃ S : ByteArray, (S.toList == [99, 104, 97, 110, 103, 101, 32, 48, 58, 32, 117, 110, 106, 117, 115, 116, 105, 102, 105, 101, 100]) = true ∧ ∀ (w : World) (E : Value), LV w → Chain w E [(changeS, 0)] (errnoV 5) →
    Calls Tryz.prog 29 #[E] w fun e w' => e = .returned (.string S) ∧ Below w.heap.size w w' :=
  ⟨_, txt5S, fun w E hL hch => text_errno 5 hL hch (by decide) (by decide) (by decide) (by
    intro x hx
    simp at hx
    rcases hx with rfl
    exact ⟨by decide, by decide, by decide⟩)⟩
theorem txt7 : ∃ S : ByteArray, (S.toList == [104, 97, 110, 100, 108, 101, 32, 52, 58, 32, 115, 116, 97, 108, 101]) = true ∧ ∀ (w : World) (E : Value), LV w → Chain w E [(handleS, 4)] (errnoV 7) →
    Calls Tryz.prog 29 #[E] w fun e w' => e = .returned (.string S) ∧ Below w.heap.size w w' :=
  ⟨_, txt7S, fun w E hL hch => text_errno 7 hL hch (by decide) (by decide) (by decide) (by
    intro x hx
    simp at hx
    rcases hx with rfl
    exact ⟨by decide, by decide, by decide⟩)⟩
theorem hand_new (w : World) (T : TypeId) : Sl (w.alloc (.cells #[.int .i64 3, .int .i64 1, .int .u64 5] T)) (.slice (some ⟨w.heap.size, 0, none⟩) 1 1) O1 := by
  have h := heap_alloc_new w (.cells #[.int .i64 3, .int .i64 1, .int .u64 5] T)
  refine ⟨_, _, rfl, .inr ⟨w.heap.size, 0, rfl, fun i x hx => ?_⟩, Nat.le_refl _, by decide, o1_wf⟩
  cases i with
  | succ k => simp [O1] at hx
  | zero =>
    simp [O1] at hx
    subst hx
    obtain ⟨c0, c1, c2, _⟩ := trip_cells h
    exact ⟨c0, c1, c2⟩
def MatL (w : World) (v : Value) : Prop := ∃ base M, Mat w base v 2 M ∧ LeastM [] true 2 M
theorem MatL.below {w w' : World} {v : Value} (h : MatL w v) (hb : Below w.heap.size w w') : MatL w' v := by obtain ⟨b, M, h1, h2⟩ := h; exact ⟨b, M, h1.below hb, h2⟩
def SlD (w : World) (v : Value) : Prop := Batch.Sl w v D2
theorem SlD.below {w w' : World} {v : Value} (h : SlD w v) (hb : Below w.heap.size w w') : SlD w' v := Batch.Sl.below h hb
theorem sld_new (w : World) : SlD (w.alloc (.cells #[.int .i64 1, .int .u64 7, .int .i64 1] 72)) (.slice (some ⟨w.heap.size, 0, none⟩) 1 1) := ch_new w 1 7 1 72 ⟨by decide, by decide, by decide, by decide, by decide, by decide⟩
theorem told_up {W : World} {vh vb vp vl : Value} (ho : OwnAt W vh vb O2 []) (hM : MatL W vp) (hv : SlD W vl) :
    Calls Tryz.prog 20 #[.agg #[vh, vb], vp, vl] W fun e w' => ∃ ve, e = .returned (.tuple #[.agg #[vh, vb], .slice none 0 0, ve]) ∧ ErrIs w' ve ([(changeS, (0 : Int))], 5) ∧ Below W.heap.size W w' := by
  obtain ⟨b, M, hM, hle⟩ := hM
  exact update_bad (n0 := 0) (k := 5) (c0 := ⟨1, 7, 1⟩) (l := D2) ho (by decide) (by decide) hold_nil hv d2_pack.1 hM (mu_of hle) (by decide) (by rw [d2_pack.2]; rfl) (d2_up (mu_of hle)) (by decide) (fun j c hj => absurd hj (Nat.not_lt_zero _))
theorem told_paths {W : World} {vi : Value} (hi : RdI W vi [0]) : Calls Tryz.prog 13 #[.agg #[.int .i64 2, .slice none 0 0, vi]] W fun e w' => ∃ v, e = .returned v ∧ MatL w' v ∧ Below W.heap.size W w' :=
  (paths_any (n := 2) (Rd.nil W) hi e_ok).mono fun e w' ⟨v, M, he, hM, hle, hb⟩ => ⟨v, he, ⟨_, M, hM, hle⟩, hb⟩
theorem fresh_free : Tb.FreeP Tb.freshL 0 := .inr ⟨0, 0, rfl, rfl, by simp⟩
def T2 : List Tb.So := (Tb.freshL.set 0 (0, true)).set 0 (0 + 1, false)
theorem t2_free : Tb.FreeP T2 0 := .inr ⟨0, 1, rfl, rfl, by simp⟩
theorem fresh_wf : ∀ x ∈ Tb.freshL, Tb.slK.wf x := by
  intro x hx
  unfold Tb.freshL at hx
  obtain ⟨_, rfl⟩ := List.mem_replicate.1 hx
  exact ⟨by decide, by decide⟩
theorem set_wf {T : List Tb.So} {j : Nat} {y : Tb.So} (h : ∀ x ∈ T, Tb.slK.wf x) (hy : Tb.slK.wf y) : ∀ x ∈ T.set j y, Tb.slK.wf x := by
  intro x hx
  rcases List.mem_or_eq_of_mem_set hx with hx | rfl
  · exact h x hx
  · exact hy
set_option maxRecDepth 1000000 in
set_option maxHeartbeats 8000000 in
theorem cltold_any (w : World) (hL : LV w) : Calls Tryz.prog 8 #[] w fun e w' => e = .returned (.bool true) ∧ Below w.heap.size w w' := by
  have HL := Lib.hid hL
  clear hL
  go_enter Tryz.func8, Tryz.ntmps8
  go_wp2_with fail
  go_at_call 24
  obtain ⟨w1, hw1⟩ : ∃ w1, w1 = (w.alloc (.cells #[.int .i64 3, .int .i64 1, .int .u64 5] 40)).alloc (.cells #[.slice (some ⟨w.heap.size, 0, none⟩) 1 1, .slice none 0 0] 47) := ⟨_, rfl⟩
  rw [← hw1]
  have hb1 : Below w.heap.size w w1 := by rw [hw1]; exact ((Below.refl _ _).alloc (Nat.le_refl _) _).alloc (by simp) _
  have hh1 : OwnAt w1 (.slice (some ⟨w.heap.size, 0, none⟩) 1 1) (.slice none 0 0) O1 [] := by
    rw [hw1]; exact ⟨(hand_new w _).below ((Below.refl _ _).alloc (Nat.le_refl _) _), Batch.Sl.nil _⟩
  have HB1 := Lib.hid hb1
  have HH1 := Lib.hid hh1
  have HAD := Lib.hid (advance_ok (x := ⟨3, 1, 5⟩) 3 9 hh1 o1_rise (by decide) (by decide) o1_has (by rw [o1_idx]; rfl) (by decide) (by decide) (by decide) (by decide))
  clear hw1 hb1 hh1
  refine HAD.out.mono ?_
  rintro e w2 ⟨vh, vb, vd, rfl, hoh, hob, hod, hb⟩
  have ho2 : Own w2 w1.heap.size 40 vh O2 := by
    rw [show O1.set (idx O1 3) ⟨(⟨3, 1, 5⟩ : Ed).f, (⟨3, 1, 5⟩ : Ed).t, 9⟩ = O2 by kernel_rfl] at hoh
    exact hoh
  have hd2 : Batch.Own w2 w1.heap.size 72 vd D1 := by
    rw [show Batch.sumsR ([⟨(⟨3, 1, 5⟩ : Ed).t, 9, 1⟩] ++ [⟨(⟨3, 1, 5⟩ : Ed).t, (⟨3, 1, 5⟩ : Ed).a, -1⟩]) = D1 by kernel_rfl] at hod
    exact hod
  obtain ⟨ah, ch, rfl⟩ : ∃ ao cap, vh = .slice ao 1 cap := formH ho2
  obtain ⟨ab, cb, rfl⟩ : ∃ ao cap, vb = .slice ao 0 cap := formB hob
  obtain ⟨gd, cd, rfl, hgd1, hgd2, _⟩ := hd2.form.resolve_left (fun h => by simp [D1] at h)
  have HB2 := Lib.hid (HB1.out.trans (hb.mono HB1.out.size))
  have HO2 := Lib.hid (show OwnAt w2 (.slice ah 1 ch) (.slice ab 0 cb) O2 [] from ⟨ho2.sl (by intro x hx; simp [O2] at hx; subst hx; exact ⟨by decide, by decide, by decide, by decide, by decide, by decide⟩), hob.sl (by simp)⟩)
  have HD2 := Lib.hid hd2
  clear hoh hob hod ho2 hd2 hb
  obtain ⟨w3, hw3⟩ : ∃ w3, w3 = ((w2.alloc (.cells #[.slice ah 1 ch, .slice ab 0 cb] 47)).alloc (.cells #[.int .i64 0] 3)).alloc (.cells #[.int .i64 2, .slice none 0 0, .slice (some ⟨w2.heap.size + 1, 0, none⟩) 1 1] 56) := ⟨_, rfl⟩
  have hb23 : Below w2.heap.size w2 w3 := by rw [hw3]; exact (((Below.refl _ _).alloc (Nat.le_refl _) _).alloc (by simp) _).alloc (by simp; omega) _
  have hs3 : w3.heap.size = w2.heap.size + 1 + 1 + 1 := by rw [hw3]; simp
  have HN3 := Lib.hid (show w3.heap[w2.heap.size]? = some (.cells #[.slice ah 1 ch, .slice ab 0 cb] 47 (0, 0)) by
    rw [hw3, heap_alloc_old _ _ (by simp; omega), heap_alloc_old _ _ (by simp)]; exact heap_alloc_new w2 _)
  have HG3 := Lib.hid (show w3.heap[w2.heap.size + 1 + 1]? = some (.cells #[.int .i64 2, .slice none 0 0, .slice (some ⟨w2.heap.size + 1, 0, none⟩) 1 1] 56 (0, 0)) by
    rw [hw3]; have := heap_alloc_new ((w2.alloc (.cells #[.slice ah 1 ch, .slice ab 0 cb] 47)).alloc (.cells #[.int .i64 0] 3)) (.cells #[.int .i64 2, .slice none 0 0, .slice (some ⟨w2.heap.size + 1, 0, none⟩) 1 1] 56); simpa using this)
  have HI3 := Lib.hid (show RdI w3 (.slice (some ⟨w2.heap.size + 1, 0, none⟩) 1 1) [0] by
    have h1 := rdi_new (w := w2.alloc (.cells #[.slice ah 1 ch, .slice ab 0 cb] 47)) (T := 3)
    have h2 := h1.below ((Below.refl _ _).alloc (Nat.le_refl _) (.cells #[.int .i64 2, .slice none 0 0, .slice (some ⟨w2.heap.size + 1, 0, none⟩) 1 1] 56))
    rw [hw3]; simpa using h2)
  have HB3 := Lib.hid (HB2.out.trans (hb23.mono HB2.out.size))
  have HO3 := Lib.hid (HO2.out.below hb23)
  have HD3 := Lib.hid (HD2.out.below hb23)
  have hl0 : w2.heap.size < w3.heap.size := by omega
  have hl1 : w2.heap.size + 1 + 1 < w3.heap.size := by omega
  have hl2 : gd < w3.heap.size := by omega
  obtain ⟨n0, n1, _⟩ := pair_cells HN3.out
  obtain ⟨g0, g1, g2, _⟩ := trip_cells HG3.out
  clear hs3 hb23
  go_upto_region 4 with fail
  rw [← hw3]
  clear hw3
  have hbD : Below w3.heap.size w3 w3.drew := below_drewN (Below.refl w3.heap.size w3) 1
  have hbA0 : Below w3.heap.size w3 (w3.alloc (.cells #[.int .i64 1, .int .u64 7, .int .i64 1] 72)) := (Below.refl _ _).alloc (Nat.le_refl _) _
  have hbB0 : Below w3.heap.size w3 (w3.alloc (.cells #[.slice none 0 0, .slice none 0 0] 47)) := (Below.refl _ _).alloc (Nat.le_refl _) _
  have hbA : Below w3.heap.size w3 (w3.alloc (.cells #[.int .i64 1, .int .u64 7, .int .i64 1] 72)).drew := below_drewN hbA0 1
  have hbB : Below w3.heap.size w3 (w3.alloc (.cells #[.slice none 0 0, .slice none 0 0] 47)).drew := below_drewN hbB0 1
  have hbAB : Below w3.heap.size w3 ((w3.alloc (.cells #[.int .i64 1, .int .u64 7, .int .i64 1] 72)).alloc (.cells #[.slice none 0 0, .slice none 0 0] 47)).drew := below_drewN (hbA0.alloc hbA0.size _) 1
  have hbBA : Below w3.heap.size w3 ((w3.alloc (.cells #[.slice none 0 0, .slice none 0 0] 47)).alloc (.cells #[.int .i64 1, .int .u64 7, .int .i64 1] 72)).drew := below_drewN (hbB0.alloc hbB0.size _) 1
  have hsA0 : SlD (w3.alloc (.cells #[.int .i64 1, .int .u64 7, .int .i64 1] 72)) (.slice (some ⟨w3.heap.size, 0, none⟩) 1 1) := sld_new w3
  have hsA : SlD (w3.alloc (.cells #[.int .i64 1, .int .u64 7, .int .i64 1] 72)).drew (.slice (some ⟨w3.heap.size, 0, none⟩) 1 1) := hsA0.below (below_drewN (Below.refl _ _) 1)
  have hsAB : SlD ((w3.alloc (.cells #[.int .i64 1, .int .u64 7, .int .i64 1] 72)).alloc (.cells #[.slice none 0 0, .slice none 0 0] 47)).drew (.slice (some ⟨w3.heap.size, 0, none⟩) 1 1) := hsA0.below (below_drewN ((Below.refl _ _).alloc (Nat.le_refl _) _) 1)
  have hsBA0 : SlD ((w3.alloc (.cells #[.slice none 0 0, .slice none 0 0] 47)).alloc (.cells #[.int .i64 1, .int .u64 7, .int .i64 1] 72)) (.slice (some ⟨w3.heap.size + 1, 0, none⟩) 1 1) := by have := sld_new (w3.alloc (.cells #[.slice none 0 0, .slice none 0 0] 47)); simpa using this
  have hsBA : SlD ((w3.alloc (.cells #[.slice none 0 0, .slice none 0 0] 47)).alloc (.cells #[.int .i64 1, .int .u64 7, .int .i64 1] 72)).drew (.slice (some ⟨w3.heap.size + 1, 0, none⟩) 1 1) := hsBA0.below (below_drewN (Below.refl _ _) 1)
  have hkB : ((w3.alloc (.cells #[.slice none 0 0, .slice none 0 0] 47)).drew).heap[w3.heap.size]? = some (.cells #[.slice none 0 0, .slice none 0 0] 47 (0, 0)) := heap_alloc_new w3 _
  have hkBA : (((w3.alloc (.cells #[.slice none 0 0, .slice none 0 0] 47)).alloc (.cells #[.int .i64 1, .int .u64 7, .int .i64 1] 72)).drew).heap[w3.heap.size]? = some (.cells #[.slice none 0 0, .slice none 0 0] 47 (0, 0)) := (heap_alloc_old (w3.alloc (.cells #[.slice none 0 0, .slice none 0 0] 47)) (.cells #[.int .i64 1, .int .u64 7, .int .i64 1] 72) (by simp)).trans (heap_alloc_new w3 _)
  have hkAB : (((w3.alloc (.cells #[.int .i64 1, .int .u64 7, .int .i64 1] 72)).alloc (.cells #[.slice none 0 0, .slice none 0 0] 47)).drew).heap[w3.heap.size + 1]? = some (.cells #[.slice none 0 0, .slice none 0 0] 47 (0, 0)) := show ((w3.alloc (.cells #[.int .i64 1, .int .u64 7, .int .i64 1] 72)).alloc (.cells #[.slice none 0 0, .slice none 0 0] 47)).heap[w3.heap.size + 1]? = some (.cells #[.slice none 0 0, .slice none 0 0] 47 (0, 0)) from (by have := heap_alloc_new (w3.alloc (.cells #[.int .i64 1, .int .u64 7, .int .i64 1] 72)) (.cells #[.slice none 0 0, .slice none 0 0] 47); simpa using this)
  have hne1 : ¬ w3.heap.size = w2.heap.size := (by omega)
  have hne2 : ¬ w2.heap.size = w3.heap.size := (by omega)
  have hne3 : ¬ w3.heap.size = w2.heap.size + 1 + 1 := (by omega)
  have hne4 : ¬ w2.heap.size + 1 + 1 = w3.heap.size := (by omega)
  have hne5 : ¬ w3.heap.size + 1 = w2.heap.size := (by omega)
  have hne6 : ¬ w2.heap.size = w3.heap.size + 1 := (by omega)
  have hne7 : ¬ w3.heap.size + 1 = w2.heap.size + 1 + 1 := (by omega)
  have hne8 : ¬ w2.heap.size + 1 + 1 = w3.heap.size + 1 := (by omega)
  have hne9 : ¬ w3.heap.size = w2.heap.size + 1 := (by omega)
  have hne10 : ¬ w2.heap.size + 1 = w3.heap.size := (by omega)
  have HB_D := Lib.hid hbD
  have HI_D := Lib.hid (HI3.out.below hbD)
  have HB_A := Lib.hid hbA
  have HI_A := Lib.hid (HI3.out.below hbA)
  have HB_B := Lib.hid hbB
  have HI_B := Lib.hid (HI3.out.below hbB)
  have HB_AB := Lib.hid hbAB
  have HI_AB := Lib.hid (HI3.out.below hbAB)
  have HB_BA := Lib.hid hbBA
  have HI_BA := Lib.hid (HI3.out.below hbBA)
  have HS_A := Lib.hid hsA
  have HS_AB := Lib.hid hsAB
  have HS_BA := Lib.hid hsBA
  have HK_B := Lib.hid hkB
  have HK_AB := Lib.hid hkAB
  have HK_BA := Lib.hid hkBA
  clear hbD hbA hbB hbAB hbBA hsA hsAB hsBA hkB hkBA hkAB hbA0 hbB0 hsA0 hsBA0
  go_cut [6, 7, 8] (fun s6 s7 s8 wx => ErrIs wx s8 ([(changeS, (0 : Int))], 5) ∧ Below w3.heap.size w3 wx)
  case first =>
    go_region_held3 (fun w' => w'.cell? ⟨w2.heap.size, 0, none⟩ = some (.slice ah 1 ch) ∧ w'.cell? ⟨w2.heap.size, 1, none⟩ = some (.slice ab 0 cb) ∧ w'.cell? ⟨w2.heap.size + 1 + 1, 0, none⟩ = some (.int .i64 2) ∧ w'.cell? ⟨w2.heap.size + 1 + 1, 1, none⟩ = some (.slice none 0 0) ∧ w'.cell? ⟨w2.heap.size + 1 + 1, 2, none⟩ = some (.slice (some ⟨w2.heap.size + 1, 0, none⟩) 1 1))
      (first
        | go_keep
        | (go_split_ands
           first
             | exact ⟨m0, m1, q0, q1, q2⟩
             | (refine ⟨?_, ?_, ?_, ?_, ?_⟩ <;> (rw [hcb.cell (by simp; omega)]; assumption))))
      (first
        | (go_at_call 13; first
          | ((with_reducible refine (told_paths HI_D.out).mono ?_); rintro e w4 ⟨vp, rfl, hM, hcb⟩; have hb34 : Below w3.heap.size w3 w4 := HB_D.out.trans (hcb.mono HB_D.out.size); have HM4 := Lib.hid hM; have HB34 := Lib.hid hb34; have HO4 := Lib.hid (HO3.out.below hb34); have ba : Below w4.heap.size w4 (w4.alloc (.cells #[.int .i64 1, .int .u64 7, .int .i64 1] 72)) := (Below.refl _ _).alloc (Nat.le_refl _) _; have bb : Below w4.heap.size w4 (w4.alloc (.cells #[.slice none 0 0, .slice none 0 0] 47)) := (Below.refl _ _).alloc (Nat.le_refl _) _; have bab : Below w4.heap.size w4 ((w4.alloc (.cells #[.int .i64 1, .int .u64 7, .int .i64 1] 72)).alloc (.cells #[.slice none 0 0, .slice none 0 0] 47)) := ba.alloc ba.size _; have bba : Below w4.heap.size w4 ((w4.alloc (.cells #[.slice none 0 0, .slice none 0 0] 47)).alloc (.cells #[.int .i64 1, .int .u64 7, .int .i64 1] 72)) := bb.alloc bb.size _; have HBa := Lib.hid ba; have HBb := Lib.hid bb; have HBab := Lib.hid bab; have HBba := Lib.hid bba; clear hM hb34 ba bb bab bba)
          | ((with_reducible refine (told_paths HI_A.out).mono ?_); rintro e w4 ⟨vp, rfl, hM, hcb⟩; have hb34 : Below w3.heap.size w3 w4 := HB_A.out.trans (hcb.mono HB_A.out.size); have HS4 := Lib.hid (HS_A.out.below hcb); have HM4 := Lib.hid hM; have HB34 := Lib.hid hb34; have HO4 := Lib.hid (HO3.out.below hb34); have ba : Below w4.heap.size w4 (w4.alloc (.cells #[.int .i64 1, .int .u64 7, .int .i64 1] 72)) := (Below.refl _ _).alloc (Nat.le_refl _) _; have bb : Below w4.heap.size w4 (w4.alloc (.cells #[.slice none 0 0, .slice none 0 0] 47)) := (Below.refl _ _).alloc (Nat.le_refl _) _; have bab : Below w4.heap.size w4 ((w4.alloc (.cells #[.int .i64 1, .int .u64 7, .int .i64 1] 72)).alloc (.cells #[.slice none 0 0, .slice none 0 0] 47)) := ba.alloc ba.size _; have bba : Below w4.heap.size w4 ((w4.alloc (.cells #[.slice none 0 0, .slice none 0 0] 47)).alloc (.cells #[.int .i64 1, .int .u64 7, .int .i64 1] 72)) := bb.alloc bb.size _; have HBa := Lib.hid ba; have HBb := Lib.hid bb; have HBab := Lib.hid bab; have HBba := Lib.hid bba; clear hM hb34 ba bb bab bba)
          | ((with_reducible refine (told_paths HI_B.out).mono ?_); rintro e w4 ⟨vp, rfl, hM, hcb⟩; have hb34 : Below w3.heap.size w3 w4 := HB_B.out.trans (hcb.mono HB_B.out.size); have HK4 := Lib.hid ((hcb.block _ (Array.getElem?_eq_some_iff.1 HK_B.out).1).trans HK_B.out); have HM4 := Lib.hid hM; have HB34 := Lib.hid hb34; have HO4 := Lib.hid (HO3.out.below hb34); have ba : Below w4.heap.size w4 (w4.alloc (.cells #[.int .i64 1, .int .u64 7, .int .i64 1] 72)) := (Below.refl _ _).alloc (Nat.le_refl _) _; have bb : Below w4.heap.size w4 (w4.alloc (.cells #[.slice none 0 0, .slice none 0 0] 47)) := (Below.refl _ _).alloc (Nat.le_refl _) _; have bab : Below w4.heap.size w4 ((w4.alloc (.cells #[.int .i64 1, .int .u64 7, .int .i64 1] 72)).alloc (.cells #[.slice none 0 0, .slice none 0 0] 47)) := ba.alloc ba.size _; have bba : Below w4.heap.size w4 ((w4.alloc (.cells #[.slice none 0 0, .slice none 0 0] 47)).alloc (.cells #[.int .i64 1, .int .u64 7, .int .i64 1] 72)) := bb.alloc bb.size _; have HBa := Lib.hid ba; have HBb := Lib.hid bb; have HBab := Lib.hid bab; have HBba := Lib.hid bba; clear hM hb34 ba bb bab bba)
          | ((with_reducible refine (told_paths HI_AB.out).mono ?_); rintro e w4 ⟨vp, rfl, hM, hcb⟩; have hb34 : Below w3.heap.size w3 w4 := HB_AB.out.trans (hcb.mono HB_AB.out.size); have HS4 := Lib.hid (HS_AB.out.below hcb); have HK4 := Lib.hid ((hcb.block _ (Array.getElem?_eq_some_iff.1 HK_AB.out).1).trans HK_AB.out); have HM4 := Lib.hid hM; have HB34 := Lib.hid hb34; have HO4 := Lib.hid (HO3.out.below hb34); have ba : Below w4.heap.size w4 (w4.alloc (.cells #[.int .i64 1, .int .u64 7, .int .i64 1] 72)) := (Below.refl _ _).alloc (Nat.le_refl _) _; have bb : Below w4.heap.size w4 (w4.alloc (.cells #[.slice none 0 0, .slice none 0 0] 47)) := (Below.refl _ _).alloc (Nat.le_refl _) _; have bab : Below w4.heap.size w4 ((w4.alloc (.cells #[.int .i64 1, .int .u64 7, .int .i64 1] 72)).alloc (.cells #[.slice none 0 0, .slice none 0 0] 47)) := ba.alloc ba.size _; have bba : Below w4.heap.size w4 ((w4.alloc (.cells #[.slice none 0 0, .slice none 0 0] 47)).alloc (.cells #[.int .i64 1, .int .u64 7, .int .i64 1] 72)) := bb.alloc bb.size _; have HBa := Lib.hid ba; have HBb := Lib.hid bb; have HBab := Lib.hid bab; have HBba := Lib.hid bba; clear hM hb34 ba bb bab bba)
          | ((with_reducible refine (told_paths HI_BA.out).mono ?_); rintro e w4 ⟨vp, rfl, hM, hcb⟩; have hb34 : Below w3.heap.size w3 w4 := HB_BA.out.trans (hcb.mono HB_BA.out.size); have HS4 := Lib.hid (HS_BA.out.below hcb); have HK4 := Lib.hid ((hcb.block _ (Array.getElem?_eq_some_iff.1 HK_BA.out).1).trans HK_BA.out); have HM4 := Lib.hid hM; have HB34 := Lib.hid hb34; have HO4 := Lib.hid (HO3.out.below hb34); have ba : Below w4.heap.size w4 (w4.alloc (.cells #[.int .i64 1, .int .u64 7, .int .i64 1] 72)) := (Below.refl _ _).alloc (Nat.le_refl _) _; have bb : Below w4.heap.size w4 (w4.alloc (.cells #[.slice none 0 0, .slice none 0 0] 47)) := (Below.refl _ _).alloc (Nat.le_refl _) _; have bab : Below w4.heap.size w4 ((w4.alloc (.cells #[.int .i64 1, .int .u64 7, .int .i64 1] 72)).alloc (.cells #[.slice none 0 0, .slice none 0 0] 47)) := ba.alloc ba.size _; have bba : Below w4.heap.size w4 ((w4.alloc (.cells #[.slice none 0 0, .slice none 0 0] 47)).alloc (.cells #[.int .i64 1, .int .u64 7, .int .i64 1] 72)) := bb.alloc bb.size _; have HBa := Lib.hid ba; have HBb := Lib.hid bb; have HBab := Lib.hid bab; have HBba := Lib.hid bba; clear hM hb34 ba bb bab bba))
        | (go_at_call 20; first
          | ((have hoX := HO4.out); (have hmX := HM4.out); (have hsX := HS4.out); (with_reducible refine (told_up hoX hmX hsX).mono ?_); clear hoX hmX hsX; rintro e w5 ⟨ve, rfl, hve, hcb2⟩; have hb35 : Below w3.heap.size w3 w5 := HB34.out.trans (((Below.refl w4.heap.size w4).trans (hcb2.mono (Below.refl w4.heap.size w4).size)).mono HB34.out.size); have HVE := Lib.hid hve; have HB35 := Lib.hid hb35; obtain ⟨m0, m1, _⟩ := pair_cells ((hb35.block _ hl0).trans HN3.out); obtain ⟨q0, q1, q2, _⟩ := trip_cells ((hb35.block _ hl1).trans HG3.out); obtain ⟨s0, s1, sf⟩ := pair_cells ((hcb2.block _ (Array.getElem?_eq_some_iff.1 (HK4.out)).1).trans (HK4.out)); have sf0 := sf 0; have sf1 := sf 1; clear sf; have hz34 := HB34.out.size; have hne11 : ¬ w4.heap.size = w2.heap.size := (by omega); have hne12 : ¬ w2.heap.size = w4.heap.size := (by omega); have hne13 : ¬ w4.heap.size = w2.heap.size + 1 + 1 := (by omega); have hne14 : ¬ w2.heap.size + 1 + 1 = w4.heap.size := (by omega); have hne15 : ¬ w4.heap.size + 1 = w2.heap.size := (by omega); have hne16 : ¬ w2.heap.size = w4.heap.size + 1 := (by omega); have hne17 : ¬ w4.heap.size + 1 = w2.heap.size + 1 + 1 := (by omega); have hne18 : ¬ w2.heap.size + 1 + 1 = w4.heap.size + 1 := (by omega); have hne19 : ¬ w4.heap.size = w2.heap.size + 1 := (by omega); have hne20 : ¬ w2.heap.size + 1 = w4.heap.size := (by omega); clear hve hb35)
          | ((have hoX := HO4.out); (have hmX := HM4.out); (have hsX := HS4.out); (with_reducible refine (told_up hoX hmX hsX).mono ?_); clear hoX hmX hsX; rintro e w5 ⟨ve, rfl, hve, hcb2⟩; have hb35 : Below w3.heap.size w3 w5 := HB34.out.trans (((Below.refl w4.heap.size w4).trans (hcb2.mono (Below.refl w4.heap.size w4).size)).mono HB34.out.size); have HVE := Lib.hid hve; have HB35 := Lib.hid hb35; obtain ⟨m0, m1, _⟩ := pair_cells ((hb35.block _ hl0).trans HN3.out); obtain ⟨q0, q1, q2, _⟩ := trip_cells ((hb35.block _ hl1).trans HG3.out); have hz34 := HB34.out.size; have hne21 : ¬ w4.heap.size = w2.heap.size := (by omega); have hne22 : ¬ w2.heap.size = w4.heap.size := (by omega); have hne23 : ¬ w4.heap.size = w2.heap.size + 1 + 1 := (by omega); have hne24 : ¬ w2.heap.size + 1 + 1 = w4.heap.size := (by omega); have hne25 : ¬ w4.heap.size + 1 = w2.heap.size := (by omega); have hne26 : ¬ w2.heap.size = w4.heap.size + 1 := (by omega); have hne27 : ¬ w4.heap.size + 1 = w2.heap.size + 1 + 1 := (by omega); have hne28 : ¬ w2.heap.size + 1 + 1 = w4.heap.size + 1 := (by omega); have hne29 : ¬ w4.heap.size = w2.heap.size + 1 := (by omega); have hne30 : ¬ w2.heap.size + 1 = w4.heap.size := (by omega); clear hve hb35)
          | ((have hoX := (HO4.out.below HBa.out)); (have hmX := (HM4.out.below HBa.out)); (have hsX := (sld_new w4)); (with_reducible refine (told_up hoX hmX hsX).mono ?_); clear hoX hmX hsX; rintro e w5 ⟨ve, rfl, hve, hcb2⟩; have hb35 : Below w3.heap.size w3 w5 := HB34.out.trans ((HBa.out.trans (hcb2.mono HBa.out.size)).mono HB34.out.size); have HVE := Lib.hid hve; have HB35 := Lib.hid hb35; obtain ⟨m0, m1, _⟩ := pair_cells ((hb35.block _ hl0).trans HN3.out); obtain ⟨q0, q1, q2, _⟩ := trip_cells ((hb35.block _ hl1).trans HG3.out); obtain ⟨s0, s1, sf⟩ := pair_cells ((hcb2.block _ (Array.getElem?_eq_some_iff.1 (((HBa.out.block _ (Array.getElem?_eq_some_iff.1 HK4.out).1).trans HK4.out))).1).trans (((HBa.out.block _ (Array.getElem?_eq_some_iff.1 HK4.out).1).trans HK4.out))); have sf0 := sf 0; have sf1 := sf 1; clear sf; have hz34 := HB34.out.size; have hne31 : ¬ w4.heap.size = w2.heap.size := (by omega); have hne32 : ¬ w2.heap.size = w4.heap.size := (by omega); have hne33 : ¬ w4.heap.size = w2.heap.size + 1 + 1 := (by omega); have hne34 : ¬ w2.heap.size + 1 + 1 = w4.heap.size := (by omega); have hne35 : ¬ w4.heap.size + 1 = w2.heap.size := (by omega); have hne36 : ¬ w2.heap.size = w4.heap.size + 1 := (by omega); have hne37 : ¬ w4.heap.size + 1 = w2.heap.size + 1 + 1 := (by omega); have hne38 : ¬ w2.heap.size + 1 + 1 = w4.heap.size + 1 := (by omega); have hne39 : ¬ w4.heap.size = w2.heap.size + 1 := (by omega); have hne40 : ¬ w2.heap.size + 1 = w4.heap.size := (by omega); clear hve hb35)
          | ((have hoX := (HO4.out.below HBa.out)); (have hmX := (HM4.out.below HBa.out)); (have hsX := (sld_new w4)); (with_reducible refine (told_up hoX hmX hsX).mono ?_); clear hoX hmX hsX; rintro e w5 ⟨ve, rfl, hve, hcb2⟩; have hb35 : Below w3.heap.size w3 w5 := HB34.out.trans ((HBa.out.trans (hcb2.mono HBa.out.size)).mono HB34.out.size); have HVE := Lib.hid hve; have HB35 := Lib.hid hb35; obtain ⟨m0, m1, _⟩ := pair_cells ((hb35.block _ hl0).trans HN3.out); obtain ⟨q0, q1, q2, _⟩ := trip_cells ((hb35.block _ hl1).trans HG3.out); have hz34 := HB34.out.size; have hne41 : ¬ w4.heap.size = w2.heap.size := (by omega); have hne42 : ¬ w2.heap.size = w4.heap.size := (by omega); have hne43 : ¬ w4.heap.size = w2.heap.size + 1 + 1 := (by omega); have hne44 : ¬ w2.heap.size + 1 + 1 = w4.heap.size := (by omega); have hne45 : ¬ w4.heap.size + 1 = w2.heap.size := (by omega); have hne46 : ¬ w2.heap.size = w4.heap.size + 1 := (by omega); have hne47 : ¬ w4.heap.size + 1 = w2.heap.size + 1 + 1 := (by omega); have hne48 : ¬ w2.heap.size + 1 + 1 = w4.heap.size + 1 := (by omega); have hne49 : ¬ w4.heap.size = w2.heap.size + 1 := (by omega); have hne50 : ¬ w2.heap.size + 1 = w4.heap.size := (by omega); clear hve hb35)
          | ((have hoX := (HO4.out.below HBb.out)); (have hmX := (HM4.out.below HBb.out)); (have hsX := (HS4.out.below HBb.out)); (with_reducible refine (told_up hoX hmX hsX).mono ?_); clear hoX hmX hsX; rintro e w5 ⟨ve, rfl, hve, hcb2⟩; have hb35 : Below w3.heap.size w3 w5 := HB34.out.trans ((HBb.out.trans (hcb2.mono HBb.out.size)).mono HB34.out.size); have HVE := Lib.hid hve; have HB35 := Lib.hid hb35; obtain ⟨m0, m1, _⟩ := pair_cells ((hb35.block _ hl0).trans HN3.out); obtain ⟨q0, q1, q2, _⟩ := trip_cells ((hb35.block _ hl1).trans HG3.out); obtain ⟨s0, s1, sf⟩ := pair_cells ((hcb2.block _ (Array.getElem?_eq_some_iff.1 (heap_alloc_new w4 (.cells #[.slice none 0 0, .slice none 0 0] 47))).1).trans (heap_alloc_new w4 (.cells #[.slice none 0 0, .slice none 0 0] 47))); have sf0 := sf 0; have sf1 := sf 1; clear sf; have hz34 := HB34.out.size; have hne51 : ¬ w4.heap.size = w2.heap.size := (by omega); have hne52 : ¬ w2.heap.size = w4.heap.size := (by omega); have hne53 : ¬ w4.heap.size = w2.heap.size + 1 + 1 := (by omega); have hne54 : ¬ w2.heap.size + 1 + 1 = w4.heap.size := (by omega); have hne55 : ¬ w4.heap.size + 1 = w2.heap.size := (by omega); have hne56 : ¬ w2.heap.size = w4.heap.size + 1 := (by omega); have hne57 : ¬ w4.heap.size + 1 = w2.heap.size + 1 + 1 := (by omega); have hne58 : ¬ w2.heap.size + 1 + 1 = w4.heap.size + 1 := (by omega); have hne59 : ¬ w4.heap.size = w2.heap.size + 1 := (by omega); have hne60 : ¬ w2.heap.size + 1 = w4.heap.size := (by omega); clear hve hb35)
          | ((have hoX := (HO4.out.below HBab.out)); (have hmX := (HM4.out.below HBab.out)); (have hsX := ((sld_new w4).below ((Below.refl _ _).alloc (Nat.le_refl _) (.cells #[.slice none 0 0, .slice none 0 0] 47)))); (with_reducible refine (told_up hoX hmX hsX).mono ?_); clear hoX hmX hsX; rintro e w5 ⟨ve, rfl, hve, hcb2⟩; have hb35 : Below w3.heap.size w3 w5 := HB34.out.trans ((HBab.out.trans (hcb2.mono HBab.out.size)).mono HB34.out.size); have HVE := Lib.hid hve; have HB35 := Lib.hid hb35; obtain ⟨m0, m1, _⟩ := pair_cells ((hb35.block _ hl0).trans HN3.out); obtain ⟨q0, q1, q2, _⟩ := trip_cells ((hb35.block _ hl1).trans HG3.out); obtain ⟨s0, s1, sf⟩ := pair_cells ((hcb2.block _ (Array.getElem?_eq_some_iff.1 (show ((w4.alloc (.cells #[.int .i64 1, .int .u64 7, .int .i64 1] 72)).alloc (.cells #[.slice none 0 0, .slice none 0 0] 47)).heap[w4.heap.size + 1]? = some (.cells #[.slice none 0 0, .slice none 0 0] 47 (0, 0)) from (by have := heap_alloc_new (w4.alloc (.cells #[.int .i64 1, .int .u64 7, .int .i64 1] 72)) (.cells #[.slice none 0 0, .slice none 0 0] 47); simpa using this))).1).trans (show ((w4.alloc (.cells #[.int .i64 1, .int .u64 7, .int .i64 1] 72)).alloc (.cells #[.slice none 0 0, .slice none 0 0] 47)).heap[w4.heap.size + 1]? = some (.cells #[.slice none 0 0, .slice none 0 0] 47 (0, 0)) from (by have := heap_alloc_new (w4.alloc (.cells #[.int .i64 1, .int .u64 7, .int .i64 1] 72)) (.cells #[.slice none 0 0, .slice none 0 0] 47); simpa using this))); have sf0 := sf 0; have sf1 := sf 1; clear sf; have hz34 := HB34.out.size; have hne61 : ¬ w4.heap.size = w2.heap.size := (by omega); have hne62 : ¬ w2.heap.size = w4.heap.size := (by omega); have hne63 : ¬ w4.heap.size = w2.heap.size + 1 + 1 := (by omega); have hne64 : ¬ w2.heap.size + 1 + 1 = w4.heap.size := (by omega); have hne65 : ¬ w4.heap.size + 1 = w2.heap.size := (by omega); have hne66 : ¬ w2.heap.size = w4.heap.size + 1 := (by omega); have hne67 : ¬ w4.heap.size + 1 = w2.heap.size + 1 + 1 := (by omega); have hne68 : ¬ w2.heap.size + 1 + 1 = w4.heap.size + 1 := (by omega); have hne69 : ¬ w4.heap.size = w2.heap.size + 1 := (by omega); have hne70 : ¬ w2.heap.size + 1 = w4.heap.size := (by omega); clear hve hb35)
          | ((have hoX := (HO4.out.below HBba.out)); (have hmX := (HM4.out.below HBba.out)); (have hsX := (show SlD ((w4.alloc (.cells #[.slice none 0 0, .slice none 0 0] 47)).alloc (.cells #[.int .i64 1, .int .u64 7, .int .i64 1] 72)) (.slice (some ⟨w4.heap.size + 1, 0, none⟩) 1 1) from (by have := sld_new (w4.alloc (.cells #[.slice none 0 0, .slice none 0 0] 47)); simpa using this))); (with_reducible refine (told_up hoX hmX hsX).mono ?_); clear hoX hmX hsX; rintro e w5 ⟨ve, rfl, hve, hcb2⟩; have hb35 : Below w3.heap.size w3 w5 := HB34.out.trans ((HBba.out.trans (hcb2.mono HBba.out.size)).mono HB34.out.size); have HVE := Lib.hid hve; have HB35 := Lib.hid hb35; obtain ⟨m0, m1, _⟩ := pair_cells ((hb35.block _ hl0).trans HN3.out); obtain ⟨q0, q1, q2, _⟩ := trip_cells ((hb35.block _ hl1).trans HG3.out); obtain ⟨s0, s1, sf⟩ := pair_cells ((hcb2.block _ (Array.getElem?_eq_some_iff.1 (show ((w4.alloc (.cells #[.slice none 0 0, .slice none 0 0] 47)).alloc (.cells #[.int .i64 1, .int .u64 7, .int .i64 1] 72)).heap[w4.heap.size]? = some (.cells #[.slice none 0 0, .slice none 0 0] 47 (0, 0)) from (by rw [heap_alloc_old _ _ (by simp)]; exact heap_alloc_new w4 _))).1).trans (show ((w4.alloc (.cells #[.slice none 0 0, .slice none 0 0] 47)).alloc (.cells #[.int .i64 1, .int .u64 7, .int .i64 1] 72)).heap[w4.heap.size]? = some (.cells #[.slice none 0 0, .slice none 0 0] 47 (0, 0)) from (by rw [heap_alloc_old _ _ (by simp)]; exact heap_alloc_new w4 _))); have sf0 := sf 0; have sf1 := sf 1; clear sf; have hz34 := HB34.out.size; have hne71 : ¬ w4.heap.size = w2.heap.size := (by omega); have hne72 : ¬ w2.heap.size = w4.heap.size := (by omega); have hne73 : ¬ w4.heap.size = w2.heap.size + 1 + 1 := (by omega); have hne74 : ¬ w2.heap.size + 1 + 1 = w4.heap.size := (by omega); have hne75 : ¬ w4.heap.size + 1 = w2.heap.size := (by omega); have hne76 : ¬ w2.heap.size = w4.heap.size + 1 := (by omega); have hne77 : ¬ w4.heap.size + 1 = w2.heap.size + 1 + 1 := (by omega); have hne78 : ¬ w2.heap.size + 1 + 1 = w4.heap.size + 1 := (by omega); have hne79 : ¬ w4.heap.size = w2.heap.size + 1 := (by omega); have hne80 : ¬ w2.heap.size + 1 = w4.heap.size := (by omega); clear hve hb35)))
    all_goals
      go_wp2_with fail
      go_meet
      first
        | exact ⟨err_set HVE.out s0 _ _, (HB35.out.setCell (p := ⟨_, 0, none⟩) (by have := HB34.out.size; simp; try omega) _).setCell (p := ⟨_, 1, none⟩) (by have := HB34.out.size; simp; try omega) _⟩
        | exact ⟨HVE.out.below ((Below.refl _ _).alloc (Nat.le_refl _) _), HB35.out.alloc HB35.out.size _⟩
  case rest =>
    obtain ⟨hve, hbx⟩ := hcut
    have HVE := Lib.hid hve
    have HBX := Lib.hid hbx
    have HCL := Lib.hid (close_stale (w := wc) 4 (HO3.out.below hbx) o2_rise (by decide) o2_has)
    obtain ⟨m0, m1, _⟩ := pair_cells ((hbx.block _ hl0).trans HN3.out)
    clear hve hbx
    go_wp2_with fail
    go_at_call 25
    refine HCL.out.mono ?_
    rintro e w7 ⟨ve2, rfl, hve2, hb7⟩
    have HV1 := Lib.hid (HVE.out.below hb7)
    have HV2 := Lib.hid hve2
    have HB7 := Lib.hid (HBX.out.trans (hb7.mono HBX.out.size))
    clear hve2 hb7 m0 m1
    go_wp2_with fail
    go_at_call 27
    refine (Tb.fresh_any _).mono ?_
    rintro e w8 ⟨vt, rfl, hot, hb8⟩
    have hb78 : Below w7.heap.size w7 w8 := ((Below.refl _ _).alloc (Nat.le_refl _) _).trans (hb8.mono (by simp))
    have HB78 := Lib.hid hb78
    have HTK := Lib.hid (Tb.take_yes (j := 0) (g := 0) (hot.sl fresh_wf) fresh_free rfl (by decide) (by decide))
    clear hot hb8 hb78
    go_wp2_with fail
    go_at_call 26
    refine HTK.out.mono ?_
    rintro e w9 ⟨vt2, rfl, hot, hb9⟩
    have HB79 := Lib.hid (HB78.out.trans (hb9.mono HB78.out.size))
    have hw9 := set_wf (j := 0) (y := ((0 : Int), true)) fresh_wf ⟨by decide, by decide⟩
    have HGV := Lib.hid (Tb.give_yes (j := 0) (g := 0) 0 (hot.sl hw9) (by decide) (by decide) (by decide) (by decide) rfl (by decide) (by decide))
    have HW9 := Lib.hid hw9
    clear hot hb9 hw9
    go_wp2_with fail
    go_at_call 28
    refine HGV.out.mono ?_
    rintro e wA ⟨vt3, rfl, hot, hbA⟩
    have HB7A := Lib.hid (HB79.out.trans (hbA.mono HB79.out.size))
    have hwA := set_wf (j := 0) (y := ((0 : Int) + 1, false)) HW9.out ⟨by decide, by decide⟩
    have HTK2 := Lib.hid (Tb.take_yes (T := T2) (j := 0) (g := 1) (hot.sl hwA) t2_free rfl (by decide) (by decide))
    clear hot hbA hwA
    go_wp2_with fail
    go_at_call 26
    refine HTK2.out.mono ?_
    rintro e wB ⟨vt4, rfl, hot, hbB⟩
    have hb7B : Below w7.heap.size w7 wB := HB7A.out.trans (hbB.mono HB7A.out.size)
    have hb3B : Below w3.heap.size w3 wB := HB7.out.trans (hb7B.mono HB7.out.size)
    have HBB := Lib.hid (HB3.out.trans (hb3B.mono HB3.out.size))
    have HV1B := Lib.hid (HV1.out.below hb7B)
    have HV2B := Lib.hid (HV2.out.below hb7B)
    have hdB := HD3.out.below hb3B
    obtain ⟨d00, d01, d02⟩ := hdB.at (i := 0) (x := ⟨1, 5, -1⟩) rfl
    obtain ⟨d10, d11, d12⟩ := hdB.at (i := 1) (x := ⟨1, 9, 1⟩) rfl
    simp only [Nat.zero_mul, Nat.zero_add, Nat.one_mul] at d02 d11
    rcases HV1B.out with ⟨h, _⟩ | ⟨_, hch1, u1, x1, rfl⟩
    · exact absurd h (by decide)
    rcases HV2B.out with ⟨h, _⟩ | ⟨_, hch2, u2, x2, rfl⟩
    · exact absurd h (by decide)
    have HC1 := Lib.hid hch1
    have HC2 := Lib.hid hch2
    obtain ⟨S5, hS5, hT5⟩ := txt5
    obtain ⟨S7, hS7, hT7⟩ := txt7
    have HT5 := Lib.hid (hT5 wB _ (HL.out.below HBB.out) hch1)
    have HT7 := Lib.hid (fun W (h : Below wB.heap.size wB W) => hT7 W (.iface u2 x2) (HL.out.below (HBB.out.trans (h.mono HBB.out.size))) (hch2.below h))
    clear hot hbB hb7B hb3B hdB hch1 hch2 d00 d01 d10 d12 hT5 hT7
    go_wp2_with fail
    go_at_call 29
    refine HT5.out.mono ?_
    rintro e wC ⟨rfl, hbC⟩
    have HT7C := Lib.hid (HT7.out _ hbC)
    have HBC := Lib.hid (HBB.out.trans (hbC.mono HBB.out.size))
    clear hbC d02 d11
    go_wp2_with fail
    go_at_call 29
    refine HT7C.out.mono ?_
    rintro e wD ⟨rfl, hbD⟩
    have HBD := Lib.hid (HBC.out.trans (hbD.mono HBC.out.size))
    clear hbD
    go_wp2_with fail
    go_ret
    exact ⟨rfl, HBD.out⟩
end Go.Proofs.YtlkljeedlkbkgaaGreatDoor.Cl
