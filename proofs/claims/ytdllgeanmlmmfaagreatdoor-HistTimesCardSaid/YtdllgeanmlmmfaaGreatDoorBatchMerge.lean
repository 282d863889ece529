/-
  PACKAGE batch: Merge and Pack.
-/
import Derived.Test.YtdllgeanmlmmfaaGreatDoorBatchWeave
namespace Go.Proofs.YtdllgeanmlmmfaaGreatDoor.Batch
open Go.RowKit
set_option linter.unusedVariables false

theorem perm_wf {l l' : List Ch} (h : l.Perm l') (hw : ∀ x ∈ l', x.Wf) : ∀ x ∈ l, x.Wf := fun x hx => hw x (h.mem_iff.1 hx)
theorem sums_same {l l' : List Ch} (hl : ∀ x ∈ l, x.Wf) (hw : ∀ x ∈ l', x.Wf) (h : ∀ p t, wr (tot l p t) = wr (tot l' p t)) : sumsE l = sumsE l' ∧ sumsR l = sumsR l' := by
  have e1 : overK l = overK l' := overK_same hl hw h
  have e2 : sumL l = sumL l' := sumL_same hl hw h
  exact ⟨by unfold sumsE; rw [e1], by unfold sumsR; rw [e1, e2]⟩
theorem sums_perm {l l' : List Ch} (h : l.Perm l') (hw : ∀ x ∈ l', x.Wf) : sumsE l = sumsE l' ∧ sumsR l = sumsR l' :=
  sums_same (perm_wf h hw) hw fun p t => by rw [tot_perm h]
theorem sumsR_wf {l : List Ch} (h : ∀ x ∈ l, x.Wf) : ∀ x ∈ sumsR l, x.Wf := by
  unfold sumsR
  split
  · simp
  · exact sumL_wf h
theorem sumsR_length (l : List Ch) : (sumsR l).length ≤ l.length := by
  unfold sumsR
  split
  · simp
  · exact sumL_length l
theorem both_wf {A B : List Ch} (ha : ∀ x ∈ A, x.Wf) (hb : ∀ x ∈ B, x.Wf) : ∀ x ∈ A ++ B, x.Wf := fun x hx => (List.mem_append.1 hx).elim (ha x) (hb x)

set_option maxRecDepth 1000000 in
set_option maxHeartbeats 4000000 in
theorem merge_any {w : World} {va vb : Value} {A B : List Ch} (ha : Sl w va A) (hb : Sl w vb B) (hsa : Sorted A) (hsb : Sorted B) (hl : A.length + B.length ≤ 100000) :
    Calls Tryz.prog 41 #[va, vb] w fun e w' => ∃ v' : Value, (e = .returned (.tuple #[v', .int .i64 (sumsE (A ++ B))])) ∧ Own w' w.heap.size 103 v' (sumsR (A ++ B)) ∧ Below w.heap.size w w' := by
  have HWV := Lib.hid (weave_any ha hb hsa hsb hl)
  have HAB := Lib.hid (both_wf ha.wf hb.wf)
  have HL := Lib.hid hl
  obtain ⟨aa, ca, rfl, _⟩ := ha
  obtain ⟨ab, cb, rfl, _⟩ := hb
  clear hsa hsb hl
  go_enter Tryz.func41, Tryz.ntmps41
  go_wp2_with fail
  go_at_call 77
  refine HWV.out.mono ?_
  rintro e w1 ⟨v1, l, rfl, hperm, hsl, hown1, hb1⟩
  have hlen : l.length ≤ 100000 := by have := hperm.length_eq; have := HL.out; simp only [List.length_append] at *; omega
  have hrd := (hown1.rd (perm_wf hperm HAB.out))
  have HS := Lib.hid (sums_any hrd hsl hlen)
  have HP := Lib.hid (sums_perm hperm HAB.out)
  have HB1 := Lib.hid hb1
  obtain ⟨ao, cap, rfl, _⟩ := hrd
  clear hperm hsl hown1 hb1 hlen
  go_wp2_with fail
  go_at_call 76
  refine HS.out.mono ?_
  rintro e w2 ⟨v2, rfl, hown2, hb2⟩
  have HO2 := Lib.hid (hown2.mono HB1.out.size)
  have HB2 := Lib.hid (HB1.out.trans (hb2.mono HB1.out.size))
  clear hown2 hb2
  go_wp2_with fail
  go_ret2
  refine ⟨_, ret_two HP.out.1, ?_, HB2.out⟩
  rw [← HP.out.2]
  exact HO2.out

def firstWrong : List Ch → Int
  | [] => 0
  | x :: r => if wrongN x ≠ 0 then wrongN x else firstWrong r
def packE (l : List Ch) : Int := if 16 < l.length then 4 else if firstWrong l ≠ 0 then firstWrong l else sumsE l
def packR (l : List Ch) : List Ch := if 16 < l.length ∨ firstWrong l ≠ 0 then [] else sumsR l
theorem firstWrong_none {l : List Ch} (h : ∀ x ∈ l, wrongN x = 0) : firstWrong l = 0 := by
  induction l with
  | nil => rfl
  | cons x r ih => unfold firstWrong; rw [if_neg (fun hn => hn (h x (by simp)))]; exact ih (fun y hy => h y (by simp [hy]))
theorem firstWrong_at {l : List Ch} {i : Nat} {x : Ch} (hx : l[i]? = some x) (h : ∀ y ∈ l.take i, wrongN y = 0) (hn : wrongN x ≠ 0) : firstWrong l = wrongN x := by
  induction l generalizing i with
  | nil => simp at hx
  | cons y r ih =>
    cases i with
    | zero => simp at hx; subst hx; unfold firstWrong; rw [if_pos hn]
    | succ k =>
      unfold firstWrong
      rw [if_neg (fun hn => hn (h y (by simp)))]
      exact ih (by simpa using hx) (fun z hz => h z (by simp [hz]))
theorem pack_many {l : List Ch} (h : 16 < l.length) : packE l = 4 ∧ packR l = [] := ⟨if_pos h, if_pos (.inl h)⟩
theorem pack_wrong {l : List Ch} (h : ¬ 16 < l.length) (hn : firstWrong l ≠ 0) : packE l = firstWrong l ∧ packR l = [] := ⟨by unfold packE; rw [if_neg h, if_pos hn], if_pos (.inr hn)⟩
theorem pack_ok {l : List Ch} (h : ¬ 16 < l.length) (hn : firstWrong l = 0) : packE l = sumsE l ∧ packR l = sumsR l := ⟨by unfold packE; rw [if_neg h, if_neg (fun h => h hn)], if_neg (fun h' => h'.elim h (fun h => h hn))⟩

set_option maxRecDepth 1000000 in
set_option maxHeartbeats 8000000 in
theorem pack_any {w : World} {v : Value} {l : List Ch} (hv : Sl w v l) :
    Calls Tryz.prog 106 #[v] w fun e w' => ∃ v' : Value, (e = .returned (.tuple #[v', .int .i64 (packE l)])) ∧ Own w' w.heap.size 103 v' (packR l) ∧ Below w.heap.size w w' := by
  have HV := Lib.hid hv
  have HWF := Lib.hid hv.wf
  obtain ⟨ao, cap, rfl, hcell, hlc, hcm, _⟩ := hv
  have HC := Lib.hid hcell
  have hlen : l.length ≤ 9223372036854775807 := by omega
  clear hcell hlc hcm
  by_cases h16 : 16 < l.length
  · have HR := Lib.hid (pack_many h16)
    have h16' : (16 : Int) < (l.length : Int) := by omega
    clear h16
    go_enter Tryz.func106, Tryz.ntmps106
    go_wp2
    go_ret2
    refine ⟨_, ret_two HR.out.1.symm, ?_, Below.refl _ _⟩
    rw [HR.out.2]
    exact Own.nil _ _ _
  · have H16 := Lib.hid h16
    have h16' : ¬ ((16 : Int) < (l.length : Int)) := by omega
    have hl16 : l.length ≤ 16 := by omega
    clear h16
    go_enter Tryz.func106, Tryz.ntmps106
    go_wp2
    go_loopg [13] l.length (fun k t wr => ∃ i : Nat, i + k = l.length ∧ t = .int .i64 i ∧ (∀ y ∈ l.take i, wrongN y = 0) ∧ Below w.heap.size w wr)
    case atStart => exact ⟨0, by omega, rfl, by simp, Below.refl _ _⟩
    case round =>
      obtain ⟨i, hik, rfl, hok, hbw⟩ := hrel
      have HIK := Lib.hid hik
      have HOK := Lib.hid hok
      have HBW := Lib.hid hbw
      clear hok hbw hik
      by_cases hlt1 : i < l.length
      · obtain ⟨x, hx, hxm⟩ := at_of hlt1
        obtain ⟨b, off, rfl, hcc⟩ := HC.out.resolve_left (fun h => by rw [h.2] at hlt1; simp at hlt1)
        have q := hcc i x hx
        have hbl := q.lt
        obtain ⟨c0, c1, c2⟩ := q.below HBW.out hbl
        have HX := Lib.hid hx
        have hi0' : (0 : Int) ≤ (i : Int) := Int.natCast_nonneg _
        have hi1 : (i : Int) < (l.length : Int) := by omega
        have HW := Lib.hid (fun W => wrong_any x W)
        have HLT := Lib.hid hlt1
        have hbs : w.heap.size ≤ wr.heap.size := HBW.out.size
        by_cases hn : wrongN x = 0
        · have hne : (wrongN x != 0) = false := by rw [hn]; rfl
          have HOK2 := Lib.hid (show ∀ y ∈ l.take (i + 1), wrongN y = 0 by
            intro y hy
            rw [take_succ' hx] at hy
            rcases List.mem_append.1 hy with hy | hy
            · exact HOK.out y hy
            · simp at hy; subst hy; exact hn)
          obtain ⟨p, t, d⟩ := x
          simp only at c0 c1 c2
          clear hx hxm hcc q hbl hn
          go_wp2_with fail
          go_at_call 129
          refine (HW.out _).mono ?_
          rintro e w1 ⟨rfl, hb1⟩
          have hbb : Below w.heap.size w w1 := (HBW.out.alloc hbs _).trans (hb1.mono (by simp; omega))
          have HB := Lib.hid hbb
          clear hb1 hbb
          go_wp2_with fail
          go_roundg (gk - 1)
          case measure => have := HIK.out; have := HLT.out; omega
          case rel => exact ⟨i + 1, by have := HIK.out; have := HLT.out; omega, by go_num, HOK2.out, HB.out⟩
        · have hne : (wrongN x != 0) = true := by rw [bne_iff_ne]; exact hn
          have e1 := firstWrong_at hx HOK.out hn
          have HR := Lib.hid (pack_wrong H16.out (by rw [e1]; exact hn))
          have HE1 := Lib.hid e1
          obtain ⟨p, t, d⟩ := x
          simp only at c0 c1 c2
          clear hx hxm hcc q hbl hn e1
          go_wp2_with fail
          go_at_call 129
          refine (HW.out _).mono ?_
          rintro e w1 ⟨rfl, hb1⟩
          have hbb : Below w.heap.size w w1 := (HBW.out.alloc hbs _).trans (hb1.mono (by simp; omega))
          have HB := Lib.hid hbb
          clear hb1 hbb
          go_wp2_with fail
          go_ret2
          refine ⟨_, ret_two (HR.out.1.trans HE1.out).symm, ?_, HB.out⟩
          rw [HR.out.2]
          exact Own.nil _ _ _
      · have HALL := Lib.hid (show ∀ y ∈ l, wrongN y = 0 by
          intro y hy
          exact HOK.out y (by rw [take_all (by omega)]; exact hy))
        have HR := Lib.hid (pack_ok H16.out (firstWrong_none HALL.out))
        have HVr := Lib.hid (HV.out.below HBW.out)
        have HCL := Lib.hid (clone_any HVr.out (by omega))
        go_wp2_with fail
        go_at_call 130
        refine HCL.out.mono ?_
        rintro e w1 ⟨v1, rfl, hown1, hb1⟩
        have HS := Lib.hid (sort_any hown1 hb1.size (by omega))
        have HB1 := Lib.hid (HBW.out.trans (hb1.mono HBW.out.size))
        have HH1 := Lib.hid hb1.size
        clear hown1 hb1
        go_wp2_with fail
        go_at_call 131
        refine HS.out.mono ?_
        rintro e w2 ⟨rfl, l', hperm, hsl, hown2, hb2⟩
        have hlen2 : l'.length ≤ 100000 := by have := hperm.length_eq; omega
        have hrd := hown2.rd (perm_wf hperm HWF.out)
        have HS2 := Lib.hid (sums_any hrd hsl hlen2)
        have HP := Lib.hid (sums_perm hperm HWF.out)
        have HB2 := Lib.hid (HB1.out.trans (hb2.mono HBW.out.size))
        clear hperm hsl hown2 hb2 hlen2 hrd
        go_wp2_with fail
        go_at_call 76
        refine HS2.out.mono ?_
        rintro e w3 ⟨v3, rfl, hown3, hb3⟩
        have HO3 := Lib.hid (hown3.mono HB2.out.size)
        have HB3 := Lib.hid (HB2.out.trans (hb3.mono HB2.out.size))
        clear hown3 hb3
        go_wp2_with fail
        go_ret2
        refine ⟨_, ret_two (HP.out.1.trans HR.out.1.symm), ?_, HB3.out⟩
        rw [HR.out.2, ← HP.out.2]
        exact HO3.out
end Go.Proofs.YtdllgeanmlmmfaaGreatDoor.Batch
