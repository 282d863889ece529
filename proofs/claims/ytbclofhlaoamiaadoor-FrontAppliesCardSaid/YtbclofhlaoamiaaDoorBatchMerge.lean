/-
  PACKAGE batch: Merge and Pack.
-/
import Derived.Test.YtbclofhlaoamiaaDoorBatchWeave
namespace Go.Proofs.YtbclofhlaoamiaaDoor.Batch
open Go.RowKit
set_option linter.unusedVariables false

theorem perm_wf {l l' : List Ch} (h : l.Perm l') (hw : ∀ x ∈ l', x.Wf) : ∀ x ∈ l, x.Wf := fun x hx => hw x (h.mem_iff.1 hx)
theorem sums_same {l l' : List Ch} (hl : ∀ x ∈ l, x.Wf) (hw : ∀ x ∈ l', x.Wf) (h : ∀ p t, wr (tot l p t) = wr (tot l' p t)) : sumsE l = sumsE l' ∧ sumsR l = sumsR l' := by
  have e1 : overK l = overK l' := overK_same hl hw h
  have e2 : sumL l = sumL l' := sumL_same hl hw h
  exact ⟨by unfold sumsE; rw [e1], by unfold sumsR; rw [e1, e2]⟩
theorem sums_perm {l l' : List Ch} (h : l.Perm l') (hw : ∀ x ∈ l', x.Wf) : sumsE l = sumsE l' ∧ sumsR l = sumsR l' :=
  sums_same (perm_wf h hw) hw fun p t => by rw [tot_perm h]
theorem sumsR_wf {l : List Ch} (h : ∀ x ∈ l, x.Wf) : ∀ x ∈ sumsR l, x.Wf := by
  unfold sumsR
  split
  · simp
  · exact sumL_wf h
theorem sumsR_length (l : List Ch) : (sumsR l).length ≤ l.length := by
  unfold sumsR
  split
  · simp
  · exact sumL_length l
theorem both_wf {A B : List Ch} (ha : ∀ x ∈ A, x.Wf) (hb : ∀ x ∈ B, x.Wf) : ∀ x ∈ A ++ B, x.Wf := fun x hx => (List.mem_append.1 hx).elim (ha x) (hb x)

set_option maxRecDepth 1000000 in
set_option maxHeartbeats 4000000 in
theorem merge_any {w : World} {va vb : Value} {A B : List Ch} (ha : Sl w va A) (hb : Sl w vb B) (hsa : Sorted A) (hsb : Sorted B) (hl : A.length + B.length ≤ 100000) :
    Calls Tryd.prog 43 #[va, vb] w fun e w' => ∃ v' : Value, (e = .returned (.tuple #[v', .int .i64 (sumsE (A ++ B))])) ∧ Own w' w.heap.size 68 v' (sumsR (A ++ B)) ∧ Below w.heap.size w w' := by
  have HWV := Lib.hid (weave_any ha hb hsa hsb hl)
  have HAB := Lib.hid (both_wf ha.wf hb.wf)
  have HL := Lib.hid hl
  obtain ⟨aa, ca, rfl, _⟩ := ha
  obtain ⟨ab, cb, rfl, _⟩ := hb
  clear hsa hsb hl
  go_enter Tryd.func43, Tryd.ntmps43
  go_wp2_with fail
  go_at_call 60
  refine HWV.out.mono ?_
  rintro e w1 ⟨v1, l, rfl, hperm, hsl, hown1, hb1⟩
  have hlen : l.length ≤ 100000 := by have := hperm.length_eq; have := HL.out; simp only [List.length_append] at *; omega
  have hrd := (hown1.rd (perm_wf hperm HAB.out))
  have HS := Lib.hid (sums_any hrd hsl hlen)
  have HP := Lib.hid (sums_perm hperm HAB.out)
  have HB1 := Lib.hid hb1
  obtain ⟨ao, cap, rfl, _⟩ := hrd
  clear hperm hsl hown1 hb1 hlen
  go_wp2_with fail
  go_at_call 59
  refine HS.out.mono ?_
  rintro e w2 ⟨v2, rfl, hown2, hb2⟩
  have HO2 := Lib.hid (hown2.mono HB1.out.size)
  have HB2 := Lib.hid (HB1.out.trans (hb2.mono HB1.out.size))
  clear hown2 hb2
  go_wp2_with fail
  go_ret2
  refine ⟨_, ret_two HP.out.1, ?_, HB2.out⟩
  rw [← HP.out.2]
  exact HO2.out

def firstWrong : List Ch → Int
  | [] => 0
  | x :: r => if wrongN x ≠ 0 then wrongN x else firstWrong r
def packE (l : List Ch) : Int := if 16 < l.length then 4 else if firstWrong l ≠ 0 then firstWrong l else sumsE l
def packR (l : List Ch) : List Ch := if 16 < l.length ∨ firstWrong l ≠ 0 then [] else sumsR l
theorem firstWrong_none {l : List Ch} (h : ∀ x ∈ l, wrongN x = 0) : firstWrong l = 0 := by
  induction l with
  | nil => rfl
  | cons x r ih => unfold firstWrong; rw [if_neg (fun hn => hn (h x (by simp)))]; exact ih (fun y hy => h y (by simp [hy]))
theorem firstWrong_at {l : List Ch} {i : Nat} {x : Ch} (hx : l[i]? = some x) (h : ∀ y ∈ l.take i, wrongN y = 0) (hn : wrongN x ≠ 0) : firstWrong l = wrongN x := by
  induction l generalizing i with
  | nil => simp at hx
  | cons y r ih =>
    cases i with
    | zero => simp at hx; subst hx; unfold firstWrong; rw [if_pos hn]
    | succ k =>
      unfold firstWrong
      rw [if_neg (fun hn => hn (h y (by simp)))]
      exact ih (by simpa using hx) (fun z hz => h z (by simp [hz]))
theorem pack_many {l : List Ch} (h : 16 < l.length) : packE l = 4 ∧ packR l = [] := ⟨if_pos h, if_pos (.inl h)⟩
theorem pack_wrong {l : List Ch} (h : ¬ 16 < l.length) (hn : firstWrong l ≠ 0) : packE l = firstWrong l ∧ packR l = [] := ⟨by unfold packE; rw [if_neg h, if_pos hn], if_pos (.inr hn)⟩
theorem pack_ok {l : List Ch} (h : ¬ 16 < l.length) (hn : firstWrong l = 0) : packE l = sumsE l ∧ packR l = sumsR l := ⟨by unfold packE; rw [if_neg h, if_neg (fun h => h hn)], if_neg (fun h' => h'.elim h (fun h => h hn))⟩

end Go.Proofs.YtbclofhlaoamiaaDoor.Batch
