/-
  PACKAGE batch: Merge and Pack.
  PACKAGE batch: Right.
  PACKAGE batch: Minus.
  PACKAGE marchlandref03: Same, Pack, Minus, Fix, Merge.
  PACKAGE marchlandref03: Minus, Fix, Merge.
  PACKAGE marchlandref03: Fix, Merge.
  PACKAGE marchlandref03: Merge.
  PACKAGE batch, PLAIN MATHEMATICS OF THE LAWS: what Fix gives may be; merged in any order and either way of three it is the same; with its opposite it is nothing; the same just if each count is.
-/
import Derived.Test.YtdllgeanmlmmfaaGreatDoorBatchWeave
import Derived.Test.YtdllgeanmlmmfaaGreatDoorJoined5
namespace Go.Proofs.YtdllgeanmlmmfaaGreatDoor.Batch
open Go.RowKit
set_option linter.unusedVariables false

theorem perm_wf {l l' : List Ch} (h : l.Perm l') (hw : ∀ x ∈ l', x.Wf) : ∀ x ∈ l, x.Wf := fun x hx => hw x (h.mem_iff.1 hx)
theorem sums_same {l l' : List Ch} (hl : ∀ x ∈ l, x.Wf) (hw : ∀ x ∈ l', x.Wf) (h : ∀ p t, wr (tot l p t) = wr (tot l' p t)) : sumsE l = sumsE l' ∧ sumsR l = sumsR l' := by
  have e1 : overK l = overK l' := overK_same hl hw h
  have e2 : sumL l = sumL l' := sumL_same hl hw h
  exact ⟨by unfold sumsE; rw [e1], by unfold sumsR; rw [e1, e2]⟩
theorem sums_perm {l l' : List Ch} (h : l.Perm l') (hw : ∀ x ∈ l', x.Wf) : sumsE l = sumsE l' ∧ sumsR l = sumsR l' :=
  sums_same (perm_wf h hw) hw fun p t => by rw [tot_perm h]
theorem sumsR_wf {l : List Ch} (h : ∀ x ∈ l, x.Wf) : ∀ x ∈ sumsR l, x.Wf := by
  unfold sumsR
  split
  · simp
  · exact sumL_wf h
theorem sumsR_length (l : List Ch) : (sumsR l).length ≤ l.length := by
  unfold sumsR
  split
  · simp
  · exact sumL_length l
theorem both_wf {A B : List Ch} (ha : ∀ x ∈ A, x.Wf) (hb : ∀ x ∈ B, x.Wf) : ∀ x ∈ A ++ B, x.Wf := fun x hx => (List.mem_append.1 hx).elim (ha x) (hb x)

set_option maxRecDepth 1000000 in
set_option maxHeartbeats 4000000 in
theorem merge_any {w : World} {va vb : Value} {A B : List Ch} (ha : Sl w va A) (hb : Sl w vb B) (hsa : Sorted A) (hsb : Sorted B) (hl : A.length + B.length ≤ 100000) :
    Calls Tryz.prog 41 #[va, vb] w fun e w' => ∃ v' : Value, (e = .returned (.tuple #[v', .int .i64 (sumsE (A ++ B))])) ∧ Own w' w.heap.size 103 v' (sumsR (A ++ B)) ∧ Below w.heap.size w w' := by
  have HWV := Lib.hid (weave_any ha hb hsa hsb hl)
  have HAB := Lib.hid (both_wf ha.wf hb.wf)
  have HL := Lib.hid hl
  obtain ⟨aa, ca, rfl, _⟩ := ha
  obtain ⟨ab, cb, rfl, _⟩ := hb
  clear hsa hsb hl
  go_enter Tryz.func41, Tryz.ntmps41
  go_wp2_with fail
  go_at_call 77
  refine HWV.out.mono ?_
  rintro e w1 ⟨v1, l, rfl, hperm, hsl, hown1, hb1⟩
  have hlen : l.length ≤ 100000 := by have := hperm.length_eq; have := HL.out; simp only [List.length_append] at *; omega
  have hrd := (hown1.rd (perm_wf hperm HAB.out))
  have HS := Lib.hid (sums_any hrd hsl hlen)
  have HP := Lib.hid (sums_perm hperm HAB.out)
  have HB1 := Lib.hid hb1
  obtain ⟨ao, cap, rfl, _⟩ := hrd
  clear hperm hsl hown1 hb1 hlen
  go_wp2_with fail
  go_at_call 76
  refine HS.out.mono ?_
  rintro e w2 ⟨v2, rfl, hown2, hb2⟩
  have HO2 := Lib.hid (hown2.mono HB1.out.size)
  have HB2 := Lib.hid (HB1.out.trans (hb2.mono HB1.out.size))
  clear hown2 hb2
  go_wp2_with fail
  go_ret2
  refine ⟨_, ret_two HP.out.1, ?_, HB2.out⟩
  rw [← HP.out.2]
  exact HO2.out

def firstWrong : List Ch → Int
  | [] => 0
  | x :: r => if wrongN x ≠ 0 then wrongN x else firstWrong r
def packE (l : List Ch) : Int := if 16 < l.length then 4 else if firstWrong l ≠ 0 then firstWrong l else sumsE l
def packR (l : List Ch) : List Ch := if 16 < l.length ∨ firstWrong l ≠ 0 then [] else sumsR l
theorem firstWrong_none {l : List Ch} (h : ∀ x ∈ l, wrongN x = 0) : firstWrong l = 0 := by
  induction l with
  | nil => rfl
  | cons x r ih => unfold firstWrong; rw [if_neg (fun hn => hn (h x (by simp)))]; exact ih (fun y hy => h y (by simp [hy]))
theorem firstWrong_at {l : List Ch} {i : Nat} {x : Ch} (hx : l[i]? = some x) (h : ∀ y ∈ l.take i, wrongN y = 0) (hn : wrongN x ≠ 0) : firstWrong l = wrongN x := by
  induction l generalizing i with
  | nil => simp at hx
  | cons y r ih =>
    cases i with
    | zero => simp at hx; subst hx; unfold firstWrong; rw [if_pos hn]
    | succ k =>
      unfold firstWrong
      rw [if_neg (fun hn => hn (h y (by simp)))]
      exact ih (by simpa using hx) (fun z hz => h z (by simp [hz]))
theorem pack_many {l : List Ch} (h : 16 < l.length) : packE l = 4 ∧ packR l = [] := ⟨if_pos h, if_pos (.inl h)⟩
theorem pack_wrong {l : List Ch} (h : ¬ 16 < l.length) (hn : firstWrong l ≠ 0) : packE l = firstWrong l ∧ packR l = [] := ⟨by unfold packE; rw [if_neg h, if_pos hn], if_pos (.inr hn)⟩
theorem pack_ok {l : List Ch} (h : ¬ 16 < l.length) (hn : firstWrong l = 0) : packE l = sumsE l ∧ packR l = sumsR l := ⟨by unfold packE; rw [if_neg h, if_neg (fun h => h hn)], if_neg (fun h' => h'.elim h (fun h => h hn))⟩

set_option maxRecDepth 1000000 in
set_option maxHeartbeats 8000000 in
theorem pack_any {w : World} {v : Value} {l : List Ch} (hv : Sl w v l) :
    Calls Tryz.prog 106 #[v] w fun e w' => ∃ v' : Value, (e = .returned (.tuple #[v', .int .i64 (packE l)])) ∧ Own w' w.heap.size 103 v' (packR l) ∧ Below w.heap.size w w' := by
  have HV := Lib.hid hv
  have HWF := Lib.hid hv.wf
  obtain ⟨ao, cap, rfl, hcell, hlc, hcm, _⟩ := hv
  have HC := Lib.hid hcell
  have hlen : l.length ≤ 9223372036854775807 := by omega
  clear hcell hlc hcm
  by_cases h16 : 16 < l.length
  · have HR := Lib.hid (pack_many h16)
    have h16' : (16 : Int) < (l.length : Int) := by omega
    clear h16
    go_enter Tryz.func106, Tryz.ntmps106
    go_wp2
    go_ret2
    refine ⟨_, ret_two HR.out.1.symm, ?_, Below.refl _ _⟩
    rw [HR.out.2]
    exact Own.nil _ _ _
  · have H16 := Lib.hid h16
    have h16' : ¬ ((16 : Int) < (l.length : Int)) := by omega
    have hl16 : l.length ≤ 16 := by omega
    clear h16
    go_enter Tryz.func106, Tryz.ntmps106
    go_wp2
    go_loopg [13] l.length (fun k t wr => ∃ i : Nat, i + k = l.length ∧ t = .int .i64 i ∧ (∀ y ∈ l.take i, wrongN y = 0) ∧ Below w.heap.size w wr)
    case atStart => exact ⟨0, by omega, rfl, by simp, Below.refl _ _⟩
    case round =>
      obtain ⟨i, hik, rfl, hok, hbw⟩ := hrel
      have HIK := Lib.hid hik
      have HOK := Lib.hid hok
      have HBW := Lib.hid hbw
      clear hok hbw hik
      by_cases hlt1 : i < l.length
      · obtain ⟨x, hx, hxm⟩ := at_of hlt1
        obtain ⟨b, off, rfl, hcc⟩ := HC.out.resolve_left (fun h => by rw [h.2] at hlt1; simp at hlt1)
        have q := hcc i x hx
        have hbl := q.lt
        obtain ⟨c0, c1, c2⟩ := q.below HBW.out hbl
        have HX := Lib.hid hx
        have hi0' : (0 : Int) ≤ (i : Int) := Int.natCast_nonneg _
        have hi1 : (i : Int) < (l.length : Int) := by omega
        have HW := Lib.hid (fun W => wrong_any x W)
        have HLT := Lib.hid hlt1
        have hbs : w.heap.size ≤ wr.heap.size := HBW.out.size
        by_cases hn : wrongN x = 0
        · have hne : (wrongN x != 0) = false := by rw [hn]; rfl
          have HOK2 := Lib.hid (show ∀ y ∈ l.take (i + 1), wrongN y = 0 by
            intro y hy
            rw [take_succ' hx] at hy
            rcases List.mem_append.1 hy with hy | hy
            · exact HOK.out y hy
            · simp at hy; subst hy; exact hn)
          obtain ⟨p, t, d⟩ := x
          simp only at c0 c1 c2
          clear hx hxm hcc q hbl hn
          go_wp2_with fail
          go_at_call 129
          refine (HW.out _).mono ?_
          rintro e w1 ⟨rfl, hb1⟩
          have hbb : Below w.heap.size w w1 := (HBW.out.alloc hbs _).trans (hb1.mono (by simp; omega))
          have HB := Lib.hid hbb
          clear hb1 hbb
          go_wp2_with fail
          go_roundg (gk - 1)
          case measure => have := HIK.out; have := HLT.out; omega
          case rel => exact ⟨i + 1, by have := HIK.out; have := HLT.out; omega, by go_num, HOK2.out, HB.out⟩
        · have hne : (wrongN x != 0) = true := by rw [bne_iff_ne]; exact hn
          have e1 := firstWrong_at hx HOK.out hn
          have HR := Lib.hid (pack_wrong H16.out (by rw [e1]; exact hn))
          have HE1 := Lib.hid e1
          obtain ⟨p, t, d⟩ := x
          simp only at c0 c1 c2
          clear hx hxm hcc q hbl hn e1
          go_wp2_with fail
          go_at_call 129
          refine (HW.out _).mono ?_
          rintro e w1 ⟨rfl, hb1⟩
          have hbb : Below w.heap.size w w1 := (HBW.out.alloc hbs _).trans (hb1.mono (by simp; omega))
          have HB := Lib.hid hbb
          clear hb1 hbb
          go_wp2_with fail
          go_ret2
          refine ⟨_, ret_two (HR.out.1.trans HE1.out).symm, ?_, HB.out⟩
          rw [HR.out.2]
          exact Own.nil _ _ _
      · have HALL := Lib.hid (show ∀ y ∈ l, wrongN y = 0 by
          intro y hy
          exact HOK.out y (by rw [take_all (by omega)]; exact hy))
        have HR := Lib.hid (pack_ok H16.out (firstWrong_none HALL.out))
        have HVr := Lib.hid (HV.out.below HBW.out)
        have HCL := Lib.hid (clone_any HVr.out (by omega))
        go_wp2_with fail
        go_at_call 130
        refine HCL.out.mono ?_
        rintro e w1 ⟨v1, rfl, hown1, hb1⟩
        have HS := Lib.hid (sort_any hown1 hb1.size (by omega))
        have HB1 := Lib.hid (HBW.out.trans (hb1.mono HBW.out.size))
        have HH1 := Lib.hid hb1.size
        clear hown1 hb1
        go_wp2_with fail
        go_at_call 131
        refine HS.out.mono ?_
        rintro e w2 ⟨rfl, l', hperm, hsl, hown2, hb2⟩
        have hlen2 : l'.length ≤ 100000 := by have := hperm.length_eq; omega
        have hrd := hown2.rd (perm_wf hperm HWF.out)
        have HS2 := Lib.hid (sums_any hrd hsl hlen2)
        have HP := Lib.hid (sums_perm hperm HWF.out)
        have HB2 := Lib.hid (HB1.out.trans (hb2.mono HBW.out.size))
        clear hperm hsl hown2 hb2 hlen2 hrd
        go_wp2_with fail
        go_at_call 76
        refine HS2.out.mono ?_
        rintro e w3 ⟨v3, rfl, hown3, hb3⟩
        have HO3 := Lib.hid (hown3.mono HB2.out.size)
        have HB3 := Lib.hid (HB2.out.trans (hb3.mono HB2.out.size))
        clear hown3 hb3
        go_wp2_with fail
        go_ret2
        refine ⟨_, ret_two (HP.out.1.trans HR.out.1.symm), ?_, HB3.out⟩
        rw [HR.out.2, ← HP.out.2]
        exact HO3.out
end Go.Proofs.YtdllgeanmlmmfaaGreatDoor.Batch
namespace Go.Proofs.YtdllgeanmlmmfaaGreatDoor.Batch
open Go.RowKit
set_option linter.unusedVariables false

def RightP (l : List Ch) : Prop := (∀ x ∈ l, wrongN x = 0 ∧ x.d ≠ 0) ∧ l.Pairwise Lt
noncomputable def rightB (l : List Ch) : Bool := @decide (RightP l) (Classical.propDecidable _)
theorem rightB_iff (l : List Ch) : rightB l = true ↔ RightP l := by unfold rightB; exact @decide_eq_true_iff _ (Classical.propDecidable _)
theorem rightB_true {l : List Ch} (h : RightP l) : rightB l = true := (rightB_iff l).2 h
theorem rightB_false {l : List Ch} (h : ¬ RightP l) : rightB l = false := by
  cases e : rightB l
  · rfl
  · exact absurd ((rightB_iff l).1 e) h
theorem right_start (l : List Ch) : RightP (l.take 0) := ⟨by simp, by simp⟩
theorem right_step0 {l : List Ch} {x : Ch} (hx : l[0]? = some x) (h0 : wrongN x = 0) (h1 : x.d ≠ 0) : RightP (l.take 1) := by
  rw [take_succ' hx]
  exact ⟨fun y hy => by simp at hy; subst hy; exact ⟨h0, h1⟩, by simp⟩
theorem right_step {l : List Ch} {k : Nat} {x y : Ch} (h : RightP (l.take (k + 1))) (hy : l[k]? = some y) (hx : l[k + 1]? = some x) (h0 : wrongN x = 0) (h1 : x.d ≠ 0) (h2 : Lt y x) : RightP (l.take (k + 1 + 1)) := by
  rw [take_succ' hx]
  refine ⟨fun z hz => ?_, ?_⟩
  · rcases List.mem_append.1 hz with hz | hz
    · exact h.1 z hz
    · simp at hz; subst hz; exact ⟨h0, h1⟩
  · rw [List.pairwise_append]
    refine ⟨h.2, by simp, fun z hz q hq => ?_⟩
    simp at hq
    subst hq
    have e := take_succ' hy
    rw [e] at hz
    rcases List.mem_append.1 hz with hz | hz
    · have hp := h.2
      rw [e, List.pairwise_append] at hp
      exact (hp.2.2 z hz y (by simp)).trans h2
    · simp at hz; subst hz; exact h2
theorem right_not1 {l : List Ch} {i : Nat} {x : Ch} (hx : l[i]? = some x) (h : wrongN x ≠ 0 ∨ x.d = 0) : ¬ RightP l := fun hr => by
  have := hr.1 x (List.mem_of_getElem? hx)
  rcases h with h | h
  · exact h this.1
  · exact this.2 h
theorem right_not2 {l : List Ch} {k : Nat} {x y : Ch} (hy : l[k]? = some y) (hx : l[k + 1]? = some x) (h : ¬ Lt y x) : ¬ RightP l := fun hr => by
  obtain ⟨h1, e1⟩ := List.getElem?_eq_some_iff.1 hy
  obtain ⟨h2, e2⟩ := List.getElem?_eq_some_iff.1 hx
  have := (List.pairwise_iff_getElem.1 hr.2) k (k + 1) h1 h2 (by omega)
  rw [e1, e2] at this
  exact h this

end Go.Proofs.YtdllgeanmlmmfaaGreatDoor.Batch
namespace Go.Proofs.YtdllgeanmlmmfaaGreatDoor.Batch
open Go.RowKit
set_option linter.unusedVariables false

def negC (x : Ch) : Ch := ⟨x.p, x.t, wr (-x.d)⟩
def minusL (l : List Ch) : List Ch := l.map negC
theorem negC_wf {x : Ch} (h : x.Wf) : (negC x).Wf := ⟨h.p0, h.p1, h.t0, h.t1, (wr_range _).1, (wr_range _).2⟩
theorem minusL_wf {l : List Ch} (h : ∀ x ∈ l, x.Wf) : ∀ x ∈ minusL l, x.Wf := by
  intro x hx
  obtain ⟨y, hy, rfl⟩ := List.mem_map.1 hx
  exact negC_wf (h y hy)
def negTo (l : List Ch) (i : Nat) : List Ch := (l.take i).map negC ++ l.drop i
theorem negTo_start (l : List Ch) : negTo l 0 = l := by unfold negTo; simp
theorem negTo_done {l : List Ch} {i : Nat} (h : l.length ≤ i) : negTo l i = minusL l := by unfold negTo minusL; rw [take_all h, List.drop_of_length_le h, List.append_nil]
theorem negTo_length {l : List Ch} {i : Nat} (h : i ≤ l.length) : (negTo l i).length = l.length := by unfold negTo; simp; omega
theorem negTo_at {l : List Ch} {i : Nat} {x : Ch} (h : l[i]? = some x) : (negTo l i)[i]? = some x := by
  have hl := (List.getElem?_eq_some_iff.1 h).1
  unfold negTo
  rw [List.getElem?_append_right (by simp; omega)]
  simp only [List.length_map, List.length_take]
  rw [List.getElem?_drop, show i + (i - min i l.length) = i by omega]
  exact h
theorem negTo_step {l : List Ch} {i : Nat} {x : Ch} (h : l[i]? = some x) : (negTo l i).set i (negC x) = negTo l (i + 1) := by
  have hl := (List.getElem?_eq_some_iff.1 h).1
  unfold negTo
  rw [List.set_append_right _ _ (by simp; omega)]
  have e : l.drop i = x :: l.drop (i + 1) := by
    rw [List.drop_eq_getElem_cons hl]
    rw [List.getElem?_eq_getElem hl] at h
    rw [Option.some.inj h]
  rw [e, take_succ' h]
  simp only [List.length_map, List.length_take, List.map_append, List.map_cons, List.map_nil]
  rw [show i - min i l.length = 0 by omega, List.set_cons_zero]
  simp

end Go.Proofs.YtdllgeanmlmmfaaGreatDoor.Batch
namespace Go.Proofs.YtdllgeanmlmmfaaGreatDoor.Batch
open Go.RowKit Go.Lib
set_option linter.unusedVariables false

theorem eqCh_false {x y : Ch} (h : x ≠ y) : eqCh x y = false := by
  cases e : eqCh x y
  · rfl
  · exact absurd ((eqCh_iff x y).1 e) h
/-- The first i are the same. -/
def SameTo (a b : List Ch) (i : Nat) : Prop := a.take i = b.take i
theorem SameTo.step {a b : List Ch} {i : Nat} {x : Ch} (h : SameTo a b i) (ha : a[i]? = some x) (hb : b[i]? = some x) : SameTo a b (i + 1) := by
  unfold SameTo at *
  rw [take_succ' ha, take_succ' hb, h]
theorem SameTo.all {a b : List Ch} {i : Nat} (h : SameTo a b i) (ha : a.length ≤ i) (hb : b.length ≤ i) : eqL a b = true := by
  unfold SameTo at h
  rw [take_all ha, take_all hb] at h
  rw [h]
  exact eqL_self b
theorem not_same {a b : List Ch} {i : Nat} {x y : Ch} (ha : a[i]? = some x) (hb : b[i]? = some y) (h : x ≠ y) : eqL a b = false :=
  eqL_false fun e => h (by rw [e, hb] at ha; exact (Option.some.inj ha).symm)

end Go.Proofs.YtdllgeanmlmmfaaGreatDoor.Batch
namespace Go.Proofs.YtdllgeanmlmmfaaGreatDoor.Batch
open Go.RowKit
set_option linter.unusedVariables false

end Go.Proofs.YtdllgeanmlmmfaaGreatDoor.Batch
namespace Go.Proofs.YtdllgeanmlmmfaaGreatDoor.Batch
open Go.RowKit
set_option linter.unusedVariables false

def fixC (x : Ch) : Ch := ⟨IntKind.i64.wrap ((IntKind.u64.wrap x.p).tmod 64), x.t.tmod 18446744073709551615, x.d.tmod 1000⟩
def fixL (l : List Ch) : List Ch := sumsR ((l.take 12).map fixC)
theorem u64_wrap_range (n : Int) : 0 ≤ IntKind.u64.wrap n ∧ IntKind.u64.wrap n ≤ 18446744073709551615 := by
  unfold IntKind.wrap
  simp [IntKind.bits, IntKind.signed]
  omega
theorem fixC_mk (p t d : Int) : fixC ⟨p, t, d⟩ = ⟨IntKind.i64.wrap ((IntKind.u64.wrap p).tmod 64), t.tmod 18446744073709551615, d.tmod 1000⟩ := rfl
theorem tmod_pos {a b : Int} (ha : 0 ≤ a) (hb : 0 < b) : 0 ≤ a.tmod b ∧ a.tmod b < b := ⟨Int.tmod_nonneg _ ha, Int.tmod_lt_of_pos _ hb⟩
theorem fixC_p (x : Ch) : 0 ≤ (fixC x).p ∧ (fixC x).p < 64 := by
  unfold fixC
  simp only
  have h := tmod_pos (u64_wrap_range x.p).1 (show (0 : Int) < 64 by decide)
  rw [wr_i64, wr_id (by omega) (by omega)]
  exact h
theorem fixC_d (x : Ch) : -999 ≤ (fixC x).d ∧ (fixC x).d ≤ 999 := by
  unfold fixC
  simp only
  have h1 := Int.tmod_lt_of_pos x.d (show (0 : Int) < 1000 by decide)
  have h2 := Int.tmod_lt_of_pos (-x.d) (show (0 : Int) < 1000 by decide)
  rw [Int.neg_tmod] at h2
  omega
theorem fixC_t {x : Ch} (h : x.Wf) : 0 ≤ (fixC x).t ∧ (fixC x).t < 18446744073709551615 := tmod_pos h.t0 (by decide)
theorem fixC_wf {x : Ch} (h : x.Wf) : (fixC x).Wf := by
  have h1 := fixC_p x
  have h2 := fixC_d x
  have h3 := fixC_t h
  exact ⟨by omega, by omega, by omega, by omega, by omega, by omega⟩

end Go.Proofs.YtdllgeanmlmmfaaGreatDoor.Batch
namespace Go.Proofs.YtdllgeanmlmmfaaGreatDoor.Batch
open Go.RowKit
set_option linter.unusedVariables false

theorem own0 (w : World) (T : TypeId) : (w.alloc (.cells #[] T)).ownsRow w.heap.size T 3 (.slice (some ⟨w.heap.size, 0, none⟩) 0 0) 0 [] :=
  ⟨rfl, .inr ⟨w.heap.size, 0, #[], rfl, Nat.le_refl _, heap_alloc_new w _, Nat.le_refl _, by simp, rfl, rfl⟩⟩
theorem Rd.srcR {w : World} {ao : Option Addr} {n cap : Nat} {l : List Ch} (h : Rd w (.slice ao n cap) l) : n = l.length ∧ Src w ao l.length (cellsL l) := by
  obtain ⟨ao', cap', hv, h1, h2, h3, h4⟩ := h
  simp at hv
  obtain ⟨rfl, rfl, rfl⟩ := hv
  refine ⟨rfl, ?_⟩
  rcases h4 with rfl | h4
  · cases ao with
    | none => exact .inl ⟨rfl, rfl, rfl⟩
    | some a => exact .inr ⟨a, rfl, fun j u hu => by simp [cellsL] at hu⟩
  · exact (Sl.src (l := l) (n := l.length) (cap := cap) ⟨_, _, rfl, .inr h4, h1, h2, h3⟩).2
end Go.Proofs.YtdllgeanmlmmfaaGreatDoor.Batch
namespace Go.Proofs.YtdllgeanmlmmfaaGreatDoor.Batch
open Go.RowKit
set_option linter.unusedVariables false

theorem firstWrong_zero {l : List Ch} (h : firstWrong l = 0) : ∀ x ∈ l, wrongN x = 0 := by
  induction l with
  | nil => simp
  | cons y r ih =>
    unfold firstWrong at h
    split at h
    · rename_i hn; exact absurd h hn
    · rename_i hn
      intro x hx
      rcases List.mem_cons.1 hx with rfl | hx
      · exact Decidable.not_not.1 hn
      · exact ih h x hx
def Fit (x : Ch) : Prop := 0 ≤ x.p ∧ x.p < 64 ∧ x.t ≠ 18446744073709551615
theorem fit_of_wrong {x : Ch} (h : wrongN x = 0) : Fit x := by
  unfold wrongN at h
  split at h
  · exact absurd h (by decide)
  · split at h
    · exact absurd h (by decide)
    · exact ⟨by omega, by omega, by assumption⟩
theorem wrong_of_fit {x : Ch} (h : Fit x) (ho : overB x.d = false) : wrongN x = 0 := by
  unfold wrongN
  rw [if_neg (by have := h.1; have := h.2.1; omega), if_neg h.2.2, if_neg (by rw [ho]; decide)]
theorem right_sum {l : List Ch} (hw : ∀ x ∈ l, x.Wf) (hf : ∀ x ∈ l, Fit x) (ho : overK l = false) : RightP (sumL l) := by
  have hs := sumL_is hw
  refine ⟨fun z hz => ⟨?_, ((hs.2 z).1 hz).1⟩, hs.1⟩
  obtain ⟨x, hx, hk⟩ := sumL_key hw z hz
  have hfx := hf x hx
  refine wrong_of_fit ⟨by rw [← hk.1]; exact hfx.1, by rw [← hk.1]; exact hfx.2.1, by rw [← hk.2]; exact hfx.2.2⟩ ?_
  cases e : overB z.d
  · rfl
  · have h1 : overK l = true := (overK_iff hw).2 ⟨z.p, z.t, by rw [← ((hs.2 z).1 hz).2]; exact e⟩
    rw [h1] at ho
    exact absurd ho (by decide)
theorem right_nil : RightP [] := ⟨by simp, by simp⟩
theorem right_sums {l : List Ch} (hw : ∀ x ∈ l, x.Wf) (hf : ∀ x ∈ l, Fit x) : RightP (sumsR l) := by
  unfold sumsR
  split
  · exact right_nil
  · rename_i h
    exact right_sum hw hf (by cases e : overK l <;> simp_all)
theorem pack_right {l : List Ch} (hw : ∀ x ∈ l, x.Wf) (h : packE l = 0) : RightP (packR l) := by
  unfold packE at h
  unfold packR
  split at h
  · exact absurd h (by decide)
  · split at h
    · rename_i h1; exact absurd h h1
    · rename_i h0 h1
      rw [if_neg (by intro hh; exact hh.elim h0 h1)]
      exact right_sums hw fun x hx => fit_of_wrong (firstWrong_zero (Decidable.not_not.1 h1) x hx)
theorem RightP.fit {l : List Ch} (h : RightP l) : ∀ x ∈ l, Fit x := fun x hx => fit_of_wrong (h.1 x hx).1
theorem RightP.sorted {l : List Ch} (h : RightP l) : Sorted l := h.2.imp fun h => h.asymm

/-- What Fix gives. -/
structure Nice (A : List Ch) : Prop where
  right : RightP A
  wf : ∀ x ∈ A, x.Wf
  lo : ∀ p t, -12000 ≤ tot A p t
  hi : ∀ p t, tot A p t ≤ 12000
  len : A.length ≤ 12
theorem fix_nice {l : List Ch} (h : ∀ x ∈ l, x.Wf) : Nice (fixL l) := by
  have hw : ∀ x ∈ (l.take 12).map fixC, x.Wf := by
    intro x hx
    obtain ⟨y, hy, rfl⟩ := List.mem_map.1 hx
    exact fixC_wf (h y (List.mem_of_mem_take hy))
  have hf : ∀ x ∈ (l.take 12).map fixC, Fit x := by
    intro x hx
    obtain ⟨y, hy, rfl⟩ := List.mem_map.1 hx
    have h1 := fixC_p y
    have h2 := fixC_t (h y (List.mem_of_mem_take hy))
    exact ⟨h1.1, h1.2, by omega⟩
  have hl : ((l.take 12).map fixC).length ≤ 12 := by rw [List.length_map, List.length_take]; omega
  have hd : ∀ x ∈ (l.take 12).map fixC, -999 ≤ x.d ∧ x.d ≤ 999 := by
    intro x hx
    obtain ⟨y, hy, rfl⟩ := List.mem_map.1 hx
    exact fixC_d y
  unfold fixL
  generalize (l.take 12).map fixC = L at *
  have hb : ∀ p t, -12000 ≤ tot L p t ∧ tot L p t ≤ 12000 := fun p t => by
    have := tot_bound (B := 999) hd (by decide) p t
    omega
  have ho : overK L = false := by
    cases e : overK L
    · rfl
    · obtain ⟨p, t, ho⟩ := (overK_iff hw).1 e
      have := hb p t
      rw [wr_id (by omega) (by omega)] at ho
      have := of_decide_eq_true ho
      omega
  rw [(sums_ok ho).2]
  refine ⟨right_sum hw hf ho, sumL_wf hw, fun p t => ?_, fun p t => ?_, Nat.le_trans (sumL_length L) hl⟩
  · have := hb p t
    rw [(sumL_is hw).tot, wr_id (by omega) (by omega)]
    omega
  · have := hb p t
    rw [(sumL_is hw).tot, wr_id (by omega) (by omega)]
    omega
theorem Nice.d {A : List Ch} (h : Nice A) : ∀ x ∈ A, -12000 ≤ x.d ∧ x.d ≤ 12000 := fun x hx => by
  have h1 := h.lo x.p x.t
  have h2 := h.hi x.p x.t
  rw [tot_one h.right.2 hx] at h1 h2
  exact ⟨h1, h2⟩
theorem no_over {l : List Ch} (hw : ∀ x ∈ l, x.Wf) (h : ∀ p t, -100000 ≤ tot l p t ∧ tot l p t ≤ 100000) : overK l = false := by
  cases e : overK l
  · rfl
  · obtain ⟨p, t, ho⟩ := (overK_iff hw).1 e
    have := h p t
    rw [wr_id (by omega) (by omega)] at ho
    have := of_decide_eq_true ho
    omega
theorem sum_tot {l : List Ch} (hw : ∀ x ∈ l, x.Wf) (h : ∀ p t, -100000 ≤ tot l p t ∧ tot l p t ≤ 100000) : sumsE l = 0 ∧ sumsR l = sumL l ∧ ∀ p t, tot (sumL l) p t = tot l p t := by
  have ho := sums_ok (no_over hw h)
  refine ⟨ho.1, ho.2, fun p t => ?_⟩
  have := h p t
  rw [(sumL_is hw).tot, wr_id (by omega) (by omega)]
theorem Nice.two {A B : List Ch} (ha : Nice A) (hb : Nice B) : sumsE (A ++ B) = 0 ∧ sumsR (A ++ B) = sumL (A ++ B) ∧ ∀ p t, tot (sumL (A ++ B)) p t = tot A p t + tot B p t := by
  have h := sum_tot (both_wf ha.wf hb.wf) fun p t => by
    have := ha.lo p t; have := ha.hi p t; have := hb.lo p t; have := hb.hi p t
    rw [tot_append]
    omega
  exact ⟨h.1, h.2.1, fun p t => by rw [h.2.2, tot_append]⟩
theorem Nice.comm {A B : List Ch} (ha : Nice A) (hb : Nice B) : sumsE (B ++ A) = sumsE (A ++ B) ∧ sumsR (B ++ A) = sumsR (A ++ B) :=
  sums_perm List.perm_append_comm (both_wf ha.wf hb.wf)
theorem Nice.right2 {A B : List Ch} (ha : Nice A) (hb : Nice B) : RightP (sumsR (A ++ B)) :=
  right_sums (both_wf ha.wf hb.wf) fun x hx => (List.mem_append.1 hx).elim (ha.right.fit x) (hb.right.fit x)
theorem Nice.assoc {A B C : List Ch} (ha : Nice A) (hb : Nice B) (hc : Nice C) : sumsR (sumsR (A ++ B) ++ C) = sumsR (A ++ sumsR (B ++ C)) := by
  have h1 := ha.two hb
  have h2 := hb.two hc
  rw [h1.2.1, h2.2.1]
  refine (sums_same (both_wf (sumL_wf (both_wf ha.wf hb.wf)) hc.wf) (both_wf ha.wf (sumL_wf (both_wf hb.wf hc.wf))) fun p t => ?_).2
  rw [tot_append, tot_append, h1.2.2, h2.2.2, Int.add_assoc]
theorem tot_minus {A : List Ch} (h : ∀ x ∈ A, -12000 ≤ x.d ∧ x.d ≤ 12000) (p t : Int) : tot (minusL A) p t = -tot A p t := by
  induction A with
  | nil => rfl
  | cons x r ih =>
    have hx := h x (by simp)
    have := ih fun y hy => h y (by simp [hy])
    have e : minusL (x :: r) = negC x :: minusL r := rfl
    rw [e]
    simp only [tot]
    rw [this]
    have e2 : (negC x).d = -x.d := wr_id (by omega) (by omega)
    have e3 : (negC x).p = x.p := rfl
    have e4 : (negC x).t = x.t := rfl
    rw [e2, e3, e4]
    split <;> omega
theorem Nice.back {A : List Ch} (h : Nice A) : sumsE (A ++ minusL A) = 0 ∧ sumsR (A ++ minusL A) = [] := by
  have hw := both_wf h.wf (minusL_wf h.wf)
  have ht : ∀ p t, tot (A ++ minusL A) p t = 0 := fun p t => by rw [tot_append, tot_minus h.d]; omega
  have hs := sum_tot hw fun p t => by rw [ht]; omega
  refine ⟨hs.1, ?_⟩
  rw [hs.2.1]
  rw [List.eq_nil_iff_forall_not_mem]
  intro z hz
  have := ((sumL_is hw).2 z).1 hz
  rw [ht] at this
  exact this.1 (this.2.trans (by decide))
theorem minus_sorted {A : List Ch} (h : RightP A) : Sorted (minusL A) := by
  unfold Sorted minusL
  rw [List.pairwise_map]
  exact h.2.imp fun h => h.asymm
theorem minus_length (A : List Ch) : (minusL A).length = A.length := by unfold minusL; rw [List.length_map]

/-! the same just if each count is -/
theorem sub_of {A B : List Ch} (ha : RightP A) (hb : RightP B) (h : ∀ x ∈ A, tot B x.p x.t = x.d) : ∀ z ∈ A, z ∈ B := by
  intro z hz
  by_cases hk : ∃ y ∈ B, y.p = z.p ∧ y.t = z.t
  · obtain ⟨y, hy, hp, ht⟩ := hk
    have h1 := tot_one hb.2 hy
    rw [hp, ht, h z hz] at h1
    obtain ⟨a, b, c⟩ := y
    obtain ⟨a', b', c'⟩ := z
    simp only at hp ht h1
    subst hp ht h1
    exact hy
  · have := h z hz
    rw [tot_none (fun y hy hyk => hk ⟨y, hy, hyk⟩)] at this
    exact absurd this.symm (ha.1 z hz).2
theorem once {A B : List Ch} (ha : RightP A) (hb : RightP B) : A = B ↔ (∀ x ∈ A, tot B x.p x.t = x.d) ∧ (∀ x ∈ B, tot A x.p x.t = x.d) := by
  constructor
  · rintro rfl
    exact ⟨fun x hx => tot_one ha.2 hx, fun x hx => tot_one ha.2 hx⟩
  · rintro ⟨h1, h2⟩
    exact rising_ext ha.2 hb.2 fun z => ⟨sub_of ha hb h1 z, sub_of hb ha h2 z⟩
end Go.Proofs.YtdllgeanmlmmfaaGreatDoor.Batch
