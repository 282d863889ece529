/-
  YtlkljeedlkbkgaaGreatDoorBatchMerge
  YtlkljeedlkbkgaaGreatDoorBatchRight
  YtlkljeedlkbkgaaGreatDoorBatchMinus
  YtlkljeedlkbkgaaGreatDoorBatchRefRest
-/
import Derived.Test.YtlkljeedlkbkgaaGreatDoorBatchWeave
import Derived.Test.YtlkljeedlkbkgaaGreatDoorBatchRefSums
namespace Go.Proofs.YtlkljeedlkbkgaaGreatDoor.Batch
open Go.RowKit
set_option linter.unusedVariables false
theorem perm_wf {l l' : List Ch} (h : l.Perm l') (hw : ∀ x ∈ l', x.Wf) : ∀ x ∈ l, x.Wf := fun x hx => hw x (h.mem_iff.1 hx)
theorem sums_same {l l' : List Ch} (hl : ∀ x ∈ l, x.Wf) (hw : ∀ x ∈ l', x.Wf) (h : ∀ p t, wr (tot l p t) = wr (tot l' p t)) : sumsE l = sumsE l' ∧ sumsR l = sumsR l' := by
  have e1 : overK l = overK l' := overK_same hl hw h
  have e2 : sumL l = sumL l' := sumL_same hl hw h
  exact ⟨by unfold sumsE; rw [e1], by unfold sumsR; rw [e1, e2]⟩
theorem sums_perm {l l' : List Ch} (h : l.Perm l') (hw : ∀ x ∈ l', x.Wf) : sumsE l = sumsE l' ∧ sumsR l = sumsR l' :=
  sums_same (perm_wf h hw) hw fun p t => by rw [tot_perm h]
theorem sumsR_wf {l : List Ch} (h : ∀ x ∈ l, x.Wf) : ∀ x ∈ sumsR l, x.Wf := by
  unfold sumsR
  split
  · simp
  · exact sumL_wf h
theorem sumsR_length (l : List Ch) : (sumsR l).length ≤ l.length := by
  unfold sumsR
  split
  · simp
  · exact sumL_length l
theorem both_wf {A B : List Ch} (ha : ∀ x ∈ A, x.Wf) (hb : ∀ x ∈ B, x.Wf) : ∀ x ∈ A ++ B, x.Wf := fun x hx => (List.mem_append.1 hx).elim (ha x) (hb x)
set_option maxRecDepth 1000000 in
set_option maxHeartbeats 4000000 in
theorem merge_any {w : World} {va vb : Value} {A B : List Ch} (ha : Sl w va A) (hb : Sl w vb B) (hsa : Sorted A) (hsb : Sorted B) (hl : A.length + B.length ≤ 100000) :
    Calls Tryz.prog 54 #[va, vb] w fun e w' => ∃ v' : Value, (e = .returned (.tuple #[v', .int .i64 (sumsE (A ++ B))])) ∧ Own w' w.heap.size 72 v' (sumsR (A ++ B)) ∧ Below w.heap.size w w' := by
  have HWV := Lib.hid (weave_any ha hb hsa hsb hl)
  have HAB := Lib.hid (both_wf ha.wf hb.wf)
  have HL := Lib.hid hl
  obtain ⟨aa, ca, rfl, _⟩ := ha
  obtain ⟨ab, cb, rfl, _⟩ := hb
  clear hsa hsb hl
  go_enter Tryz.func54, Tryz.ntmps54
  go_wp2_with fail
  go_at_call 101
  refine HWV.out.mono ?_
  rintro e w1 ⟨v1, l, rfl, hperm, hsl, hown1, hb1⟩
  have hlen : l.length ≤ 100000 := by have := hperm.length_eq; have := HL.out; simp only [List.length_append] at *; omega
  have hrd := (hown1.rd (perm_wf hperm HAB.out))
  have HS := Lib.hid (sums_any hrd hsl hlen)
  have HP := Lib.hid (sums_perm hperm HAB.out)
  have HB1 := Lib.hid hb1
  obtain ⟨ao, cap, rfl, _⟩ := hrd
  clear hperm hsl hown1 hb1 hlen
  go_wp2_with fail
  go_at_call 100
  refine HS.out.mono ?_
  rintro e w2 ⟨v2, rfl, hown2, hb2⟩
  have HO2 := Lib.hid (hown2.mono HB1.out.size)
  have HB2 := Lib.hid (HB1.out.trans (hb2.mono HB1.out.size))
  clear hown2 hb2
  go_wp2_with fail
  go_ret2
  refine ⟨_, ret_two HP.out.1, ?_, HB2.out⟩
  rw [← HP.out.2]
  exact HO2.out
def firstWrong : List Ch → Int
  | [] => 0
  | x :: r => if wrongN x ≠ 0 then wrongN x else firstWrong r
def packE (l : List Ch) : Int := if 16 < l.length then 4 else if firstWrong l ≠ 0 then firstWrong l else sumsE l
def packR (l : List Ch) : List Ch := if 16 < l.length ∨ firstWrong l ≠ 0 then [] else sumsR l
theorem firstWrong_none {l : List Ch} (h : ∀ x ∈ l, wrongN x = 0) : firstWrong l = 0 := by
  induction l with
  | nil => rfl
  | cons x r ih => unfold firstWrong; rw [if_neg (fun hn => hn (h x (by simp)))]; exact ih (fun y hy => h y (by simp [hy]))
theorem firstWrong_at {l : List Ch} {i : Nat} {x : Ch} (hx : l[i]? = some x) (h : ∀ y ∈ l.take i, wrongN y = 0) (hn : wrongN x ≠ 0) : firstWrong l = wrongN x := by
  induction l generalizing i with
  | nil => simp at hx
  | cons y r ih =>
    cases i with
    | zero => simp at hx; subst hx; unfold firstWrong; rw [if_pos hn]
    | succ k =>
      unfold firstWrong
      rw [if_neg (fun hn => hn (h y (by simp)))]
      exact ih (by simpa using hx) (fun z hz => h z (by simp [hz]))
theorem pack_many {l : List Ch} (h : 16 < l.length) : packE l = 4 ∧ packR l = [] := ⟨if_pos h, if_pos (.inl h)⟩
theorem pack_wrong {l : List Ch} (h : ¬ 16 < l.length) (hn : firstWrong l ≠ 0) : packE l = firstWrong l ∧ packR l = [] := ⟨by unfold packE; rw [if_neg h, if_pos hn], if_pos (.inr hn)⟩
theorem pack_ok {l : List Ch} (h : ¬ 16 < l.length) (hn : firstWrong l = 0) : packE l = sumsE l ∧ packR l = sumsR l := ⟨by unfold packE; rw [if_neg h, if_neg (fun h => h hn)], if_neg (fun h' => h'.elim h (fun h => h hn))⟩
set_option maxRecDepth 1000000 in
set_option maxHeartbeats 8000000 in
theorem pack_any {w : World} {v : Value} {l : List Ch} (hv : Sl w v l) :
    Calls Tryz.prog 56 #[v] w fun e w' => ∃ v' : Value, (e = .returned (.tuple #[v', .int .i64 (packE l)])) ∧ Own w' w.heap.size 72 v' (packR l) ∧ Below w.heap.size w w' := by
  have HV := Lib.hid hv
  have HWF := Lib.hid hv.wf
  obtain ⟨ao, cap, rfl, hcell, hlc, hcm, _⟩ := hv
  have HC := Lib.hid hcell
  have hlen : l.length ≤ 9223372036854775807 := by omega
  clear hcell hlc hcm
  by_cases h16 : 16 < l.length
  · have HR := Lib.hid (pack_many h16)
    have h16' : (16 : Int) < (l.length : Int) := by omega
    clear h16
    go_enter Tryz.func56, Tryz.ntmps56
    go_wp2
    go_ret2
    refine ⟨_, ret_two HR.out.1.symm, ?_, Below.refl _ _⟩
    rw [HR.out.2]
    exact Own.nil _ _ _
  · have H16 := Lib.hid h16
    have h16' : ¬ ((16 : Int) < (l.length : Int)) := by omega
    have hl16 : l.length ≤ 16 := by omega
    clear h16
    go_enter Tryz.func56, Tryz.ntmps56
    go_wp2
    go_loopg [13] l.length (fun k t wr => ∃ i : Nat, i + k = l.length ∧ t = .int .i64 i ∧ (∀ y ∈ l.take i, wrongN y = 0) ∧ Below w.heap.size w wr)
    case atStart => exact ⟨0, by omega, rfl, by simp, Below.refl _ _⟩
    case round =>
      obtain ⟨i, hik, rfl, hok, hbw⟩ := hrel
      have HIK := Lib.hid hik
      have HOK := Lib.hid hok
      have HBW := Lib.hid hbw
      clear hok hbw hik
      by_cases hlt1 : i < l.length
      · obtain ⟨x, hx, hxm⟩ := at_of hlt1
        obtain ⟨b, off, rfl, hcc⟩ := HC.out.resolve_left (fun h => by rw [h.2] at hlt1; simp at hlt1)
        have q := hcc i x hx
        have hbl := q.lt
        obtain ⟨c0, c1, c2⟩ := q.below HBW.out hbl
        have HX := Lib.hid hx
        have hi0' : (0 : Int) ≤ (i : Int) := Int.natCast_nonneg _
        have hi1 : (i : Int) < (l.length : Int) := by omega
        have HW := Lib.hid (fun W => wrong_any x W)
        have HLT := Lib.hid hlt1
        have hbs : w.heap.size ≤ wr.heap.size := HBW.out.size
        by_cases hn : wrongN x = 0
        · have hne : (wrongN x != 0) = false := by rw [hn]; rfl
          have HOK2 := Lib.hid (show ∀ y ∈ l.take (i + 1), wrongN y = 0 by
            intro y hy
            rw [take_succ' hx] at hy
            rcases List.mem_append.1 hy with hy | hy
            · exact HOK.out y hy
            · simp at hy; subst hy; exact hn)
          obtain ⟨p, t, d⟩ := x
          simp only at c0 c1 c2
          clear hx hxm hcc q hbl hn
          go_wp2_with fail
          go_at_call 102
          refine (HW.out _).mono ?_
          rintro e w1 ⟨rfl, hb1⟩
          have hbb : Below w.heap.size w w1 := (HBW.out.alloc hbs _).trans (hb1.mono (by simp; omega))
          have HB := Lib.hid hbb
          clear hb1 hbb
          go_wp2_with fail
          go_roundg (gk - 1)
          case measure => have := HIK.out; have := HLT.out; omega
          case rel => exact ⟨i + 1, by have := HIK.out; have := HLT.out; omega, by go_num, HOK2.out, HB.out⟩
        · have hne : (wrongN x != 0) = true := by rw [bne_iff_ne]; exact hn
          have e1 := firstWrong_at hx HOK.out hn
          have HR := Lib.hid (pack_wrong H16.out (by rw [e1]; exact hn))
          have HE1 := Lib.hid e1
          obtain ⟨p, t, d⟩ := x
          simp only at c0 c1 c2
          clear hx hxm hcc q hbl hn e1
          go_wp2_with fail
          go_at_call 102
          refine (HW.out _).mono ?_
          rintro e w1 ⟨rfl, hb1⟩
          have hbb : Below w.heap.size w w1 := (HBW.out.alloc hbs _).trans (hb1.mono (by simp; omega))
          have HB := Lib.hid hbb
          clear hb1 hbb
          go_wp2_with fail
          go_ret2
          refine ⟨_, ret_two (HR.out.1.trans HE1.out).symm, ?_, HB.out⟩
          rw [HR.out.2]
          exact Own.nil _ _ _
      · have HALL := Lib.hid (show ∀ y ∈ l, wrongN y = 0 by
          intro y hy
          exact HOK.out y (by rw [take_all (by omega)]; exact hy))
        have HR := Lib.hid (pack_ok H16.out (firstWrong_none HALL.out))
        have HVr := Lib.hid (HV.out.below HBW.out)
        have HCL := Lib.hid (clone_any HVr.out (by omega))
        go_wp2_with fail
        go_at_call 103
        refine HCL.out.mono ?_
        rintro e w1 ⟨v1, rfl, hown1, hb1⟩
        have HS := Lib.hid (sort_any hown1 hb1.size (by omega))
        have HB1 := Lib.hid (HBW.out.trans (hb1.mono HBW.out.size))
        have HH1 := Lib.hid hb1.size
        clear hown1 hb1
        go_wp2_with fail
        go_at_call 104
        refine HS.out.mono ?_
        rintro e w2 ⟨rfl, l', hperm, hsl, hown2, hb2⟩
        have hlen2 : l'.length ≤ 100000 := by have := hperm.length_eq; omega
        have hrd := hown2.rd (perm_wf hperm HWF.out)
        have HS2 := Lib.hid (sums_any hrd hsl hlen2)
        have HP := Lib.hid (sums_perm hperm HWF.out)
        have HB2 := Lib.hid (HB1.out.trans (hb2.mono HBW.out.size))
        clear hperm hsl hown2 hb2 hlen2 hrd
        go_wp2_with fail
        go_at_call 100
        refine HS2.out.mono ?_
        rintro e w3 ⟨v3, rfl, hown3, hb3⟩
        have HO3 := Lib.hid (hown3.mono HB2.out.size)
        have HB3 := Lib.hid (HB2.out.trans (hb3.mono HB2.out.size))
        clear hown3 hb3
        go_wp2_with fail
        go_ret2
        refine ⟨_, ret_two (HP.out.1.trans HR.out.1.symm), ?_, HB3.out⟩
        rw [HR.out.2, ← HP.out.2]
        exact HO3.out
end Go.Proofs.YtlkljeedlkbkgaaGreatDoor.Batch
namespace Go.Proofs.YtlkljeedlkbkgaaGreatDoor.Batch
open Go.RowKit
set_option linter.unusedVariables false
def RightP (l : List Ch) : Prop := (∀ x ∈ l, wrongN x = 0 ∧ x.d ≠ 0) ∧ l.Pairwise Lt
end Go.Proofs.YtlkljeedlkbkgaaGreatDoor.Batch
namespace Go.Proofs.YtlkljeedlkbkgaaGreatDoor.Batch
open Go.RowKit
set_option linter.unusedVariables false
end Go.Proofs.YtlkljeedlkbkgaaGreatDoor.Batch
namespace Go.Proofs.YtlkljeedlkbkgaaGreatDoor.Batch
open Go.RowKit Go.Lib
set_option linter.unusedVariables false
theorem neqRf : NeqAt Tryz.prog 67 (fun x : Ch => .agg (Ch.cells x).toArray) eqCh := by
  refine ⟨fun x y w => ?_, GuardAt.agg _ (by kernel_rfl)⟩
  have u3 := Tryz.underlying3
  have a3 := Tryz.isAgg3
  have z3 := Tryz.sizeOf3
  have u2 := Tryz.underlying2
  have a2 := Tryz.isAgg2
  have z2 := Tryz.sizeOf2
  have u42 := Tryz.underlying36
  have a42 := Tryz.isAgg36
  have z42 := Tryz.sizeOf36
  have hS : Tryz.prog.underlying 67 = some (.struct (Tryz.prog.fieldsOf 67)) := by kernel_rfl
  have hp : Tryz.prog.stoodInHeld 67 = false := by kernel_rfl
  simp only [Ch.cells]
  rw [run_neq_struct, show (10000 : Nat) = 9999 + 1 from rfl, run_equalIn_agg w 9999 67 _ _ hS hp]
  simp only [Program.fieldsOf, Tryz.underlying67]
  go_simp
  unfold eqCh
  by_cases h1 : x.p = y.p <;> by_cases h2 : x.t = y.t <;> by_cases h3 : x.d = y.d <;> simp [h1, h2, h3]
theorem neqRf' (x y : Ch) (w : World) : (binOp .neq 67 (.agg #[.int .i64 x.p, .int .u64 x.t, .int .i64 x.d]) (.agg #[.int .i64 y.p, .int .u64 y.t, .int .i64 y.d])).run Tryz.prog w = .ok (.bool (!eqCh x y)) w := neqRf.1 x y w
theorem eqCh_false {x y : Ch} (h : x ≠ y) : eqCh x y = false := by
  cases e : eqCh x y
  · rfl
  · exact absurd ((eqCh_iff x y).1 e) h
def SameTo (a b : List Ch) (i : Nat) : Prop := a.take i = b.take i
theorem SameTo.step {a b : List Ch} {i : Nat} {x : Ch} (h : SameTo a b i) (ha : a[i]? = some x) (hb : b[i]? = some x) : SameTo a b (i + 1) := by
  unfold SameTo at *
  rw [take_succ' ha, take_succ' hb, h]
theorem SameTo.all {a b : List Ch} {i : Nat} (h : SameTo a b i) (ha : a.length ≤ i) (hb : b.length ≤ i) : eqL a b = true := by
  unfold SameTo at h
  rw [take_all ha, take_all hb] at h
  rw [h]
  exact eqL_self b
theorem not_same {a b : List Ch} {i : Nat} {x y : Ch} (ha : a[i]? = some x) (hb : b[i]? = some y) (h : x ≠ y) : eqL a b = false :=
  eqL_false fun e => h (by rw [e, hb] at ha; exact (Option.some.inj ha).symm)
set_option maxRecDepth 1000000 in
set_option maxHeartbeats 4000000 in
theorem refsame_any {w : World} {v1 v2 : Value} {a b : List Ch} (h1 : Rd w v1 a) (h2 : Rd w v2 b) :
    Calls Tryz.prog 41 #[v1, v2] w fun e w' => e = .returned (.bool (eqL a b)) ∧ Below w.heap.size w w' := by
  obtain ⟨ao1, cap1, rfl, hc1, hm1, _, k1⟩ := h1
  obtain ⟨ao2, cap2, rfl, hc2, hm2, _, k2⟩ := h2
  have K1 := Lib.hid k1
  have K2 := Lib.hid k2
  have hl1 : a.length ≤ 9223372036854775807 := by omega
  have hl2 : b.length ≤ 9223372036854775807 := by omega
  clear k1 k2 hc1 hc2 hm1 hm2
  by_cases hn : a.length = b.length
  · have HN := Lib.hid hn
    have hne : ((a.length : Int) != (b.length : Int)) = false := by rw [hn]; simp
    clear hn
    go_enter Tryz.func41, Tryz.ntmps41
    go_wp2
    go_loopg [5] a.length (fun k t wr => ∃ i : Nat, i + k = a.length ∧ t = .int .i64 i ∧ SameTo a b i ∧ ∃ q, wr = w.drewN q)
    case atStart => exact ⟨0, by omega, rfl, by unfold SameTo; simp, 0, rfl⟩
    case round =>
      obtain ⟨i, hik, rfl, hsm, q, rfl⟩ := hrel
      have HIK := Lib.hid hik
      have HS := Lib.hid hsm
      clear hsm hik
      by_cases hlt : i < a.length
      · obtain ⟨x, hx, _⟩ := at_of hlt
        obtain ⟨y, hy, _⟩ := at_of (show i < b.length by have := HN.out; omega)
        obtain ⟨b1, o1, ha1, c1⟩ := K1.out.resolve_left (by intro e; rw [e] at hlt; simp at hlt)
        obtain ⟨b2, o2, ha2, c2⟩ := K2.out.resolve_left (by intro e; rw [e] at hy; simp at hy)
        subst ha1 ha2
        obtain ⟨x0, x1, x2⟩ := c1 i x hx
        obtain ⟨y0, y1, y2⟩ := c2 i y hy
        have hi0 : (0 : Int) ≤ (i : Int) := Int.natCast_nonneg _
        have hi1 : (i : Int) < (a.length : Int) := by omega
        have hi2 : (i : Int) < (b.length : Int) := by have := HN.out; omega
        have HLT := Lib.hid hlt
        have hrun := neqRf' x y
        by_cases hxy : x = y
        · have HNEW := Lib.hid (HS.out.step hx (by rw [hxy]; exact hy))
          have he : eqCh x y = true := (eqCh_iff x y).2 hxy
          rw [he] at hrun
          clear hx hy c1 c2 K1 K2 hxy he
          go_wp2_with fail
          go_quiet (fail)
          go_wp2_with fail
          go_roundg (gk - 1)
          case measure => have := HIK.out; have := HLT.out; omega
          case rel => exact ⟨i + 1, by have := HIK.out; have := HLT.out; omega, by go_num, HNEW.out, _, rfl⟩
        · have HNEW := Lib.hid (not_same hx hy hxy)
          have he : eqCh x y = false := eqCh_false hxy
          rw [he] at hrun
          clear hx hy c1 c2 K1 K2 hxy he
          go_wp2_with fail
          go_quiet (fail)
          go_wp2_with fail
          go_ret
          exact ⟨by rw [HNEW.out]; rfl, below_drewN (below_drewN (Below.refl _ _) _) _⟩
      · have HD := Lib.hid (HS.out.all (by omega) (by have := HN.out; omega))
        go_wp2_with fail
        go_ret
        exact ⟨by rw [HD.out]; rfl, below_drewN (Below.refl _ _) _⟩
  · have HN := Lib.hid (eqL_false (a := a) (b := b) (fun e => hn (by rw [e])))
    have hne : ((a.length : Int) != (b.length : Int)) = true := by rw [bne_iff_ne]; omega
    clear hn
    go_enter Tryz.func41, Tryz.ntmps41
    go_wp2
    go_ret
    exact ⟨by rw [HN.out]; rfl, Below.refl _ _⟩
set_option maxRecDepth 1000000 in
set_option maxHeartbeats 4000000 in
theorem refpack_any {w : World} {v : Value} {l : List Ch} (hv : Rd w v l) :
    Calls Tryz.prog 75 #[v] w fun e w' => ∃ v' : Value, (e = .returned (.tuple #[v', .int .i64 (packE l)])) ∧ Own w' w.heap.size 67 v' (packR l) ∧ Below w.heap.size w w' := by
  have HV0 := Lib.hid hv
  obtain ⟨ao, cap, rfl, hlc, hcm, _, hcell⟩ := hv
  have HC := Lib.hid hcell
  have hlen : l.length ≤ 9223372036854775807 := by omega
  clear hcell hlc hcm
  by_cases h16 : 16 < l.length
  · have HR := Lib.hid (pack_many h16)
    have h16' : (16 : Int) < (l.length : Int) := by omega
    clear h16
    go_enter Tryz.func75, Tryz.ntmps75
    go_wp2
    go_ret2
    refine ⟨_, ret_two HR.out.1.symm, ?_, Below.refl _ _⟩
    rw [HR.out.2]
    exact Own.nil _ _ _
  · have H16 := Lib.hid h16
    have h16' : ¬ ((16 : Int) < (l.length : Int)) := by omega
    have HS := Lib.hid (refsums_any HV0.out (by omega))
    clear h16
    go_enter Tryz.func75, Tryz.ntmps75
    go_wp2
    go_loopg [4] l.length (fun k t wr => ∃ i : Nat, i + k = l.length ∧ t = .int .i64 i ∧ (∀ y ∈ l.take i, wrongN y = 0) ∧ wr = w)
    case atStart => exact ⟨0, by omega, rfl, by simp, rfl⟩
    case round =>
      obtain ⟨i, hik, rfl, hok, hwr⟩ := hrel
      subst wr
      have HIK := Lib.hid hik
      have HOK := Lib.hid hok
      clear hok hik
      by_cases hlt1 : i < l.length
      · obtain ⟨x, hx, hxm⟩ := at_of hlt1
        obtain ⟨b, off, hao, hcc⟩ := HC.out.resolve_left (by intro e; rw [e] at hlt1; simp at hlt1)
        subst hao
        obtain ⟨c0, c1, c2⟩ := hcc i x hx
        have HX := Lib.hid hx
        have hi0' : (0 : Int) ≤ (i : Int) := Int.natCast_nonneg _
        have hi1 : (i : Int) < (l.length : Int) := by omega
        have HLT := Lib.hid hlt1
        clear hx hxm hcc HC
        by_cases hp0 : x.p < 0
        · have HV := Lib.hid (show wrongN x = 2 from if_pos (.inl hp0))
          have HW := Lib.hid (show wrongN x ≠ 0 by rw [HV.out]; decide)
          have hj0 : decide (x.p < 0) = true := decide_eq_true hp0
          clear hp0
          have HR := Lib.hid (pack_wrong H16.out (by rw [firstWrong_at HX.out HOK.out HW.out]; exact HW.out))
          have HE := Lib.hid ((firstWrong_at HX.out HOK.out HW.out).trans HV.out)
          obtain ⟨p, t, d⟩ := x
          simp only at c0 c1 c2 hj0
          go_wp2_with fail
          go_ret2
          refine ⟨_, ret_two ((HR.out.1.trans HE.out).symm), ?_, Below.refl _ _⟩
          rw [HR.out.2]
          exact Own.nil _ _ _
        have hj0 : decide (x.p < 0) = false := decide_eq_false hp0
        by_cases hp1 : 64 ≤ x.p
        · have HV := Lib.hid (show wrongN x = 2 from if_pos (.inr hp1))
          have HW := Lib.hid (show wrongN x ≠ 0 by rw [HV.out]; decide)
          have hj1 : decide (63 < x.p) = true := decide_eq_true (by omega)
          clear hp0 hp1
          have HR := Lib.hid (pack_wrong H16.out (by rw [firstWrong_at HX.out HOK.out HW.out]; exact HW.out))
          have HE := Lib.hid ((firstWrong_at HX.out HOK.out HW.out).trans HV.out)
          obtain ⟨p, t, d⟩ := x
          simp only at c0 c1 c2 hj0 hj1
          go_wp2_with fail
          go_ret2
          refine ⟨_, ret_two ((HR.out.1.trans HE.out).symm), ?_, Below.refl _ _⟩
          rw [HR.out.2]
          exact Own.nil _ _ _
        have hj1 : decide (63 < x.p) = false := decide_eq_false (by omega)
        by_cases ht0 : x.t = 18446744073709551615
        · have HV := Lib.hid (show wrongN x = 1 by unfold wrongN; rw [if_neg (fun h => h.elim hp0 hp1), if_pos ht0])
          have HW := Lib.hid (show wrongN x ≠ 0 by rw [HV.out]; decide)
          have hj2 : (x.t == 18446744073709551615) = true := by rw [beq_iff_eq]; exact ht0
          clear hp0 hp1 ht0
          have HR := Lib.hid (pack_wrong H16.out (by rw [firstWrong_at HX.out HOK.out HW.out]; exact HW.out))
          have HE := Lib.hid ((firstWrong_at HX.out HOK.out HW.out).trans HV.out)
          obtain ⟨p, t, d⟩ := x
          simp only at c0 c1 c2 hj0 hj1 hj2
          go_wp2_with fail
          go_ret2
          refine ⟨_, ret_two ((HR.out.1.trans HE.out).symm), ?_, Below.refl _ _⟩
          rw [HR.out.2]
          exact Own.nil _ _ _
        have hj2 : (x.t == 18446744073709551615) = false := by rw [beq_eq_false_iff_ne]; exact ht0
        cases ho : overB x.d
        rotate_left 1
        · have HV := Lib.hid (show wrongN x = 10 by unfold wrongN; rw [if_neg (fun h => h.elim hp0 hp1), if_neg ht0, if_pos (show overB x.d = true from ho)])
          have HW := Lib.hid (show wrongN x ≠ 0 by rw [HV.out]; decide)
          clear hp0 hp1 ht0
          have HR := Lib.hid (pack_wrong H16.out (by rw [firstWrong_at HX.out HOK.out HW.out]; exact HW.out))
          have HE := Lib.hid ((firstWrong_at HX.out HOK.out HW.out).trans HV.out)
          obtain ⟨p, t, d⟩ := x
          simp only at c0 c1 c2 hj0 hj1 hj2 ho
          go_wp2_with (go_at_call 111; refine (within_any _ _).mono ?_; rintro e w' ⟨rfl, rfl⟩)
          go_ret2
          refine ⟨_, ret_two ((HR.out.1.trans HE.out).symm), ?_, Below.refl _ _⟩
          rw [HR.out.2]
          exact Own.nil _ _ _
        have HV := Lib.hid (show wrongN x = 0 by unfold wrongN; rw [if_neg (fun h => h.elim hp0 hp1), if_neg ht0, if_neg (by show ¬ overB x.d = true; rw [ho]; decide)])
        have HOK2 := Lib.hid (show ∀ y ∈ l.take (i + 1), wrongN y = 0 by
          intro y hy
          rw [take_succ' HX.out] at hy
          rcases List.mem_append.1 hy with hy | hy
          · exact HOK.out y hy
          · simp at hy; subst hy; exact HV.out)
        obtain ⟨p, t, d⟩ := x
        simp only at c0 c1 c2 hj0 hj1 hj2 ho
        clear hp0 hp1 ht0
        go_wp2_with (go_at_call 111; refine (within_any _ _).mono ?_; rintro e w' ⟨rfl, rfl⟩)
        go_roundg (gk - 1)
        case measure => have := HIK.out; have := HLT.out; omega
        case rel => exact ⟨i + 1, by have := HIK.out; have := HLT.out; omega, by go_num, HOK2.out, rfl⟩
      · have HF := Lib.hid (firstWrong_none (l := l) (by have h := HOK.out; rw [take_all (by omega)] at h; exact h))
        have HP := Lib.hid (pack_ok H16.out HF.out)
        have HO0 := Lib.hid (fun h : overK l = true => sums_over h)
        have HO1 := Lib.hid (fun h : overK l = false => sums_ok h)
        go_wp2_with fail
        go_at_call 106
        refine HS.out.mono ?_
        rintro e w1 ⟨v1, rfl, hown1, hb1⟩
        have HO := Lib.hid hown1
        have HB := Lib.hid hb1
        clear hown1 hb1
        cases ho : overK l
        · go_wp2_with fail
          go_ret2
          refine ⟨_, ret_two ((HP.out.1.trans (HO1.out ho).1).symm), ?_, HB.out⟩
          rw [HP.out.2]
          exact HO.out
        · go_wp2_with fail
          go_ret2
          refine ⟨_, ret_two ((HP.out.1.trans (HO0.out ho).1).symm), ?_, HB.out⟩
          rw [HP.out.2, (HO0.out ho).2]
          exact Own.nil _ _ _
end Go.Proofs.YtlkljeedlkbkgaaGreatDoor.Batch
