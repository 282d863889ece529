/-
  PACKAGE batch: Merge and Pack.
  PACKAGE batch: Right.
  PACKAGE batch: Minus.
  PACKAGE marchlandref03: Same, Pack, Minus, Fix, Merge.
  marchlandref18: Same, of any two Cmds.
-/
import Derived.Test.YtdbaacalfbbdiaaGreatDoorJoined10
import Derived.Test.YtdbaacalfbbdiaaGreatDoorScLine2
namespace Go.Proofs.YtdbaacalfbbdiaaGreatDoor.Batch
open Go.RowKit
set_option linter.unusedVariables false

theorem perm_wf {l l' : List Ch} (h : l.Perm l') (hw : ∀ x ∈ l', x.Wf) : ∀ x ∈ l, x.Wf := fun x hx => hw x (h.mem_iff.1 hx)
theorem sums_same {l l' : List Ch} (hl : ∀ x ∈ l, x.Wf) (hw : ∀ x ∈ l', x.Wf) (h : ∀ p t, wr (tot l p t) = wr (tot l' p t)) : sumsE l = sumsE l' ∧ sumsR l = sumsR l' := by
  have e1 : overK l = overK l' := overK_same hl hw h
  have e2 : sumL l = sumL l' := sumL_same hl hw h
  exact ⟨by unfold sumsE; rw [e1], by unfold sumsR; rw [e1, e2]⟩
theorem sums_perm {l l' : List Ch} (h : l.Perm l') (hw : ∀ x ∈ l', x.Wf) : sumsE l = sumsE l' ∧ sumsR l = sumsR l' :=
  sums_same (perm_wf h hw) hw fun p t => by rw [tot_perm h]
theorem sumsR_wf {l : List Ch} (h : ∀ x ∈ l, x.Wf) : ∀ x ∈ sumsR l, x.Wf := by
  unfold sumsR
  split
  · simp
  · exact sumL_wf h
theorem sumsR_length (l : List Ch) : (sumsR l).length ≤ l.length := by
  unfold sumsR
  split
  · simp
  · exact sumL_length l
theorem both_wf {A B : List Ch} (ha : ∀ x ∈ A, x.Wf) (hb : ∀ x ∈ B, x.Wf) : ∀ x ∈ A ++ B, x.Wf := fun x hx => (List.mem_append.1 hx).elim (ha x) (hb x)

def firstWrong : List Ch → Int
  | [] => 0
  | x :: r => if wrongN x ≠ 0 then wrongN x else firstWrong r
def packE (l : List Ch) : Int := if 16 < l.length then 4 else if firstWrong l ≠ 0 then firstWrong l else sumsE l
def packR (l : List Ch) : List Ch := if 16 < l.length ∨ firstWrong l ≠ 0 then [] else sumsR l
theorem firstWrong_none {l : List Ch} (h : ∀ x ∈ l, wrongN x = 0) : firstWrong l = 0 := by
  induction l with
  | nil => rfl
  | cons x r ih => unfold firstWrong; rw [if_neg (fun hn => hn (h x (by simp)))]; exact ih (fun y hy => h y (by simp [hy]))
theorem firstWrong_at {l : List Ch} {i : Nat} {x : Ch} (hx : l[i]? = some x) (h : ∀ y ∈ l.take i, wrongN y = 0) (hn : wrongN x ≠ 0) : firstWrong l = wrongN x := by
  induction l generalizing i with
  | nil => simp at hx
  | cons y r ih =>
    cases i with
    | zero => simp at hx; subst hx; unfold firstWrong; rw [if_pos hn]
    | succ k =>
      unfold firstWrong
      rw [if_neg (fun hn => hn (h y (by simp)))]
      exact ih (by simpa using hx) (fun z hz => h z (by simp [hz]))
theorem pack_many {l : List Ch} (h : 16 < l.length) : packE l = 4 ∧ packR l = [] := ⟨if_pos h, if_pos (.inl h)⟩
theorem pack_wrong {l : List Ch} (h : ¬ 16 < l.length) (hn : firstWrong l ≠ 0) : packE l = firstWrong l ∧ packR l = [] := ⟨by unfold packE; rw [if_neg h, if_pos hn], if_pos (.inr hn)⟩
theorem pack_ok {l : List Ch} (h : ¬ 16 < l.length) (hn : firstWrong l = 0) : packE l = sumsE l ∧ packR l = sumsR l := ⟨by unfold packE; rw [if_neg h, if_neg (fun h => h hn)], if_neg (fun h' => h'.elim h (fun h => h hn))⟩

end Go.Proofs.YtdbaacalfbbdiaaGreatDoor.Batch
namespace Go.Proofs.YtdbaacalfbbdiaaGreatDoor.Batch
open Go.RowKit
set_option linter.unusedVariables false

def RightP (l : List Ch) : Prop := (∀ x ∈ l, wrongN x = 0 ∧ x.d ≠ 0) ∧ l.Pairwise Lt
noncomputable def rightB (l : List Ch) : Bool := @decide (RightP l) (Classical.propDecidable _)
theorem rightB_iff (l : List Ch) : rightB l = true ↔ RightP l := by unfold rightB; exact @decide_eq_true_iff _ (Classical.propDecidable _)
theorem rightB_true {l : List Ch} (h : RightP l) : rightB l = true := (rightB_iff l).2 h
theorem rightB_false {l : List Ch} (h : ¬ RightP l) : rightB l = false := by
  cases e : rightB l
  · rfl
  · exact absurd ((rightB_iff l).1 e) h
theorem right_start (l : List Ch) : RightP (l.take 0) := ⟨by simp, by simp⟩
theorem right_step0 {l : List Ch} {x : Ch} (hx : l[0]? = some x) (h0 : wrongN x = 0) (h1 : x.d ≠ 0) : RightP (l.take 1) := by
  rw [take_succ' hx]
  exact ⟨fun y hy => by simp at hy; subst hy; exact ⟨h0, h1⟩, by simp⟩
theorem right_step {l : List Ch} {k : Nat} {x y : Ch} (h : RightP (l.take (k + 1))) (hy : l[k]? = some y) (hx : l[k + 1]? = some x) (h0 : wrongN x = 0) (h1 : x.d ≠ 0) (h2 : Lt y x) : RightP (l.take (k + 1 + 1)) := by
  rw [take_succ' hx]
  refine ⟨fun z hz => ?_, ?_⟩
  · rcases List.mem_append.1 hz with hz | hz
    · exact h.1 z hz
    · simp at hz; subst hz; exact ⟨h0, h1⟩
  · rw [List.pairwise_append]
    refine ⟨h.2, by simp, fun z hz q hq => ?_⟩
    simp at hq
    subst hq
    have e := take_succ' hy
    rw [e] at hz
    rcases List.mem_append.1 hz with hz | hz
    · have hp := h.2
      rw [e, List.pairwise_append] at hp
      exact (hp.2.2 z hz y (by simp)).trans h2
    · simp at hz; subst hz; exact h2
theorem right_not1 {l : List Ch} {i : Nat} {x : Ch} (hx : l[i]? = some x) (h : wrongN x ≠ 0 ∨ x.d = 0) : ¬ RightP l := fun hr => by
  have := hr.1 x (List.mem_of_getElem? hx)
  rcases h with h | h
  · exact h this.1
  · exact this.2 h
theorem right_not2 {l : List Ch} {k : Nat} {x y : Ch} (hy : l[k]? = some y) (hx : l[k + 1]? = some x) (h : ¬ Lt y x) : ¬ RightP l := fun hr => by
  obtain ⟨h1, e1⟩ := List.getElem?_eq_some_iff.1 hy
  obtain ⟨h2, e2⟩ := List.getElem?_eq_some_iff.1 hx
  have := (List.pairwise_iff_getElem.1 hr.2) k (k + 1) h1 h2 (by omega)
  rw [e1, e2] at this
  exact h this

end Go.Proofs.YtdbaacalfbbdiaaGreatDoor.Batch
namespace Go.Proofs.YtdbaacalfbbdiaaGreatDoor.Batch
open Go.RowKit
set_option linter.unusedVariables false

def negC (x : Ch) : Ch := ⟨x.p, x.t, wr (-x.d)⟩
def minusL (l : List Ch) : List Ch := l.map negC
theorem negC_wf {x : Ch} (h : x.Wf) : (negC x).Wf := ⟨h.p0, h.p1, h.t0, h.t1, (wr_range _).1, (wr_range _).2⟩
theorem minusL_wf {l : List Ch} (h : ∀ x ∈ l, x.Wf) : ∀ x ∈ minusL l, x.Wf := by
  intro x hx
  obtain ⟨y, hy, rfl⟩ := List.mem_map.1 hx
  exact negC_wf (h y hy)
def negTo (l : List Ch) (i : Nat) : List Ch := (l.take i).map negC ++ l.drop i
theorem negTo_start (l : List Ch) : negTo l 0 = l := by unfold negTo; simp
theorem negTo_done {l : List Ch} {i : Nat} (h : l.length ≤ i) : negTo l i = minusL l := by unfold negTo minusL; rw [take_all h, List.drop_of_length_le h, List.append_nil]
theorem negTo_length {l : List Ch} {i : Nat} (h : i ≤ l.length) : (negTo l i).length = l.length := by unfold negTo; simp; omega
theorem negTo_at {l : List Ch} {i : Nat} {x : Ch} (h : l[i]? = some x) : (negTo l i)[i]? = some x := by
  have hl := (List.getElem?_eq_some_iff.1 h).1
  unfold negTo
  rw [List.getElem?_append_right (by simp; omega)]
  simp only [List.length_map, List.length_take]
  rw [List.getElem?_drop, show i + (i - min i l.length) = i by omega]
  exact h
theorem negTo_step {l : List Ch} {i : Nat} {x : Ch} (h : l[i]? = some x) : (negTo l i).set i (negC x) = negTo l (i + 1) := by
  have hl := (List.getElem?_eq_some_iff.1 h).1
  unfold negTo
  rw [List.set_append_right _ _ (by simp; omega)]
  have e : l.drop i = x :: l.drop (i + 1) := by
    rw [List.drop_eq_getElem_cons hl]
    rw [List.getElem?_eq_getElem hl] at h
    rw [Option.some.inj h]
  rw [e, take_succ' h]
  simp only [List.length_map, List.length_take, List.map_append, List.map_cons, List.map_nil]
  rw [show i - min i l.length = 0 by omega, List.set_cons_zero]
  simp

end Go.Proofs.YtdbaacalfbbdiaaGreatDoor.Batch
namespace Go.Proofs.YtdbaacalfbbdiaaGreatDoor.Batch
open Go.RowKit Go.Lib
set_option linter.unusedVariables false

theorem neqRf : NeqAt Tryz.prog 117 (fun x : Ch => .agg (Ch.cells x).toArray) eqCh := by
  refine ⟨fun x y w => ?_, GuardAt.agg _ (by kernel_rfl)⟩
  have u3 := Tryz.underlying3
  have a3 := Tryz.isAgg3
  have z3 := Tryz.sizeOf3
  have u2 := Tryz.underlying2
  have a2 := Tryz.isAgg2
  have z2 := Tryz.sizeOf2
  have u42 := Tryz.underlying22
  have a42 := Tryz.isAgg22
  have z42 := Tryz.sizeOf22
  have hS : Tryz.prog.underlying 117 = some (.struct (Tryz.prog.fieldsOf 117)) := by kernel_rfl
  have hp : Tryz.prog.stoodInHeld 117 = false := by kernel_rfl
  simp only [Ch.cells]
  rw [run_neq_struct, show (10000 : Nat) = 9999 + 1 from rfl, run_equalIn_agg w 9999 117 _ _ hS hp]
  simp only [Program.fieldsOf, Tryz.underlying117]
  go_simp
  unfold eqCh
  by_cases h1 : x.p = y.p <;> by_cases h2 : x.t = y.t <;> by_cases h3 : x.d = y.d <;> simp [h1, h2, h3]
theorem neqRf' (x y : Ch) (w : World) : (binOp .neq 117 (.agg #[.int .i64 x.p, .int .u64 x.t, .int .i64 x.d]) (.agg #[.int .i64 y.p, .int .u64 y.t, .int .i64 y.d])).run Tryz.prog w = .ok (.bool (!eqCh x y)) w := neqRf.1 x y w

theorem eqCh_false {x y : Ch} (h : x ≠ y) : eqCh x y = false := by
  cases e : eqCh x y
  · rfl
  · exact absurd ((eqCh_iff x y).1 e) h
/-- The first i are the same. -/
def SameTo (a b : List Ch) (i : Nat) : Prop := a.take i = b.take i
theorem SameTo.step {a b : List Ch} {i : Nat} {x : Ch} (h : SameTo a b i) (ha : a[i]? = some x) (hb : b[i]? = some x) : SameTo a b (i + 1) := by
  unfold SameTo at *
  rw [take_succ' ha, take_succ' hb, h]
theorem SameTo.all {a b : List Ch} {i : Nat} (h : SameTo a b i) (ha : a.length ≤ i) (hb : b.length ≤ i) : eqL a b = true := by
  unfold SameTo at h
  rw [take_all ha, take_all hb] at h
  rw [h]
  exact eqL_self b
theorem not_same {a b : List Ch} {i : Nat} {x y : Ch} (ha : a[i]? = some x) (hb : b[i]? = some y) (h : x ≠ y) : eqL a b = false :=
  eqL_false fun e => h (by rw [e, hb] at ha; exact (Option.some.inj ha).symm)

set_option maxRecDepth 1000000 in
set_option maxHeartbeats 4000000 in
theorem refsame_any {w : World} {v1 v2 : Value} {a b : List Ch} (h1 : Rd w v1 a) (h2 : Rd w v2 b) :
    Calls Tryz.prog 35 #[v1, v2] w fun e w' => e = .returned (.bool (eqL a b)) ∧ Below w.heap.size w w' := by
  obtain ⟨ao1, cap1, rfl, hc1, hm1, _, k1⟩ := h1
  obtain ⟨ao2, cap2, rfl, hc2, hm2, _, k2⟩ := h2
  have K1 := Lib.hid k1
  have K2 := Lib.hid k2
  have hl1 : a.length ≤ 9223372036854775807 := by omega
  have hl2 : b.length ≤ 9223372036854775807 := by omega
  clear k1 k2 hc1 hc2 hm1 hm2
  by_cases hn : a.length = b.length
  · have HN := Lib.hid hn
    have hne : ((a.length : Int) != (b.length : Int)) = false := by rw [hn]; simp
    clear hn
    go_enter Tryz.func35, Tryz.ntmps35
    go_wp2
    go_loopg [5] a.length (fun k t wr => ∃ i : Nat, i + k = a.length ∧ t = .int .i64 i ∧ SameTo a b i ∧ ∃ q, wr = w.drewN q)
    case atStart => exact ⟨0, by omega, rfl, by unfold SameTo; simp, 0, rfl⟩
    case round =>
      obtain ⟨i, hik, rfl, hsm, q, rfl⟩ := hrel
      have HIK := Lib.hid hik
      have HS := Lib.hid hsm
      clear hsm hik
      by_cases hlt : i < a.length
      · obtain ⟨x, hx, _⟩ := at_of hlt
        obtain ⟨y, hy, _⟩ := at_of (show i < b.length by have := HN.out; omega)
        obtain ⟨b1, o1, ha1, c1⟩ := K1.out.resolve_left (by intro e; rw [e] at hlt; simp at hlt)
        obtain ⟨b2, o2, ha2, c2⟩ := K2.out.resolve_left (by intro e; rw [e] at hy; simp at hy)
        subst ha1 ha2
        obtain ⟨x0, x1, x2⟩ := c1 i x hx
        obtain ⟨y0, y1, y2⟩ := c2 i y hy
        have hi0 : (0 : Int) ≤ (i : Int) := Int.natCast_nonneg _
        have hi1 : (i : Int) < (a.length : Int) := by omega
        have hi2 : (i : Int) < (b.length : Int) := by have := HN.out; omega
        have HLT := Lib.hid hlt
        have hrun := neqRf' x y
        by_cases hxy : x = y
        · have HNEW := Lib.hid (HS.out.step hx (by rw [hxy]; exact hy))
          have he : eqCh x y = true := (eqCh_iff x y).2 hxy
          rw [he] at hrun
          clear hx hy c1 c2 K1 K2 hxy he
          go_wp2_with fail
          go_quiet (fail)
          go_wp2_with fail
          go_roundg (gk - 1)
          case measure => have := HIK.out; have := HLT.out; omega
          case rel => exact ⟨i + 1, by have := HIK.out; have := HLT.out; omega, by go_num, HNEW.out, _, rfl⟩
        · have HNEW := Lib.hid (not_same hx hy hxy)
          have he : eqCh x y = false := eqCh_false hxy
          rw [he] at hrun
          clear hx hy c1 c2 K1 K2 hxy he
          go_wp2_with fail
          go_quiet (fail)
          go_wp2_with fail
          go_ret
          exact ⟨by rw [HNEW.out]; rfl, below_drewN (below_drewN (Below.refl _ _) _) _⟩
      · have HD := Lib.hid (HS.out.all (by omega) (by have := HN.out; omega))
        go_wp2_with fail
        go_ret
        exact ⟨by rw [HD.out]; rfl, below_drewN (Below.refl _ _) _⟩
  · have HN := Lib.hid (eqL_false (a := a) (b := b) (fun e => hn (by rw [e])))
    have hne : ((a.length : Int) != (b.length : Int)) = true := by rw [bne_iff_ne]; omega
    clear hn
    go_enter Tryz.func35, Tryz.ntmps35
    go_wp2
    go_ret
    exact ⟨by rw [HN.out]; rfl, Below.refl _ _⟩
end Go.Proofs.YtdbaacalfbbdiaaGreatDoor.Batch
namespace Go.Proofs.YtdbaacalfbbdiaaGreatDoor.Sc
open Go.RowKit
set_option linter.unusedVariables false
set_option linter.unusedSimpArgs false
noncomputable def sameV (a b : Cm) : Bool := decide (a.k = b.k) && decide (a.h = b.h) && decide (a.p = b.p) && decide (a.t = b.t) && Batch.eqL a.l b.l
theorem sameV_self (a : Cm) : sameV a a = true := by simp [sameV, Batch.eqL_self]
set_option maxRecDepth 1000000 in
set_option maxHeartbeats 16000000 in
theorem cmdSame_any {w : World} {v1 v2 : Value} (a b : Cm) (r1 : Batch.Rd w v1 a.l) (r2 : Batch.Rd w v2 b.l) :
    Calls Tryz.prog 10 #[.agg #[.int .i64 a.k, .int .i64 a.h, .int .i64 a.p, .int .u64 a.t, v1], .agg #[.int .i64 b.k, .int .i64 b.h, .int .i64 b.p, .int .u64 b.t, v2]] w fun e w' => e = .returned (.bool (sameV a b)) ∧ Below w.heap.size w w' := by
  have HB := Lib.hid (show Below w.heap.size w ((w.alloc (.cells #[.int .i64 a.k, .int .i64 a.h, .int .i64 a.p, .int .u64 a.t, v1] 25)).alloc (.cells #[.int .i64 b.k, .int .i64 b.h, .int .i64 b.p, .int .u64 b.t, v2] 25)) from ((Below.refl _ _).alloc (Nat.le_refl _) _).alloc (by simp) _)
  have HR1 := Lib.hid (r1.below HB.out)
  have HR2 := Lib.hid (r2.below HB.out)
  clear r1 r2
  obtain ⟨k1, h1, p1, t1, l1⟩ := a
  obtain ⟨k2, h2, p2, t2, l2⟩ := b
  dsimp only at *
  by_cases e0 : k1 = k2
  · have b0 : (k1 == k2) = true := by simp [e0]
    by_cases e1 : h1 = h2
    · have b1 : (h1 == h2) = true := by simp [e1]
      by_cases e2 : p1 = p2
      · have b2 : (p1 == p2) = true := by simp [e2]
        by_cases e3 : t1 = t2
        · have b3 : (t1 == t2) = true := by simp [e3]
          have HR := Lib.hid (show sameV ⟨k1, h1, p1, t1, l1⟩ ⟨k2, h2, p2, t2, l2⟩ = Batch.eqL l1 l2 by simp [sameV, e0, e1, e2, e3])
          clear e0 e1 e2 e3
          go_enter Tryz.func10, Tryz.ntmps10
          go_wp2_with fail
          go_at_call 35
          refine (Batch.refsame_any HR1.out HR2.out).mono ?_
          rintro e w' ⟨rfl, hb⟩
          have HB2 := Lib.hid (HB.out.trans (hb.mono HB.out.size))
          go_wp2_with fail
          go_ret
          exact ⟨by rw [HR.out]; rfl, HB2.out⟩
        · have b3 : (t1 == t2) = false := by simp [e3]
          have HR := Lib.hid (show sameV ⟨k1, h1, p1, t1, l1⟩ ⟨k2, h2, p2, t2, l2⟩ = false by simp [sameV, e3])
          clear e0 e1 e2 e3
          go_enter Tryz.func10, Tryz.ntmps10
          go_wp2_with fail
          go_ret
          exact ⟨by rw [HR.out]; rfl, HB.out⟩
      · have b2 : (p1 == p2) = false := by simp [e2]
        have HR := Lib.hid (show sameV ⟨k1, h1, p1, t1, l1⟩ ⟨k2, h2, p2, t2, l2⟩ = false by simp [sameV, e2])
        clear e0 e1 e2
        go_enter Tryz.func10, Tryz.ntmps10
        go_wp2_with fail
        go_ret
        exact ⟨by rw [HR.out]; rfl, HB.out⟩
    · have b1 : (h1 == h2) = false := by simp [e1]
      have HR := Lib.hid (show sameV ⟨k1, h1, p1, t1, l1⟩ ⟨k2, h2, p2, t2, l2⟩ = false by simp [sameV, e1])
      clear e0 e1
      go_enter Tryz.func10, Tryz.ntmps10
      go_wp2_with fail
      go_ret
      exact ⟨by rw [HR.out]; rfl, HB.out⟩
  · have b0 : (k1 == k2) = false := by simp [e0]
    have HR := Lib.hid (show sameV ⟨k1, h1, p1, t1, l1⟩ ⟨k2, h2, p2, t2, l2⟩ = false by simp [sameV, e0])
    clear e0
    go_enter Tryz.func10, Tryz.ntmps10
    go_wp2_with fail
    go_ret
    exact ⟨by rw [HR.out]; rfl, HB.out⟩
end Go.Proofs.YtdbaacalfbbdiaaGreatDoor.Sc
