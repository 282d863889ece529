/-
  PACKAGE model: Do of Wait.
  PACKAGE model: where a struct's own cells alone are other ones; Shut and Wait, of a whole Model.
  PACKAGE model: Same, of answers with no times.
-/
import Derived.Test.YtdllgeanmlmmfaaGreatDoorMdAsk
import Derived.Test.YtdllgeanmlmmfaaGreatDoorMdNewM
import Derived.Test.YtdllgeanmlmmfaaGreatDoorRowMem
import Derived.LoopTactic
import Derived.LoopN
namespace Go.Proofs.YtdllgeanmlmmfaaGreatDoor.Md
open Go.RowKit Gr
set_option linter.unusedVariables false
set_option linter.unusedSimpArgs false

set_option maxRecDepth 1000000 in
set_option maxHeartbeats 8000000 in
theorem mdWait_any {w : World} {b : Nat} {c : Mc} {F : Nat → Int} (h : McAt w b c) (hS : ShAt w c F) (hp : c.p ≤ 64) (i hd p t : Int) (la : Option Addr) (ln lc : Nat) (y : Int) (hi : hasM c i = true) :
    Calls Tryz.prog 11 #[.pointer (some ⟨b, 0, none⟩), .agg #[.int .i64 6, .int .i64 i, .int .i64 hd, .int .i64 p, .int .u64 t, .slice la ln lc, .int .i64 y]] w fun e w' => e = .returned (askV (askM c F 6 p t)) ∧ Below w.heap.size w w' := by
  obtain ⟨w1, hw1⟩ : ∃ w1, w1 = (w.alloc (.cells #[.int .i64 6, .int .i64 i, .int .i64 hd, .int .i64 p, .int .u64 t, .slice la ln lc, .int .i64 y] 53)).alloc (.cells #[.int .i64 0, .int .i64 0, .slice none 0 0] 48) := ⟨_, rfl⟩
  have HB := Lib.hid (show Below w.heap.size w w1 by rw [hw1]; exact ((Below.refl _ _).alloc (Nat.le_refl _) _).alloc (by simp) _)
  have HX := Lib.hid (show w1.heap[w.heap.size]? = some (.cells #[.int .i64 6, .int .i64 i, .int .i64 hd, .int .i64 p, .int .u64 t, .slice la ln lc, .int .i64 y] 53 (0, 0)) by rw [hw1, heap_alloc_old _ _ (by simp)]; exact heap_alloc_new w _)
  have HZ := Lib.hid (show w1.heap[w.heap.size + 1]? = some (.cells #[.int .i64 0, .int .i64 0, .slice none 0 0] 48 (0, 0)) by
    rw [hw1]; have h := heap_alloc_new (w.alloc (.cells #[.int .i64 6, .int .i64 i, .int .i64 hd, .int .i64 p, .int .u64 t, .slice la ln lc, .int .i64 y] 53)) (.cells #[.int .i64 0, .int .i64 0, .slice none 0 0] 48); simpa using h)
  have HM := Lib.hid (h.below HB.out h.lt)
  have HLT := Lib.hid h.lt
  have HS := Lib.hid (hS.below HB.out)
  have HL1 := Lib.hid (show w.heap.size + 1 < w1.heap.size from (Array.getElem?_eq_some_iff.1 HZ.out).1)
  have HHI := Lib.hid (show mayM c 6 i = true by unfold mayM; rw [hi]; rfl)
  obtain ⟨y0, y1, y2, y3, y4, y5, y6⟩ : w1.cell? ⟨w.heap.size, 0, none⟩ = some (.int .i64 6) ∧ w1.cell? ⟨w.heap.size, 1, none⟩ = some (.int .i64 i) ∧ w1.cell? ⟨w.heap.size, 2, none⟩ = some (.int .i64 hd) ∧ w1.cell? ⟨w.heap.size, 3, none⟩ = some (.int .i64 p) ∧ w1.cell? ⟨w.heap.size, 4, none⟩ = some (.int .u64 t) ∧ w1.cell? ⟨w.heap.size, 5, none⟩ = some (.slice la ln lc) ∧ w1.cell? ⟨w.heap.size, 6, none⟩ = some (.int .i64 y) := by simp [World.cell?, HX.out]
  clear h hi hS
  go_enter Tryz.func11, Tryz.ntmps11
  go_upto_region 1 with fail
  rw [← hw1]
  clear hw1
  go_wp2_with fail
  go_at_call 34
  refine (mdMay_any HM.out 6 i hd p t la ln lc y).mono ?_
  rw [HHI.out]
  rintro e w2 ⟨rfl, hb⟩
  have hx2 := (hb.block _ (by have := HL1.out; omega)).trans HX.out
  have hz2 := (hb.block _ HL1.out).trans HZ.out
  have HM2 := Lib.hid (HM.out.below hb (by have := HLT.out; have := HB.out.size; omega))
  have HB2 := Lib.hid (HB.out.trans (hb.mono HB.out.size))
  have hb2q := hb
  clear y0 y1 y2 y3 y4 y5 y6 hb
  obtain ⟨x0, x1, x2, x3, x4, x5, x6⟩ : w2.cell? ⟨w.heap.size, 0, none⟩ = some (.int .i64 6) ∧ w2.cell? ⟨w.heap.size, 1, none⟩ = some (.int .i64 i) ∧ w2.cell? ⟨w.heap.size, 2, none⟩ = some (.int .i64 hd) ∧ w2.cell? ⟨w.heap.size, 3, none⟩ = some (.int .i64 p) ∧ w2.cell? ⟨w.heap.size, 4, none⟩ = some (.int .u64 t) ∧ w2.cell? ⟨w.heap.size, 5, none⟩ = some (.slice la ln lc) ∧ w2.cell? ⟨w.heap.size, 6, none⟩ = some (.int .i64 y) := by simp [World.cell?, hx2]
  have HS2 := Lib.hid (HS.out.below (hb2q))
  have HZ2 := Lib.hid hz2
  clear hx2 hz2 hb2q
  go_wp2_with fail
  go_at_call 35
  refine (mdAsk_any HM2.out HS2.out hp 6 i hd p t la ln lc y).mono ?_
  rintro e w3 ⟨rfl, hb3⟩
  obtain ⟨n1, e1, hne⟩ : ∃ n1 e1, askM c F 6 p t = (n1, e1) := ⟨_, _, rfl⟩
  rw [hne]
  have HB3 := Lib.hid (HB2.out.trans (hb3.mono HB2.out.size))
  have hz3 := (hb3.block _ (Array.getElem?_eq_some_iff.1 HZ2.out).1).trans HZ2.out
  obtain ⟨z0, z1, z2, zf⟩ := three_cells hz3
  have zf0 := zf 0
  have zf1 := zf 1
  have zf2 := zf 2
  have HR := Lib.hid (three_cells (heap_setCell_same _ (w.heap.size + 1) 2 _ _ (.slice none 0 0) (heap_setCell_same _ (w.heap.size + 1) 1 _ _ (.int .i64 e1) (heap_setCell_same _ (w.heap.size + 1) 0 _ _ (.int .i64 n1) hz3))))
  clear zf hz3 hb3 x0 x1 x2 x3 x4 x5 x6
  dsimp only [askV]
  go_wp2_with fail
  obtain ⟨r0, r1, r2, _⟩ := HR.out
  refine bodyPost_ret (v := .agg #[.int .i64 n1, .int .i64 e1, .slice none 0 0]) (by simp [results, Tryz.results11, go_sem, r0, r1, r2]) rfl ⟨by rw [hne]; rfl, ?_⟩
  exact ((HB3.out.setCell (Nat.le_succ _) _).setCell (Nat.le_succ _) _).setCell (Nat.le_succ _) _
end Go.Proofs.YtdllgeanmlmmfaaGreatDoor.Md
namespace Go.Proofs.YtdllgeanmlmmfaaGreatDoor.Md
open Go.RowKit Gr Cl
set_option linter.unusedVariables false
set_option linter.unusedSimpArgs false
section
variable {τ τ' : Nat → Nat} {w w' : World} {b : Nat} {c c' : Mc} {tv : List Tv} {s s' : Ms}
/-- Only the struct's cells were written. -/
theorem MdAt.re (h : MdAt τ w b c tv s) (st : StepM τ τ' w w') (hk : ∀ k, k < w.heap.size → τ k ≠ 0 → k ≠ b → w'.heap[k]? = w.heap[k]?) (htz : ∀ k, τ' k ≠ 0 → k < w'.heap.size) (hmc : McAt w' b c') (h1 : c'.th = c.th) (h2 : c'.n = c.n) (h3 : c'.cth = c.cth) (h4 : s'.th = s.th)
    (hp : Pers τ' w' (fun w => Mat w 0 c'.vp s'.p s'.D)) (ht : Pers τ' w' (fun w => Rw.Sl Tb.slK w c'.vt s'.T)) (hpo : Pers τ' w' (fun w => Batch.Sl w c'.pool s'.pool)) (hst : Pers τ' w' (fun w => Batch.Sl w c'.staged s'.staged)) (hfo : Pers τ' w' (fun w => Batch.Sl w c'.folded s'.folded)) (hpp : c'.p = s'.p) (hsh : Pers τ' w' (fun w => ShR w c'.sh s'.p s'.shown)) (hrm : c'.room = s'.room) (hcl : c'.cl = s'.cl) : MdAt τ' w' b c' tv s' := by
  have hbl := h.mc.lt
  have hne : ∀ k, k < w.heap.size → τ k ≠ 0 → τ k ≠ 1 → w'.heap[k]? = w.heap[k]? := fun k h5 h6 h7 => hk k h5 h6 (fun e => h7 (by rw [e]; exact h.tb))
  refine ⟨hmc, (st.ext b hbl).trans h.tb, htz, ?_, fun g hg => ?_, h2.trans h.nn, by rw [h4]; exact h.ln, fun i t x h5 h6 => ?_, hp, ht, hpo, hst, hfo, hpp, hsh, hrm, hcl⟩
  · rw [h1, h2, h3]
    exact own_blk h.row fun g hg => by
      cases hth : c.th with
      | none => rw [hth] at hg; simp [Value.ownBlock] at hg
      | some a =>
        have hl := (own_has h.row hg).2
        rw [hth] at hg
        simp [Value.ownBlock] at hg
        have h5 := h.tt a hth
        rw [hg] at h5
        exact hne g hl (by omega) (by omega)
  · rw [h1] at hg
    have hl := (own_has h.row (g := g.block) (by rw [hg]; rfl)).2
    exact (st.ext _ hl).trans (h.tt g hg)
  · rw [h4] at h6
    exact (h.thr i t x h5 h6).step st (fun k h7 h8 => hne k h7 (by omega) (by omega)) (fun k h7 h8 => hne k h7 (by omega) (by omega))
theorem OnlyB.step (h : MdAt τ w b c tv s) (ho : OnlyB w b w') : StepM τ τ w w' := ⟨ho.2.1, fun _ _ => rfl, fun k hk ht => ho.2.2 k hk (fun e => by rw [e, h.tb] at ht; omega)⟩
/-- It is shut. -/
theorem MdAt.shut (h : MdAt τ w b c tv s) (ho : OnlyB w b w') (hm : McAt w' b { c with cl := true }) : MdAt τ w' b { c with cl := true } tv { s with cl := true } :=
  have st := OnlyB.step h ho
  h.re st (fun k h1 _ h2 => ho.2.2 k h1 h2) (fun k hk => Nat.lt_of_lt_of_le (h.tz k hk) ho.1) hm rfl rfl rfl rfl (h.paths.size st) (h.tab.size st) (h.pool.size st) (h.staged.size st) (h.folded.size st) h.pp (h.shown.size st) h.rm rfl
theorem MdAt.has (h : MdAt τ w b c tv s) (i : Int) : hasM c i = (decide (0 ≤ i) && decide (i < (s.th.length : Int))) := by unfold hasM; rw [h.nn, h.ln]
end
def opV (k i hd p t : Int) (la : Option Addr) (ln lc : Nat) (y : Int) : Value := .agg #[.int .i64 k, .int .i64 i, .int .i64 hd, .int .i64 p, .int .u64 t, .slice la ln lc, .int .i64 y]
theorem mdI_shut {τ : Nat → Nat} {w : World} {b : Nat} {s : Ms} (h : MdI τ w b s) (i hd p t : Int) (la : Option Addr) (ln lc : Nat) (y : Int) (hi : 0 ≤ i ∧ i < s.th.length) :
    Calls Tryz.prog 11 #[.pointer (some ⟨b, 0, none⟩), opV 7 i hd p t la ln lc y] w fun e w' => e = .returned (.agg #[.int .i64 0, .int .i64 0, .slice none 0 0]) ∧ MdI τ w' b { s with cl := true } ∧ StepM τ τ w w' := by
  obtain ⟨c, tv, h⟩ := h
  refine (mdShut_any h.mc i hd p t la ln lc y (by rw [h.has, decide_eq_true hi.1, decide_eq_true hi.2]; rfl)).mono ?_
  rintro e w' ⟨rfl, hm, ho⟩
  exact ⟨rfl, ⟨_, _, h.shut ho hm⟩, OnlyB.step h ho⟩
/-- What a Wait is answered. -/
def waitA (s : Ms) (p t : Int) : Int × Int := if p < 0 ∨ (s.p : Int) ≤ p then (0, 2) else if s.cl = true then (0, 8) else if t < s.shown p.toNat then (1, 0) else (0, 0)
theorem mdI_wait {τ : Nat → Nat} {w : World} {b : Nat} {s : Ms} (h : MdI τ w b s) (i hd p t : Int) (la : Option Addr) (ln lc : Nat) (y : Int) (hi : 0 ≤ i ∧ i < s.th.length) (hp : s.p ≤ 64) :
    Calls Tryz.prog 11 #[.pointer (some ⟨b, 0, none⟩), opV 6 i hd p t la ln lc y] w fun e w' => e = .returned (.agg #[.int .i64 (waitA s p t).1, .int .i64 (waitA s p t).2, .slice none 0 0]) ∧ MdI τ w' b s ∧ StepM τ τ w w' := by
  obtain ⟨c, tv, h⟩ := h
  refine (mdWait_any h.mc (F := s.shown) (by obtain ⟨g, o, h1, h2⟩ := h.sh; exact ⟨g, o, h1, h2⟩) (by rw [h.pp]; exact hp) i hd p t la ln lc y (by rw [h.has, decide_eq_true hi.1, decide_eq_true hi.2]; rfl)).mono ?_
  rintro e w' ⟨he, hb⟩
  have ha : askM c s.shown 6 p t = waitA s p t := by
    unfold askM waitA
    rw [h.pp, h.cl]
    simp
  rw [ha] at he
  exact ⟨he, ⟨c, tv, h.below hb⟩, StepM.below hb⟩
end Go.Proofs.YtdllgeanmlmmfaaGreatDoor.Md
namespace Go.Proofs.YtdllgeanmlmmfaaGreatDoor.Md
open Go.RowKit
set_option linter.unusedVariables false
set_option linter.unusedSimpArgs false

theorem equ_none (a1 a2 : Option Addr) (c d : Nat) (w : World) :
    Calls Tryz.prog 119 #[.slice a1 0 c, .slice a2 0 d] w fun e w' => e = .returned (.bool true) ∧ w' = w := by
  go_enter Tryz.func119, Tryz.ntmps119
  go_wp2
  refine wp_loop_rounds 1 ?_
  rw [rounds_succ]
  go_wp2
  go_ret
  exact ⟨rfl, rfl⟩
set_option maxRecDepth 1000000 in
set_option maxHeartbeats 8000000 in
theorem mdSame_none (n1 e1 n2 e2 : Int) (a1 a2 : Option Addr) (c1 c2 : Nat) (w : World) :
    Calls Tryz.prog 84 #[.agg #[.int .i64 n1, .int .i64 e1, .slice a1 0 c1], .agg #[.int .i64 n2, .int .i64 e2, .slice a2 0 c2]] w fun e w' => e = .returned (.bool (decide (n1 = n2) && decide (e1 = e2))) ∧ Below w.heap.size w w' := by
  have HB := Lib.hid (show Below w.heap.size w ((w.alloc (.cells #[.int .i64 n1, .int .i64 e1, .slice a1 0 c1] 48)).alloc (.cells #[.int .i64 n2, .int .i64 e2, .slice a2 0 c2] 48)) from ((Below.refl _ _).alloc (Nat.le_refl _) _).alloc (by simp) _)
  by_cases h1 : n1 = n2
  · have d1 : (n1 == n2) = true := by simp [h1]
    by_cases h2 : e1 = e2
    · have d2 : (e1 == e2) = true := by simp [h2]
      have HR := Lib.hid (show (decide (n1 = n2) && decide (e1 = e2)) = true by simp [h1, h2])
      clear h1 h2
      go_enter Tryz.func84, Tryz.ntmps84
      go_wp2_with fail
      go_at_call 119
      refine (equ_none _ _ _ _ _).mono ?_
      rintro e w' ⟨rfl, rfl⟩
      go_wp2_with fail
      go_ret
      exact ⟨by rw [HR.out]; rfl, HB.out⟩
    · have d2 : (e1 == e2) = false := by simp [h2]
      have HR := Lib.hid (show (decide (n1 = n2) && decide (e1 = e2)) = false by simp [h2])
      clear h1 h2
      go_enter Tryz.func84, Tryz.ntmps84
      go_wp2_with fail
      go_ret
      exact ⟨by rw [HR.out]; rfl, HB.out⟩
  · have d1 : (n1 == n2) = false := by simp [h1]
    have HR := Lib.hid (show (decide (n1 = n2) && decide (e1 = e2)) = false by simp [h1])
    clear h1
    go_enter Tryz.func84, Tryz.ntmps84
    go_wp2_with fail
    go_ret
    exact ⟨by rw [HR.out]; rfl, HB.out⟩
end Go.Proofs.YtdllgeanmlmmfaaGreatDoor.Md
