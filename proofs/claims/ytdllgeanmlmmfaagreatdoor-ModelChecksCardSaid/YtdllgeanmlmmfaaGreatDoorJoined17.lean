/-
  PACKAGE model: Do of Wait.
  PACKAGE model: where a struct's own cells alone are other ones; Shut and Wait, of a whole Model.
  PACKAGE model: a queue of Batches: push and pop.
-/
import Derived.Test.YtdllgeanmlmmfaaGreatDoorJoined16
import Derived.Test.YtdllgeanmlmmfaaGreatDoorJoined15
import Derived.WalkLawsBesides
import Derived.Laws.IdiomCopy
namespace Go.Proofs.YtdllgeanmlmmfaaGreatDoor.Md
open Go.RowKit Gr
set_option linter.unusedVariables false
set_option linter.unusedSimpArgs false

set_option maxRecDepth 1000000 in
set_option maxHeartbeats 8000000 in
theorem mdWait_any {w : World} {b : Nat} {c : Mc} {F : Nat → Int} (h : McAt w b c) (hS : ShAt w c F) (hp : c.p ≤ 64) (i hd p t : Int) (la : Option Addr) (ln lc : Nat) (y : Int) (hi : hasM c i = true) :
    Calls Tryz.prog 11 #[.pointer (some ⟨b, 0, none⟩), .agg #[.int .i64 6, .int .i64 i, .int .i64 hd, .int .i64 p, .int .u64 t, .slice la ln lc, .int .i64 y]] w fun e w' => e = .returned (askV (askM c F 6 p t)) ∧ Below w.heap.size w w' := by
  obtain ⟨w1, hw1⟩ : ∃ w1, w1 = (w.alloc (.cells #[.int .i64 6, .int .i64 i, .int .i64 hd, .int .i64 p, .int .u64 t, .slice la ln lc, .int .i64 y] 53)).alloc (.cells #[.int .i64 0, .int .i64 0, .slice none 0 0] 48) := ⟨_, rfl⟩
  have HB := Lib.hid (show Below w.heap.size w w1 by rw [hw1]; exact ((Below.refl _ _).alloc (Nat.le_refl _) _).alloc (by simp) _)
  have HX := Lib.hid (show w1.heap[w.heap.size]? = some (.cells #[.int .i64 6, .int .i64 i, .int .i64 hd, .int .i64 p, .int .u64 t, .slice la ln lc, .int .i64 y] 53 (0, 0)) by rw [hw1, heap_alloc_old _ _ (by simp)]; exact heap_alloc_new w _)
  have HZ := Lib.hid (show w1.heap[w.heap.size + 1]? = some (.cells #[.int .i64 0, .int .i64 0, .slice none 0 0] 48 (0, 0)) by
    rw [hw1]; have h := heap_alloc_new (w.alloc (.cells #[.int .i64 6, .int .i64 i, .int .i64 hd, .int .i64 p, .int .u64 t, .slice la ln lc, .int .i64 y] 53)) (.cells #[.int .i64 0, .int .i64 0, .slice none 0 0] 48); simpa using h)
  have HM := Lib.hid (h.below HB.out h.lt)
  have HLT := Lib.hid h.lt
  have HS := Lib.hid (hS.below HB.out)
  have HL1 := Lib.hid (show w.heap.size + 1 < w1.heap.size from (Array.getElem?_eq_some_iff.1 HZ.out).1)
  have HHI := Lib.hid (show mayM c 6 i = true by unfold mayM; rw [hi]; rfl)
  obtain ⟨y0, y1, y2, y3, y4, y5, y6⟩ : w1.cell? ⟨w.heap.size, 0, none⟩ = some (.int .i64 6) ∧ w1.cell? ⟨w.heap.size, 1, none⟩ = some (.int .i64 i) ∧ w1.cell? ⟨w.heap.size, 2, none⟩ = some (.int .i64 hd) ∧ w1.cell? ⟨w.heap.size, 3, none⟩ = some (.int .i64 p) ∧ w1.cell? ⟨w.heap.size, 4, none⟩ = some (.int .u64 t) ∧ w1.cell? ⟨w.heap.size, 5, none⟩ = some (.slice la ln lc) ∧ w1.cell? ⟨w.heap.size, 6, none⟩ = some (.int .i64 y) := by simp [World.cell?, HX.out]
  clear h hi hS
  go_enter Tryz.func11, Tryz.ntmps11
  go_upto_region 1 with fail
  rw [← hw1]
  clear hw1
  go_wp2_with fail
  go_at_call 34
  refine (mdMay_any HM.out 6 i hd p t la ln lc y).mono ?_
  rw [HHI.out]
  rintro e w2 ⟨rfl, hb⟩
  have hx2 := (hb.block _ (by have := HL1.out; omega)).trans HX.out
  have hz2 := (hb.block _ HL1.out).trans HZ.out
  have HM2 := Lib.hid (HM.out.below hb (by have := HLT.out; have := HB.out.size; omega))
  have HB2 := Lib.hid (HB.out.trans (hb.mono HB.out.size))
  have hb2q := hb
  clear y0 y1 y2 y3 y4 y5 y6 hb
  obtain ⟨x0, x1, x2, x3, x4, x5, x6⟩ : w2.cell? ⟨w.heap.size, 0, none⟩ = some (.int .i64 6) ∧ w2.cell? ⟨w.heap.size, 1, none⟩ = some (.int .i64 i) ∧ w2.cell? ⟨w.heap.size, 2, none⟩ = some (.int .i64 hd) ∧ w2.cell? ⟨w.heap.size, 3, none⟩ = some (.int .i64 p) ∧ w2.cell? ⟨w.heap.size, 4, none⟩ = some (.int .u64 t) ∧ w2.cell? ⟨w.heap.size, 5, none⟩ = some (.slice la ln lc) ∧ w2.cell? ⟨w.heap.size, 6, none⟩ = some (.int .i64 y) := by simp [World.cell?, hx2]
  have HS2 := Lib.hid (HS.out.below (hb2q))
  have HZ2 := Lib.hid hz2
  clear hx2 hz2 hb2q
  go_wp2_with fail
  go_at_call 35
  refine (mdAsk_any HM2.out HS2.out hp 6 i hd p t la ln lc y).mono ?_
  rintro e w3 ⟨rfl, hb3⟩
  obtain ⟨n1, e1, hne⟩ : ∃ n1 e1, askM c F 6 p t = (n1, e1) := ⟨_, _, rfl⟩
  rw [hne]
  have HB3 := Lib.hid (HB2.out.trans (hb3.mono HB2.out.size))
  have hz3 := (hb3.block _ (Array.getElem?_eq_some_iff.1 HZ2.out).1).trans HZ2.out
  obtain ⟨z0, z1, z2, zf⟩ := three_cells hz3
  have zf0 := zf 0
  have zf1 := zf 1
  have zf2 := zf 2
  have HR := Lib.hid (three_cells (heap_setCell_same _ (w.heap.size + 1) 2 _ _ (.slice none 0 0) (heap_setCell_same _ (w.heap.size + 1) 1 _ _ (.int .i64 e1) (heap_setCell_same _ (w.heap.size + 1) 0 _ _ (.int .i64 n1) hz3))))
  clear zf hz3 hb3 x0 x1 x2 x3 x4 x5 x6
  dsimp only [askV]
  go_wp2_with fail
  obtain ⟨r0, r1, r2, _⟩ := HR.out
  refine bodyPost_ret (v := .agg #[.int .i64 n1, .int .i64 e1, .slice none 0 0]) (by simp [results, Tryz.results11, go_sem, r0, r1, r2]) rfl ⟨by rw [hne]; rfl, ?_⟩
  exact ((HB3.out.setCell (Nat.le_succ _) _).setCell (Nat.le_succ _) _).setCell (Nat.le_succ _) _
end Go.Proofs.YtdllgeanmlmmfaaGreatDoor.Md
namespace Go.Proofs.YtdllgeanmlmmfaaGreatDoor.Md
open Go.RowKit Gr Cl
set_option linter.unusedVariables false
set_option linter.unusedSimpArgs false
section
variable {τ τ' : Nat → Nat} {w w' : World} {b : Nat} {c c' : Mc} {tv : List Tv} {s s' : Ms}
/-- Only the struct's cells were written. -/
theorem MdAt.re (h : MdAt τ w b c tv s) (st : StepM τ τ' w w') (hk : ∀ k, k < w.heap.size → τ k ≠ 0 → k ≠ b → w'.heap[k]? = w.heap[k]?) (htz : ∀ k, τ' k ≠ 0 → k < w'.heap.size) (hmc : McAt w' b c') (h1 : c'.th = c.th) (h2 : c'.n = c.n) (h3 : c'.cth = c.cth) (h4 : s'.th = s.th)
    (hp : Pers τ' w' (fun w => Mat w 0 c'.vp s'.p s'.D)) (ht : Pers τ' w' (fun w => Rw.Sl Tb.slK w c'.vt s'.T)) (hpo : Pers τ' w' (fun w => Batch.Sl w c'.pool s'.pool)) (hst : Pers τ' w' (fun w => Batch.Sl w c'.staged s'.staged)) (hfo : Pers τ' w' (fun w => Batch.Sl w c'.folded s'.folded)) (hpp : c'.p = s'.p) (hsh : Pers τ' w' (fun w => ShR w c'.sh s'.p s'.shown)) (hrm : c'.room = s'.room) (hcl : c'.cl = s'.cl) : MdAt τ' w' b c' tv s' := by
  have hbl := h.mc.lt
  have hne : ∀ k, k < w.heap.size → τ k ≠ 0 → τ k ≠ 1 → w'.heap[k]? = w.heap[k]? := fun k h5 h6 h7 => hk k h5 h6 (fun e => h7 (by rw [e]; exact h.tb))
  refine ⟨hmc, (st.ext b hbl).trans h.tb, htz, ?_, fun g hg => ?_, h2.trans h.nn, by rw [h4]; exact h.ln, fun i t x h5 h6 => ?_, hp, ht, hpo, hst, hfo, hpp, hsh, hrm, hcl⟩
  · rw [h1, h2, h3]
    exact own_blk h.row fun g hg => by
      cases hth : c.th with
      | none => rw [hth] at hg; simp [Value.ownBlock] at hg
      | some a =>
        have hl := (own_has h.row hg).2
        rw [hth] at hg
        simp [Value.ownBlock] at hg
        have h5 := h.tt a hth
        rw [hg] at h5
        exact hne g hl (by omega) (by omega)
  · rw [h1] at hg
    have hl := (own_has h.row (g := g.block) (by rw [hg]; rfl)).2
    exact (st.ext _ hl).trans (h.tt g hg)
  · rw [h4] at h6
    exact (h.thr i t x h5 h6).step st (fun k h7 h8 => hne k h7 (by omega) (by omega)) (fun k h7 h8 => hne k h7 (by omega) (by omega))
theorem OnlyB.step (h : MdAt τ w b c tv s) (ho : OnlyB w b w') : StepM τ τ w w' := ⟨ho.2.1, fun _ _ => rfl, fun k hk ht => ho.2.2 k hk (fun e => by rw [e, h.tb] at ht; omega)⟩
/-- It is shut. -/
theorem MdAt.shut (h : MdAt τ w b c tv s) (ho : OnlyB w b w') (hm : McAt w' b { c with cl := true }) : MdAt τ w' b { c with cl := true } tv { s with cl := true } :=
  have st := OnlyB.step h ho
  h.re st (fun k h1 _ h2 => ho.2.2 k h1 h2) (fun k hk => Nat.lt_of_lt_of_le (h.tz k hk) ho.1) hm rfl rfl rfl rfl (h.paths.size st) (h.tab.size st) (h.pool.size st) (h.staged.size st) (h.folded.size st) h.pp (h.shown.size st) h.rm rfl
theorem MdAt.has (h : MdAt τ w b c tv s) (i : Int) : hasM c i = (decide (0 ≤ i) && decide (i < (s.th.length : Int))) := by unfold hasM; rw [h.nn, h.ln]
end
def opV (k i hd p t : Int) (la : Option Addr) (ln lc : Nat) (y : Int) : Value := .agg #[.int .i64 k, .int .i64 i, .int .i64 hd, .int .i64 p, .int .u64 t, .slice la ln lc, .int .i64 y]
theorem mdI_shut {τ : Nat → Nat} {w : World} {b : Nat} {s : Ms} (h : MdI τ w b s) (i hd p t : Int) (la : Option Addr) (ln lc : Nat) (y : Int) (hi : 0 ≤ i ∧ i < s.th.length) :
    Calls Tryz.prog 11 #[.pointer (some ⟨b, 0, none⟩), opV 7 i hd p t la ln lc y] w fun e w' => e = .returned (.agg #[.int .i64 0, .int .i64 0, .slice none 0 0]) ∧ MdI τ w' b { s with cl := true } ∧ StepM τ τ w w' := by
  obtain ⟨c, tv, h⟩ := h
  refine (mdShut_any h.mc i hd p t la ln lc y (by rw [h.has, decide_eq_true hi.1, decide_eq_true hi.2]; rfl)).mono ?_
  rintro e w' ⟨rfl, hm, ho⟩
  exact ⟨rfl, ⟨_, _, h.shut ho hm⟩, OnlyB.step h ho⟩
/-- What a Wait is answered. -/
def waitA (s : Ms) (p t : Int) : Int × Int := if p < 0 ∨ (s.p : Int) ≤ p then (0, 2) else if s.cl = true then (0, 8) else if t < s.shown p.toNat then (1, 0) else (0, 0)
theorem mdI_wait {τ : Nat → Nat} {w : World} {b : Nat} {s : Ms} (h : MdI τ w b s) (i hd p t : Int) (la : Option Addr) (ln lc : Nat) (y : Int) (hi : 0 ≤ i ∧ i < s.th.length) (hp : s.p ≤ 64) :
    Calls Tryz.prog 11 #[.pointer (some ⟨b, 0, none⟩), opV 6 i hd p t la ln lc y] w fun e w' => e = .returned (.agg #[.int .i64 (waitA s p t).1, .int .i64 (waitA s p t).2, .slice none 0 0]) ∧ MdI τ w' b s ∧ StepM τ τ w w' := by
  obtain ⟨c, tv, h⟩ := h
  refine (mdWait_any h.mc (F := s.shown) (by obtain ⟨g, o, h1, h2⟩ := h.sh; exact ⟨g, o, h1, h2⟩) (by rw [h.pp]; exact hp) i hd p t la ln lc y (by rw [h.has, decide_eq_true hi.1, decide_eq_true hi.2]; rfl)).mono ?_
  rintro e w' ⟨he, hb⟩
  have ha : askM c s.shown 6 p t = waitA s p t := by
    unfold askM waitA
    rw [h.pp, h.cl]
    simp
  rw [ha] at he
  exact ⟨he, ⟨c, tv, h.below hb⟩, StepM.below hb⟩
end Go.Proofs.YtdllgeanmlmmfaaGreatDoor.Md
namespace Go.Proofs.YtdllgeanmlmmfaaGreatDoor.Md
open Go.RowKit Gr Cl
set_option linter.unusedVariables false
set_option linter.unusedSimpArgs false

def MkQ (p : Prop) : Prop := p
theorem mk_ofQ {p : Prop} (h : MkQ p) : p := h
theorem MkQ.out {p : Prop} (h : p) : MkQ p := h
theorem infoBt : (Tryz.prog.info? 54).map (fun i => (i.zero, i.size, i.bytes)) = some (some (.slice none 0 0), 1, 24) := by kernel_rfl
/-- What a call at a queue leaves: the queue itself is in w1, its cell is laid last. -/
structure QP (τ τ' : Nat → Nat) (w w1 : World) (t : Nat) : Prop where
  st : StepM τ τ' w w1
  oth : ∀ k, k < w.heap.size → τ k ≠ t → w1.heap[k]? = w.heap[k]?
  tz : ∀ k, τ' k ≠ 0 → k < w1.heap.size
section
variable {τ : Nat → Nat} {w : World} {g o t : Nat} {s : Sx} {qs : List (List Batch.Ch)} {x : List Batch.Ch} {u : Sx}
theorem qat_room {gq off : Nat} {w1 : World} (h : QAt τ w t ⟨some ⟨gq, off, none⟩, s.n, s.c⟩ qs) (htz : ∀ k, τ k ≠ 0 → k < w.heap.size) (ht : 4 ≤ t) (hb : Below w.heap.size w w1) (hr : s.n + 1 ≤ s.c) (hx : Pers τ w (fun w => Batch.Sl w u.val x)) :
    QP τ (cov τ w.heap.size w1.heap.size) w (w1.setCell ⟨gq, off + s.n, none⟩ u.val) t ∧ QAt (cov τ w.heap.size w1.heap.size) (w1.setCell ⟨gq, off + s.n, none⟩ u.val) t ⟨some ⟨gq, off, none⟩, s.n + 1, s.c⟩ (qs ++ [x]) := by
  obtain ⟨h1, h2, h3, h4⟩ := h
  obtain ⟨g', off', e, h5, h6, h7, h8, h9⟩ := h4.resolve_left (fun h => by simp at h)
  simp only [Option.some.injEq, Addr.mk.injEq, and_true] at e
  obtain ⟨rfl, rfl⟩ := e
  have hsz : (w1.setCell ⟨gq, off + s.n, none⟩ u.val).heap.size = w1.heap.size := by simp
  have hs0 := hb.size
  have st0 : StepM τ (cov τ w.heap.size w1.heap.size) w w1 := StepM.cov hb
  have hg1 : gq < w1.heap.size := Nat.lt_of_lt_of_le h6 hs0
  have tg : cov τ w.heap.size w1.heap.size gq = t := (st0.ext gq h6).trans h5
  have st1 : StepM (cov τ w.heap.size w1.heap.size) (cov τ w.heap.size w1.heap.size) w1 (w1.setCell ⟨gq, off + s.n, none⟩ u.val) := StepM.set (by rw [tg]; omega) (by rw [tg]; omega) _
  have st := st0.trans st1
  have hbk : w1.heap[gq]? = w.heap[gq]? := hb.block gq h6
  have hc1 : ∀ j, w1.cell? ⟨gq, j, none⟩ = w.cell? ⟨gq, j, none⟩ := fun j => World.cell?_of_block (w := w) hbk
  have hsome : (w1.cell? ⟨gq, off + s.n, none⟩).isSome = true := by rw [hc1]; exact h8 _ (by dsimp only; omega)
  have hcs : ∀ j, j ≠ off + s.n → (w1.setCell ⟨gq, off + s.n, none⟩ u.val).cell? ⟨gq, j, none⟩ = w.cell? ⟨gq, j, none⟩ := fun j hj => (World.cell?_setCell_other _ _ _ _ (fun e => hj (by simpa using e.symm))).trans (hc1 j)
  have hcn : (w1.setCell ⟨gq, off + s.n, none⟩ u.val).cell? ⟨gq, off + s.n, none⟩ = some u.val := World.cell?_setCell_same' _ _ _ hsome
  refine ⟨⟨st, fun k hk hne => (heap_setCell_other _ _ _ _ (fun e => hne (by dsimp only at e; rw [e]; exact h5))).trans (hb.block k hk), fun k hk => by rw [hsz]; exact cov_tz htz hs0 k hk⟩, ?_⟩
  refine ⟨by dsimp only at h1 ⊢; simp [h1], hr, h3, .inr ⟨gq, off, rfl, tg, by rw [hsz]; exact hg1, fun o => ?_, fun j hj => ?_, fun j q hq => ?_⟩⟩
  · rw [World.frozen?_setCell]
    exact (World.frozen?_of_block (w := w) hbk).trans (h7 o)
  · by_cases e : j = s.n
    · subst e; rw [hcn]; rfl
    · rw [hcs _ (by omega)]; exact h8 j hj
  · by_cases e : j = s.n
    · subst e
      dsimp only at h1
      rw [h1, List.getElem?_append_right (Nat.le_refl _), Nat.sub_self] at hq
      simp at hq
      subst hq
      exact ⟨u, hcn, hx.size st⟩
    · have hjl : j < qs.length := by
        have h10 := (List.getElem?_eq_some_iff.1 hq).1
        rw [List.length_append] at h10
        dsimp only at h1
        simp at h10
        omega
      rw [List.getElem?_append_left hjl] at hq
      obtain ⟨v, hv, hp⟩ := h9 j q hq
      exact ⟨v, (hcs _ (by omega)).trans hv, hp.size st⟩
theorem qat_grow {w1 w3 : World} {g3 c3 : Nat} {us : List Sx} (hb : Below w.heap.size w w1) (hb3 : Below w1.heap.size w1 w3) (htz : ∀ k, τ k ≠ 0 → k < w.heap.size) (hus : us.length = qs.length) (hq : ∀ (j : Nat) v q, us[j]? = some v → qs[j]? = some q → Pers τ w (fun w => Batch.Sl w v.val q)) (hx : Pers τ w (fun w => Batch.Sl w u.val x))
    (ho : w3.ownsRow w1.heap.size 54 1 (.slice (some ⟨g3, 0, none⟩) (qs.length + 1) c3) (qs.length + 1) (us.map Sx.val ++ [u.val])) :
    ∃ τ', QP τ τ' w w3 t ∧ QAt τ' w3 t ⟨some ⟨g3, 0, none⟩, qs.length + 1, c3⟩ (qs ++ [x]) := by
  have hs0 := hb.size
  have hs3 := hb3.size
  have hg := own_has ho (g := g3) rfl
  have hbb := hb.trans (hb3.mono hs0)
  obtain ⟨τ', hτ⟩ : ∃ τ' : Nat → Nat, τ' = fun k => if k < w.heap.size then τ k else if k = g3 then t else if k < w3.heap.size then 3 else 0 := ⟨_, rfl⟩
  have hold : ∀ k, k < w.heap.size → τ' k = τ k := fun k hk => by rw [hτ]; exact if_pos hk
  have st : StepM τ τ' w w3 := ⟨hbb.mono (Nat.zero_le _), hold, fun k hk _ => hbb.block k hk⟩
  have hrow := ho.2
  refine ⟨τ', ⟨st, fun k hk _ => hbb.block k hk, fun k hk => ?_⟩, ?_⟩
  · by_cases h1 : k < w.heap.size
    · omega
    · rw [hτ] at hk
      dsimp only at hk
      rw [if_neg h1] at hk
      by_cases h2 : k = g3
      · omega
      · rw [if_neg h2] at hk
        by_cases h3 : k < w3.heap.size
        · exact h3
        · rw [if_neg h3] at hk; exact absurd rfl hk
  · rcases hrow with ⟨h, _⟩ | ⟨g', cap, cur, h, _, hh, hn, hm, hsz, htk⟩
    · simp at h
    · simp at h
      obtain ⟨rfl, rfl⟩ := h
      have hcell : ∀ j, w3.cell? ⟨g3, j, none⟩ = cur[j]? := fun j => cell_of_row _ _ _ _ _ _ hh
      have hall : ∀ j v, (us.map Sx.val ++ [u.val])[j]? = some v → w3.cell? ⟨g3, j, none⟩ = some v := fun j v hv => by
        have := World.ownsRow.cells ho (g := g3) rfl j v hv
        rwa [show ((⟨g3, 0, none⟩ : Addr).add j) = ⟨g3, j, none⟩ by unfold Addr.add; split <;> simp_all] at this
      refine ⟨by simp, hn, by unfold maxLen at hm; exact hm, .inr ⟨g3, 0, rfl, by rw [hτ]; dsimp only; rw [if_neg (by omega), if_pos rfl], hg.2, fun o => by simp [World.frozen?, hh], fun j hj => ?_, fun j q hjq => ?_⟩⟩
      · rw [Nat.zero_add, hcell, Array.getElem?_eq_getElem (by rw [hsz]; dsimp only at hj; omega)]; rfl
      · rw [Nat.zero_add]
        by_cases e : j = qs.length
        · subst e
          rw [List.getElem?_append_right (Nat.le_refl _), Nat.sub_self] at hjq
          simp at hjq
          subst hjq
          exact ⟨u, hall _ _ (by rw [List.getElem?_append_right (by simp [hus]), List.length_map, hus, Nat.sub_self]; rfl), hx.size st⟩
        · have hjl : j < qs.length := by
            have := (List.getElem?_eq_some_iff.1 hjq).1
            simp at this
            omega
          rw [List.getElem?_append_left hjl] at hjq
          have hju : us[j]? = some us[j] := List.getElem?_eq_getElem (by omega)
          exact ⟨us[j], hall _ _ (by rw [List.getElem?_append_left (by rw [List.length_map]; omega), List.getElem?_map, hju]; rfl), (hq j _ q hju hjq).size st⟩
theorem qat_list (h : QAt τ w t s qs) : ∃ us : List Sx, us.length = qs.length ∧ (∀ (j : Nat) v q, us[j]? = some v → qs[j]? = some q → Pers τ w (fun w => Batch.Sl w v.val q)) ∧ ∀ g off, s.a = some ⟨g, off, none⟩ → ∀ (j : Nat) v, us[j]? = some v → w.cell? ⟨g, off + j, none⟩ = some v.val := by
  obtain ⟨h1, h2, h3, h4⟩ := h
  rcases h4 with ⟨_, rfl, _⟩ | ⟨g, off, e, _, _, _, _, h9⟩
  · exact ⟨[], rfl, fun j v q h => by simp at h, fun g off _ j v h => by simp at h⟩
  · have hch : ∀ j, j < qs.length → ∃ v : Sx, w.cell? ⟨g, off + j, none⟩ = some v.val ∧ ∀ q, qs[j]? = some q → Pers τ w (fun w => Batch.Sl w v.val q) := fun j hj => by
      obtain ⟨v, hv, hp⟩ := h9 j _ (List.getElem?_eq_getElem hj)
      exact ⟨v, hv, fun q hq => by rw [List.getElem?_eq_getElem hj] at hq; rw [← Option.some.inj hq]; exact hp⟩
    refine ⟨(List.range qs.length).map fun j => if hj : j < qs.length then Classical.choose (hch j hj) else sx0, by simp, fun j v q hv hq => ?_, fun g' off' e' j v hv => ?_⟩
    · have hj := (List.getElem?_eq_some_iff.1 hq).1
      rw [List.getElem?_map, List.getElem?_range hj, Option.map_some, dif_pos hj] at hv
      rw [← Option.some.inj hv]
      exact (Classical.choose_spec (hch j hj)).2 q hq
    · have hj : j < qs.length := by have := (List.getElem?_eq_some_iff.1 hv).1; simpa using this
      rw [List.getElem?_map, List.getElem?_range hj, Option.map_some, dif_pos hj] at hv
      rw [e] at e'
      simp only [Option.some.injEq, Addr.mk.injEq, and_true] at e'
      obtain ⟨rfl, rfl⟩ := e'
      rw [← Option.some.inj hv]
      exact (Classical.choose_spec (hch j hj)).1
end
end Go.Proofs.YtdllgeanmlmmfaaGreatDoor.Md
