/-
  PACKAGE model: push and pop of a queue.
  PACKAGE model: what isn't the Model's is written: it stays as it is.
-/
import Derived.Test.YtdllgeanmlmmfaaGreatDoorJoined17
import Derived.StillTactics
namespace Go.Proofs.YtdllgeanmlmmfaaGreatDoor.Md
open Go.RowKit Gr Cl
set_option linter.unusedVariables false
set_option linter.unusedSimpArgs false
section
variable {τ : Nat → Nat} {w : World} {g o t : Nat} {s : Sx} {qs : List (List Batch.Ch)} {x : List Batch.Ch} {u : Sx}
set_option maxRecDepth 1000000 in
set_option maxHeartbeats 16000000 in
theorem mdPush_any (h : QAt τ w t s qs) (ht : 4 ≤ t) (htz : ∀ k, τ k ≠ 0 → k < w.heap.size) (hg : τ g = 2) (hc : w.cell? ⟨g, o, none⟩ = some s.val) (hf : w.frozen? ⟨g, o, none⟩ = false) (hl : qs.length ≤ 1000) (hx : Pers τ w (fun w => Batch.Sl w u.val x)) :
    Calls Tryz.prog 68 #[.pointer (some ⟨g, o, none⟩), u.val] w fun e w' => e = .returned (.tuple #[]) ∧ ∃ τ' s' w1, QP τ τ' w w1 t ∧ QAt τ' w1 t s' (qs ++ [x]) ∧ w' = w1.setCell ⟨g, o, none⟩ s'.val := by
  obtain ⟨i0, hi0, hz0, hz1, hz2⟩ := Gr.info_parts infoBt
  obtain ⟨us, hus, hpu, hcu⟩ := qat_list h
  obtain ⟨sa, sn, sc⟩ := s
  obtain ⟨ua, un, uc⟩ := u
  have hgl : g < w.heap.size := Lib.lt_of_cell hc
  have hne : ∀ gq off, sa = some ⟨gq, off, none⟩ → gq ≠ g := fun gq off e e2 => by
    rcases h.2.2.2 with ⟨h1, _⟩ | ⟨g', off', h1, h2, _⟩
    · dsimp only at h1; rw [e] at h1; simp at h1
    · dsimp only at h1; rw [e] at h1; simp at h1; rw [← h1.1, e2] at h2; omega
  have HQ := Lib.hid h
  have HTZ := Lib.hid htz
  have HX := Lib.hid hx
  have HG := Lib.hid hg
  have HPU := Lib.hid hpu
  have HCU := Lib.hid hcu
  have HUS := Lib.hid hus
  have HLT := Lib.hid (And.intro ht hl)
  have HGL := Lib.hid hgl
  obtain ⟨w1, hw1⟩ : ∃ w1, w1 = w.alloc (.cells #[.slice ua un uc] 54) := ⟨_, rfl⟩
  have hb1 : Below w.heap.size w w1 := by rw [hw1]; exact (Below.refl _ _).alloc (Nat.le_refl _) _
  have HB1 := Lib.hid hb1
  have HN1 := Lib.hid (show w1.heap[w.heap.size]? = some (.cells #[.slice ua un uc] 54 (0, 0)) by rw [hw1]; exact heap_alloc_new w _)
  have HS1 := Lib.hid (show w1.heap.size = w.heap.size + 1 by rw [hw1]; simp)
  have HC1 := Lib.hid ((hb1.cell (p := ⟨g, o, none⟩) hgl).trans hc)
  have HF1 := Lib.hid ((hb1.frozen (p := ⟨g, o, none⟩) hgl).trans hf)
  have HW1 := Lib.hid hw1
  have h0 := h.1
  have h2 := h.2.1
  have h3 := h.2.2.2
  dsimp only at h0 h2 h3
  unfold Sx.val at hc
  clear h htz hx hg hpu hcu ht hl hgl hb1 hw1
  show Calls Tryz.prog 68 #[.pointer (some ⟨g, o, none⟩), .slice ua un uc] w _
  go_enter Tryz.func68, Tryz.ntmps68
  go_wp2_with (first | (at_builtin; refine mk_ofQ ?_))
  refine MkQ.out ?_
  rw [← HW1.out]
  clear hc hf
  have hone : ∀ v ∈ us.map Sx.val, v.oneCell' = true := by
    intro v hv
    obtain ⟨y, _, rfl⟩ := List.mem_map.1 hv
    rfl
  have hsrc : ∀ (j : Nat) v, ([.slice ua un uc] : List Value)[j]? = some v → w1.cell? ((⟨w.heap.size, 0, none⟩ : Addr).add j) = some v := fun j v hv => by
    match j, hv with
    | 0, hv => simp at hv; subst hv; simp [World.cell?, HN1.out, Addr.add]
    | k + 1, hv => simp at hv
  rcases h3 with ⟨rfl, rfl, rfl⟩ | ⟨gq, off, rfl, h5, h6, h7, h8, _⟩
  · obtain rfl : us = [] := List.eq_nil_of_length_eq_zero (by rw [hus]; rfl)
    obtain rfl : sn = 0 := h0
    refine wpList_append_grows _ rfl (.tmp 7) (.tmp 9) 93 rfl 54 i0 (.slice none 0 0) 1 24 Tryz.underlying93 hi0 hz0 hz1 hz2 rfl (by decide) none 0 0 [] rfl (fun _ => ⟨rfl, rfl⟩) rfl (fun b hb => by cases hb) ⟨w.heap.size, 0, none⟩ 1 1 [.slice ua un uc] rfl rfl hsrc (by intro v hv; simp at hv; subst hv; rfl) (by decide) (by decide) (by decide) ?_
    intro v3 w3 hown3 hg3
    obtain ⟨g3, c3, rfl, _⟩ := hown3.form (Nat.succ_pos _)
    have hb13 : Below w1.heap.size w1 w3 := ⟨hg3.os, hg3.tape, hg3.output, hg3.size, fun k hk => hg3.block k hk (by simp)⟩
    obtain ⟨τ', hqp, hqa⟩ := qat_grow (t := t) (u := ⟨ua, un, uc⟩) (x := x) (qs := []) (us := []) HB1.out hb13 HTZ.out rfl HPU.out HX.out (by simpa [Sx.val] using hown3)
    have HF := Lib.hid (And.intro hqp hqa)
    have hl1 : g < w1.heap.size := Lib.lt_of_cell HC1.out
    have z0 := (hb13.cell (p := ⟨g, o, none⟩) hl1).trans HC1.out
    have zf := (hb13.frozen (p := ⟨g, o, none⟩) hl1).trans HF1.out
    unfold Sx.val at z0
    clear hown3 hg3 hb13 hqp hqa hl1
    go_wp2_with fail
    go_end0
    exact ⟨rfl, τ', ⟨some ⟨g3, 0, none⟩, 0 + 1, c3⟩, w3, HF.out.1, HF.out.2, rfl⟩
  · refine wpList_append_arg _ rfl (.tmp 7) (.tmp 9) 93 rfl 54 i0 (.slice none 0 0) 1 24 Tryz.underlying93 hi0 hz0 hz1 hz2 rfl (by decide) gq off qs.length sc (us.map Sx.val) rfl (by simp [hus]) ?holds ⟨w.heap.size, 0, none⟩ 1 1 [.slice ua un uc] rfl rfl hsrc (by intro v hv; simp at hv; subst hv; rfl) ?spare (by have := HLT.out.2; unfold maxLen; omega) (by have := HLT.out.2; omega) ?room ?grow
    case holds =>
      intro j v hv
      obtain ⟨y, hy, rfl⟩ := Option.map_eq_some_iff.1 (by simpa using hv : (us[j]?).map Sx.val = some v)
      exact (HB1.out.cell (p := ⟨gq, off + j, none⟩) h6).trans (HCU.out gq off rfl j y hy)
    case spare =>
      intro hr j hj
      obtain rfl : j = 0 := by simp at hj; exact hj
      refine ⟨?_, (HB1.out.frozen (p := ⟨gq, _, none⟩) h6).trans (h7 _)⟩
      rw [HB1.out.cell (p := ⟨gq, _, none⟩) h6]
      have := h8 qs.length (by omega)
      simpa using this
    case room =>
      intro hr
      have hh := HQ.out
      obtain ⟨hqp, hqa⟩ := qat_room (τ := τ) (w := w) (s := ⟨some ⟨gq, off, none⟩, sn, sc⟩) (u := ⟨ua, un, uc⟩) HQ.out HTZ.out HLT.out.1 HB1.out (by dsimp only; omega) HX.out
      have HF := Lib.hid (And.intro hqp hqa)
      have hgq := hne gq off rfl
      have z0 := HC1.out
      have zf := HF1.out
      unfold Sx.val at z0
      clear hh hqp hqa
      simp only [World.setCells]
      rw [← h0]
      generalize hwx : w1.setCell ⟨gq, off + sn * 1, none⟩ (.slice ua un uc) = wx
      have HWX := Lib.hid hwx
      have z1 := (show wx.cell? ⟨g, o, none⟩ = w1.cell? ⟨g, o, none⟩ by rw [← hwx]; exact World.cell?_setCell_far _ _ _ _ hgq).trans z0
      have zf1 : wx.frozen? ⟨g, o, none⟩ = false := by rw [← hwx, World.frozen?_setCell]; exact zf
      have HF2 : Hid (QP τ (cov τ w.heap.size w1.heap.size) w wx t ∧ QAt (cov τ w.heap.size w1.heap.size) wx t ⟨some ⟨gq, off, none⟩, qs.length + 1, sc⟩ (qs ++ [x])) := Lib.hid (by
        rw [← HWX.out, Nat.mul_one, ← h0]
        exact HF.out)
      clear z0 zf hwx
      go_wp2_with fail
      go_end0
      exact ⟨rfl, _, ⟨some ⟨gq, off, none⟩, qs.length + 1, sc⟩, wx, HF2.out.1, HF2.out.2, rfl⟩
    case grow =>
    intro hr v3 w3 hown3 hg3
    obtain ⟨g3, c3, rfl, _⟩ := hown3.form (Nat.succ_pos _)
    have hb13 : Below w1.heap.size w1 w3 := ⟨hg3.os, hg3.tape, hg3.output, hg3.size, fun k hk => hg3.block k hk (by simp)⟩
    obtain ⟨τ', hqp, hqa⟩ := qat_grow (t := t) (u := ⟨ua, un, uc⟩) (x := x) (qs := qs) (us := us) HB1.out hb13 HTZ.out hus HPU.out HX.out (by simpa [Sx.val] using hown3)
    have HF := Lib.hid (And.intro hqp hqa)
    have hl1 : g < w1.heap.size := Lib.lt_of_cell HC1.out
    have z0 := (hb13.cell (p := ⟨g, o, none⟩) hl1).trans HC1.out
    have zf := (hb13.frozen (p := ⟨g, o, none⟩) hl1).trans HF1.out
    unfold Sx.val at z0
    clear hown3 hg3 hb13 hqp hqa hl1
    go_wp2_with fail
    go_end0
    exact ⟨rfl, τ', ⟨some ⟨g3, 0, none⟩, qs.length + 1, c3⟩, w3, HF.out.1, HF.out.2, rfl⟩
/-- One that was taken: what is left. -/
theorem qat_pop {gq off : Nat} {rest : List (List Batch.Ch)} (h : QAt τ w t ⟨some ⟨gq, off, none⟩, s.n, s.c⟩ (x :: rest)) (htz : ∀ k, τ k ≠ 0 → k < w.heap.size) (ht : 4 ≤ t) :
    QP τ τ w (w.setCell ⟨gq, off, none⟩ (.slice none 0 0)) t ∧ QAt τ (w.setCell ⟨gq, off, none⟩ (.slice none 0 0)) t ⟨some ⟨gq, if s.c = 1 then off else off + 1, none⟩, s.n - 1, s.c - 1⟩ rest := by
  obtain ⟨h1, h2, h3, h4⟩ := h
  obtain ⟨g', off', e, h5, h6, h7, h8, h9⟩ := h4.resolve_left (fun h => by simp at h)
  simp only [Option.some.injEq, Addr.mk.injEq, and_true] at e
  obtain ⟨rfl, rfl⟩ := e
  dsimp only [List.length_cons] at h1 h2 h3 h8
  have st : StepM τ τ w (w.setCell ⟨gq, off, none⟩ (.slice none 0 0)) := StepM.set (by omega) (by omega) _
  have hcs : ∀ j, j ≠ off → (w.setCell ⟨gq, off, none⟩ (.slice none 0 0)).cell? ⟨gq, j, none⟩ = w.cell? ⟨gq, j, none⟩ := fun j hj => World.cell?_setCell_other _ _ _ _ (fun e => hj (by simpa using e.symm))
  refine ⟨⟨st, fun k hk hne => heap_setCell_other _ _ _ _ (fun e => hne (by dsimp only at e; rw [e]; exact h5)), fun k hk => by simpa using htz k hk⟩, by dsimp only; omega, by dsimp only; omega, by dsimp only; omega, .inr ⟨gq, _, rfl, h5, by simpa using h6, fun o => by rw [World.frozen?_setCell]; exact h7 o, fun j hj => ?_, fun j q hq => ?_⟩⟩
  · dsimp only at hj
    rw [if_neg (by omega), hcs _ (by omega)]
    have := h8 (j + 1) (by omega)
    rwa [show off + (j + 1) = off + 1 + j by omega] at this
  · have hj := (List.getElem?_eq_some_iff.1 hq).1
    obtain ⟨v, hv, hp⟩ := h9 (j + 1) q (by simpa using hq)
    refine ⟨v, ?_, hp.size st⟩
    rw [if_neg (by omega), hcs _ (by omega)]
    rwa [show off + (j + 1) = off + 1 + j by omega] at hv
set_option maxRecDepth 1000000 in
set_option maxHeartbeats 16000000 in
theorem mdPop_any {rest : List (List Batch.Ch)} (h : QAt τ w t s (x :: rest)) (ht : 4 ≤ t) (htz : ∀ k, τ k ≠ 0 → k < w.heap.size) (hg : τ g = 2) (hc : w.cell? ⟨g, o, none⟩ = some s.val) (hf : w.frozen? ⟨g, o, none⟩ = false) :
    Calls Tryz.prog 69 #[.pointer (some ⟨g, o, none⟩)] w fun e w' => ∃ (u s' : Sx) (w1 : World), e = .returned u.val ∧ Pers τ w (fun w => Batch.Sl w u.val x) ∧ QP τ τ w w1 t ∧ QAt τ w1 t s' rest ∧ w' = w1.setCell ⟨g, o, none⟩ s'.val := by
  obtain ⟨sa, sn, sc⟩ := s
  have hgl : g < w.heap.size := Lib.lt_of_cell hc
  have h0 := h.1
  have h2 := h.2.1
  obtain ⟨gq, off, e, h5, h6, h7, h8, h9⟩ := h.2.2.2.resolve_left (fun h => by have := h.2.1; simp at this)
  dsimp only [List.length_cons] at h0 h2 e
  subst e
  obtain ⟨⟨ua, un, uc⟩, hu, hup⟩ := h9 0 x rfl
  rw [Nat.add_zero] at hu
  have HP := Lib.hid hup
  obtain ⟨hqp, hqa⟩ := qat_pop (s := ⟨some ⟨gq, off, none⟩, sn, sc⟩) h htz ht
  have HF := Lib.hid (And.intro hqp hqa)
  have hne : gq ≠ g := fun e => by rw [e, hg] at h5; omega
  have hne' : g ≠ gq := Ne.symm hne
  have hfq := h7 off
  have q0 : (0 : Int) < (sn : Int) := by omega
  have q1 : (1 : Int) ≤ (sn : Int) := by omega
  have q2 : (sn : Int) ≤ (sc : Int) := by omega
  unfold Sx.val at hc hu
  clear hup hqp hqa h h5 h6 h7 h8 h9 ht htz hg
  by_cases hs1 : sc = 1
  · subst hs1
    have HF2 := Lib.hid (show QAt τ (w.setCell ⟨gq, off, none⟩ (.slice none 0 0)) t ⟨some ⟨gq, off, none⟩, rest.length, 0⟩ rest by
      have := HF.out.2
      dsimp only at this
      rw [if_pos rfl, h0] at this
      exact this)
    go_enter Tryz.func69, Tryz.ntmps69
    go_wp2_with fail
    go_ret
    exact ⟨⟨ua, un, uc⟩, rfl, HP.out, _, _, HF.out.1, HF2.out, rfl⟩
  · have HF2 := Lib.hid (show QAt τ (w.setCell ⟨gq, off, none⟩ (.slice none 0 0)) t ⟨some ⟨gq, off + 1, none⟩, rest.length, sc - 1⟩ rest by
      have := HF.out.2
      dsimp only at this
      rw [if_neg hs1, h0] at this
      exact this)
    go_enter Tryz.func69, Tryz.ntmps69
    go_wp2_with fail
    go_ret
    exact ⟨⟨ua, un, uc⟩, rfl, HP.out, _, _, HF.out.1, HF2.out, rfl⟩
end
end Go.Proofs.YtdllgeanmlmmfaaGreatDoor.Md
namespace Go.Proofs.YtdllgeanmlmmfaaGreatDoor.Md
open Go.RowKit Gr Cl
set_option linter.unusedVariables false
set_option linter.unusedSimpArgs false
/-- Only blocks that aren't its own are other ones. -/
def Zr (τ : Nat → Nat) (w w' : World) : Prop := w.heap.size ≤ w'.heap.size ∧ ∀ k, k < w.heap.size → τ k ≠ 0 → w'.heap[k]? = w.heap[k]?
section
variable {τ τ' : Nat → Nat} {w w' w'' : World} {F : World → Prop} {b t : Nat} {c : Mc} {tv : List Tv} {s : Ms} {q : Sx} {qs : List (List Batch.Ch)}
theorem Zr.refl (τ : Nat → Nat) (w : World) : Zr τ w w := ⟨Nat.le_refl _, fun _ _ _ => rfl⟩
theorem Zr.trans (h : Zr τ w w') (k : Zr τ w' w'') : Zr τ w w'' := ⟨Nat.le_trans h.1 k.1, fun i hi ht => (k.2 i (Nat.lt_of_lt_of_le hi h.1) ht).trans (h.2 i hi ht)⟩
theorem Zr.set (h : Zr τ w w') {g o : Nat} (hg : τ g = 0) (u : Value) : Zr τ w (w'.setCell ⟨g, o, none⟩ u) := ⟨by simpa using h.1, fun k hk ht => (heap_setCell_other _ _ _ _ (fun e => by dsimp only at e; rw [e] at ht; exact ht hg)).trans (h.2 k hk ht)⟩
theorem Zr.below (hb : Below w.heap.size w w') : Zr τ w w' := ⟨hb.size, fun k hk _ => hb.block k hk⟩
theorem Pers.zero (h : Pers τ w F) (z : Zr τ w w') : Pers τ w' F := h.re z.1 fun k hk h3 => ⟨h3, z.2 k hk (by omega)⟩
theorem QAt.zero (h : QAt τ w t q qs) (ht : t ≠ 0) (z : Zr τ w w') : QAt τ w' t q qs := by
  obtain ⟨h1, h2, h3, h4⟩ := h
  refine ⟨h1, h2, h3, ?_⟩
  rcases h4 with h4 | ⟨g, off, e, h5, h6, h7, h8, h9⟩
  · exact .inl h4
  · have hb := z.2 g h6 (by omega)
    exact .inr ⟨g, off, e, h5, Nat.lt_of_lt_of_le h6 z.1, fun o => (World.frozen?_of_block (w := w) hb).trans (h7 o), fun j hj => by rw [World.cell?_of_block (w := w) hb]; exact h8 j hj, fun j q hq => by
      obtain ⟨u, hu, hp⟩ := h9 j q hq
      exact ⟨u, (World.cell?_of_block (w := w) hb).trans hu, hp.zero z⟩⟩
theorem MdAt.zero (h : MdAt τ w b c tv s) (z : Zr τ w w') : MdAt τ w' b c tv s := by
  have hbl := h.mc.lt
  refine ⟨(z.2 b hbl (by rw [h.tb]; decide)).trans h.mc, h.tb, fun k hk => Nat.lt_of_lt_of_le (h.tz k hk) z.1, own_blk h.row fun g hg => ?_, h.tt, h.nn, h.ln, fun i t x h1 h2 => ?_, h.paths.zero z, h.tab.zero z, h.pool.zero z, h.staged.zero z, h.folded.zero z, h.pp, h.shown.zero z, h.rm, h.cl⟩
  · have hl := (own_has h.row hg).2
    cases hth : c.th with
    | none => rw [hth] at hg; simp [Value.ownBlock] at hg
    | some a =>
      rw [hth] at hg
      simp [Value.ownBlock] at hg
      have := h.tt a hth
      rw [hg] at this
      exact z.2 g hl (by omega)
  · have h3 := h.thr i t x h1 h2
    exact ⟨h3.hs.zero z, h3.bs.zero z, h3.off.zero (by omega) z, h3.ring.zero (by omega) z⟩
theorem MdI.zero (h : MdI τ w b s) (z : Zr τ w w') : MdI τ w' b s := by obtain ⟨c, tv, h⟩ := h; exact ⟨c, tv, h.zero z⟩
theorem MdI.below (h : MdI τ w b s) (hb : Below w.heap.size w w') : MdI τ w' b s := h.zero (Zr.below hb)
theorem MdI.tz (h : MdI τ w b s) : ∀ k, τ k ≠ 0 → k < w.heap.size := by obtain ⟨c, tv, h⟩ := h; exact h.tz
end
end Go.Proofs.YtdllgeanmlmmfaaGreatDoor.Md
