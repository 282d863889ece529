/-
  PACKAGE model: comeIn: a thread's first handles, while a Model is made.
-/
import Derived.Test.YtdllgeanmlmmfaaGreatDoorMdSt
import Derived.Test.YtdllgeanmlmmfaaGreatDoorJoined2
import Derived.WalkKit
import Derived.Deep.Cut
namespace Go.Proofs.YtdllgeanmlmmfaaGreatDoor.Md
open Go.RowKit Gr
set_option linter.unusedVariables false
set_option linter.unusedSimpArgs false

/-- A Table of which i places are taken. -/
def tabN : Nat → List Tb.So
  | 0 => Tb.freshL
  | i + 1 => (tabN i).set i (0, true)
theorem tabN_length (i : Nat) : (tabN i).length = 64 := by
  induction i with
  | zero => simp [tabN, Tb.freshL]
  | succ i ih => simp [tabN, ih]
theorem tabN_at {i k : Nat} (hk : k < 64) : (tabN i)[k]? = some ((0 : Int), decide (k < i)) := by
  induction i with
  | zero =>
    rw [show tabN 0 = List.replicate 64 ((0 : Int), false) from rfl, List.getElem?_replicate, if_pos hk, decide_eq_false (Nat.not_lt_zero k)]
  | succ i ih =>
    unfold tabN
    rw [List.getElem?_set]
    by_cases e : i = k
    · subst e
      rw [if_pos rfl, if_pos (by rw [tabN_length]; exact hk), decide_eq_true (Nat.lt_succ_self i)]
    · rw [if_neg e, ih]
      congr 2
      exact decide_eq_decide.2 (by omega)
theorem tabN_free {i : Nat} (hi : i < 64) : Tb.FreeP (tabN i) (i : Int) := by
  refine .inr ⟨i, 0, rfl, by rw [tabN_at hi, decide_eq_false (Nat.lt_irrefl i)], fun x hx => ?_⟩
  obtain ⟨k, hk⟩ := List.mem_iff_getElem?.1 hx
  have hki : k < i := by have := (List.getElem?_eq_some_iff.1 hk).1; rw [List.length_take] at this; omega
  rw [List.getElem?_take_of_lt hki, tabN_at (by omega)] at hk
  obtain rfl := Option.some.inj hk
  exact decide_eq_true hki
theorem tabN_wf (i : Nat) : ∀ x ∈ tabN i, Tb.slK.wf x := by
  intro x hx
  obtain ⟨k, hk⟩ := List.mem_iff_getElem?.1 hx
  have hkl : k < 64 := by have := (List.getElem?_eq_some_iff.1 hk).1; rw [tabN_length] at this; exact this
  rw [tabN_at hkl] at hk
  obtain rfl := Option.some.inj hk
  exact ⟨show (-9223372036854775808 : Int) ≤ 0 by decide, show (0 : Int) ≤ 9223372036854775807 by decide⟩
/-- The handles of thread j when i inputs are there. -/
def newH (I : List Int) (T i j : Nat) : List Ed := ((List.range i).filter fun k => k % T == j).map fun (k : Nat) => (⟨(k : Int), I.getD k 0, 0⟩ : Ed)
theorem newH_succ (I : List Int) (T i j : Nat) : newH I T (i + 1) j = if i % T = j then newH I T i j ++ [⟨(i : Int), I.getD i 0, 0⟩] else newH I T i j := by
  unfold newH
  rw [List.range_succ, List.filter_append, List.map_append]
  by_cases h : i % T = j
  · rw [if_pos h]; simp [h]
  · rw [if_neg h]; simp [h]
theorem newH_length (I : List Int) (T i j : Nat) : (newH I T i j).length ≤ i := by
  unfold newH; rw [List.length_map]; exact Nat.le_trans (List.length_filter_le _ _) (by simp)
/-- A Model in the making. -/
structure NwAt (τ : Nat → Nat) (w : World) (b : Nat) (c : Mc) (tv : List Tv) (I : List Int) (T i : Nat) : Prop where
  mc : McAt w b c
  tb : τ b = 1
  tz : ∀ k, τ k ≠ 0 → k < w.heap.size
  row : Rw.Own thK w 0 95 (.slice c.th c.n c.cth) tv
  tt : ∀ g, c.th = some g → τ g.block = 2
  nn : c.n = tv.length
  nT : tv.length = T
  tab : Pers τ w (fun w => Rw.Sl Tb.slK w c.vt (tabN i))
  hs : ∀ (j : Nat) t, tv[j]? = some t → Own w 0 107 t.h.val (newH I T i j) ∧ (∀ g, t.h.val.ownBlock = some g → τ g = 10 + j) ∧ t.b = sx0 ∧ t.o = sx0 ∧ t.r = sx0
theorem infoHd : (Tryz.prog.info? 107).map (fun i => (i.zero, i.size, i.bytes)) = some (some (.agg #[.int .i64 0, .int .i64 0, .int .u64 0]), 3, 24) := by kernel_rfl
theorem th_form {w : World} {base : Nat} {T : TypeId} {a : Option Addr} {n cap : Nat} {tv : List Tv} (h : Rw.Own thK w base T (.slice a n cap) tv) {i : Nat} (hi : i < tv.length) : ∃ g, a = some ⟨g, 0, none⟩ ∧ n = tv.length ∧ g < w.heap.size := by
  rcases h.form with ⟨h1, _⟩ | ⟨g, c, h1, _, h2, _⟩
  · rw [h1] at hi; simp at hi
  · simp at h1
    obtain ⟨rfl, rfl, _⟩ := h1
    exact ⟨g, rfl, rfl, h2⟩
theorem th_cells {w : World} {base g n cap : Nat} {T : TypeId} {tv : List Tv} (h : Rw.Own thK w base T (.slice (some ⟨g, 0, none⟩) n cap) tv) {i : Nat} {t : Tv} (hi : tv[i]? = some t) :
    w.cell? ⟨g, i * 4, none⟩ = some t.h.val ∧ w.cell? ⟨g, i * 4 + 1, none⟩ = some t.b.val ∧ w.cell? ⟨g, i * 4 + 2, none⟩ = some t.o.val ∧ w.cell? ⟨g, i * 4 + 3, none⟩ = some t.r.val ∧ ∀ o, w.frozen? ⟨g, o, none⟩ = false :=
  ⟨h.at hi 0 _ (by decide) rfl, h.at hi 1 _ (by decide) rfl, h.at hi 2 _ (by decide) rfl, h.at hi 3 _ (by decide) rfl, h.free⟩
/-- One of a thread's cells is laid anew. -/
theorem th_set {w : World} {g n cap : Nat} {T : TypeId} {tv : List Tv} (h : Rw.Own thK w 0 T (.slice (some ⟨g, 0, none⟩) n cap) tv) {i : Nat} {t : Tv} (hi : tv[i]? = some t) {k : Nat} (hk : k < 4) {u : Sx} {t' : Tv} (he : thK.cells t' = (thK.cells t).set k u.val) : Rw.Own thK (w.setCell ⟨g, i * 4 + k, none⟩ u.val) 0 T (.slice (some ⟨g, 0, none⟩) n cap) (tv.set i t') := by
  have hl := (List.getElem?_eq_some_iff.1 hi).1
  have hf : thK.flat (tv.set i t') = (thK.flat tv).set (i * 4 + k) u.val := by
    have hc := thK.len t
    rw [thK_k] at hc
    apply List.ext_getElem?
    intro j
    have hfl : (thK.flat tv).length = tv.length * 4 := Rw.flat_length tv
    have hfl' : (thK.flat (tv.set i t')).length = tv.length * 4 := by rw [Rw.flat_length, List.length_set]; rfl
    by_cases hj : j < tv.length * 4
    · have hjd : j / 4 < tv.length := by omega
      have hm : j % 4 < 4 := Nat.mod_lt _ (by decide)
      have hjj : j / 4 * 4 + j % 4 = j := by omega
      obtain ⟨x, hx⟩ : ∃ x, tv[j / 4]? = some x := ⟨_, List.getElem?_eq_getElem hjd⟩
      have a1 := Rw.flat_at (S := thK) hx (j % 4) hm
      rw [thK_k, hjj] at a1
      by_cases e : i = j / 4
      · have a2 := Rw.flat_at (S := thK) (l := tv.set i t') (i := j / 4) (x := t') (by rw [← e]; exact List.getElem?_set_self hl) (j % 4) hm
        rw [thK_k, hjj] at a2
        rw [a2, he]
        have et : x = t := by
          rw [← e, hi] at hx
          exact (Option.some.inj hx).symm
        rw [et] at a1
        rw [List.getElem?_set, List.getElem?_set]
        by_cases e2 : k = j % 4
        · rw [if_pos e2, if_pos (show k < _ by rw [hc]; exact hk), if_pos (show i * 4 + k = j by omega), if_pos (show i * 4 + k < _ by rw [hfl]; omega)]
        · rw [if_neg e2, if_neg (show ¬ i * 4 + k = j by omega), a1]
      · have a2 := Rw.flat_at (S := thK) (l := tv.set i t') (i := j / 4) (x := x) (by rw [List.getElem?_set_ne e]; exact hx) (j % 4) hm
        rw [thK_k, hjj] at a2
        rw [a2, List.getElem?_set_ne (by omega), a1]
    · rw [List.getElem?_eq_none (by omega), List.getElem?_eq_none (by rw [List.length_set]; omega)]
  unfold Rw.Own
  rw [hf, List.length_set]
  exact Rw.row_set h (by show i * 4 + k < tv.length * 4; omega) _
section
variable {τ : Nat → Nat} {w w1 w3 : World} {b g i j T : Nat} {c : Mc} {tv : List Tv} {I : List Int} {t : Tv} {vt : Value} {sh : Sx}
/-- When a handle came in. -/
theorem NwAt.come (h : NwAt τ w b c tv I T i) (hth : c.th = some ⟨g, 0, none⟩) (ht : tv[j]? = some t) (hj : i % T = j) (hb1 : Below w.heap.size w w1) (hvt : Rw.Own Tb.slK w1 w.heap.size 173 vt (tabN (i + 1)))
    (hb2 : w1.heap.size ≤ w3.heap.size) (hbz : Below 0 w1 w3) (hb3 : ∀ k, k < w1.heap.size → t.h.val.ownBlock ≠ some k → w3.heap[k]? = w1.heap[k]?) (hown : Own w3 0 107 sh.val (newH I T i j ++ [⟨(i : Int), I.getD i 0, 0⟩]))
    (hblk : sh.val.ownBlock = t.h.val.ownBlock ∨ ∃ g2, sh.val.ownBlock = some g2 ∧ w1.heap.size ≤ g2) :
    ∃ τ', NwAt τ' ((w3.setCell ⟨b, 2, none⟩ vt).setCell ⟨g, j * 4, none⟩ sh.val) b { c with vt := vt } (tv.set j { t with h := sh }) I T (i + 1) ∧ StepM τ τ' w ((w3.setCell ⟨b, 2, none⟩ vt).setCell ⟨g, j * 4, none⟩ sh.val) := by
  have hs01 := hb1.size
  have hbl := h.mc.lt
  have tg : τ g = 2 := h.tt _ hth
  have hrow := h.row
  rw [hth] at hrow
  have hgl : g < w.heap.size := (own_has hrow (g := g) rfl).2
  have hjl := (List.getElem?_eq_some_iff.1 ht).1
  obtain ⟨ho, hot, hz⟩ := h.hs j t ht
  have hsame : ∀ k, k < w.heap.size → τ k ≠ 10 + j → w3.heap[k]? = w.heap[k]? := fun k hk hne => (hb3 k (by omega) (fun e => hne (hot k e))).trans (hb1.block k hk)
  have hgb : g ≠ b := fun e => by rw [e, h.tb] at tg; omega
  -- the new tags
  obtain ⟨τ', hτ⟩ : ∃ τ' : Nat → Nat, τ' = fun k => if k < w.heap.size then τ k else if sh.val.ownBlock = some k then 10 + j else if k < w3.heap.size then 3 else 0 := ⟨_, rfl⟩
  have hold : ∀ k, k < w.heap.size → τ' k = τ k := fun k hk => by rw [hτ]; exact if_pos hk
  have hsz : ((w3.setCell ⟨b, 2, none⟩ vt).setCell ⟨g, j * 4, none⟩ sh.val).heap.size = w3.heap.size := by simp
  have hX : ∀ k, k ≠ b → k ≠ g → ((w3.setCell ⟨b, 2, none⟩ vt).setCell ⟨g, j * 4, none⟩ sh.val).heap[k]? = w3.heap[k]? := fun k h1 h2 => (heap_setCell_other _ _ _ _ h2).trans (heap_setCell_other _ _ _ _ h1)
  have hst : StepM τ τ' w ((w3.setCell ⟨b, 2, none⟩ vt).setCell ⟨g, j * 4, none⟩ sh.val) := ⟨((hb1.mono (Nat.zero_le _)).trans hbz |>.setCell (Nat.zero_le _) _).setCell (Nat.zero_le _) _, hold, fun k hk hk2 => (hX k (fun e => by rw [e, h.tb] at hk2; omega) (fun e => by rw [e, tg] at hk2; omega)).trans (hsame k hk (by omega))⟩
  have hvtl : ∀ k, vt.ownBlock = some k → w.heap.size ≤ k ∧ k < w1.heap.size := fun k hk => own_has hvt hk
  have hvtn : ∀ k, vt.ownBlock = some k → τ' k = 3 := fun k hk => by
    have := hvtl k hk
    rw [hτ]
    dsimp only
    rw [if_neg (by omega), if_neg, if_pos (by omega)]
    intro e
    rcases hblk with h1 | ⟨g2, h1, h2⟩
    · rw [h1] at e
      have := (own_has ho e).2
      omega
    · rw [h1] at e
      have := Option.some.inj e
      omega
  have hvt3 : ((w3.setCell ⟨b, 2, none⟩ vt).setCell ⟨g, j * 4, none⟩ sh.val).ownsRow w.heap.size 173 2 vt (tabN (i + 1)).length (Tb.slK.flat (tabN (i + 1))) := own_blk hvt fun k hk => by
    have hk2 := hvtl k hk
    exact (hX k (by omega) (by omega)).trans (hb3 k hk2.2 (fun e => by have := (own_has ho e).2; omega))
  have hrow3 : Rw.Own thK w3 0 95 (.slice (some ⟨g, 0, none⟩) c.n c.cth) tv := own_blk hrow fun k hk => by
    simp [Value.ownBlock] at hk
    subst hk
    exact hsame g hgl (by omega)
  have hrow4 : Rw.Own thK (w3.setCell ⟨b, 2, none⟩ vt) 0 95 (.slice (some ⟨g, 0, none⟩) c.n c.cth) tv := own_blk hrow3 fun k hk => by
    simp [Value.ownBlock] at hk
    subst hk
    exact heap_setCell_other _ _ _ _ hgb
  have hownX : Own ((w3.setCell ⟨b, 2, none⟩ vt).setCell ⟨g, j * 4, none⟩ sh.val) 0 107 sh.val (newH I T i j ++ [⟨(i : Int), I.getD i 0, 0⟩]) := own_blk hown fun k hk => by
    rcases hblk with h1 | ⟨g2, h1, h2⟩
    · rw [h1] at hk
      have h3 := hot k hk
      exact hX k (fun e => by rw [e, h.tb] at h3; omega) (fun e => by rw [e, tg] at h3; omega)
    · rw [h1] at hk
      have h3 := Option.some.inj hk
      exact hX k (by omega) (by omega)
  refine ⟨τ', ⟨?_, (hold b hbl).trans h.tb, fun k hk => ?_, ?_, fun a ha => ?_, by rw [List.length_set]; exact h.nn, by rw [List.length_set]; exact h.nT, ?_, fun k u hu => ?_⟩, hst⟩
  · have h3 : McAt w3 b c := (hsame b hbl (by rw [h.tb]; omega)).trans h.mc
    unfold McAt at h3 ⊢
    exact (heap_setCell_other _ _ _ _ (Ne.symm hgb)).trans (heap_setCell_same w3 b 2 _ _ vt h3)
  · rw [hsz]
    by_cases h1 : k < w.heap.size
    · omega
    · rw [hτ] at hk
      dsimp only at hk
      rw [if_neg h1] at hk
      by_cases h2 : sh.val.ownBlock = some k
      · exact (own_has hown h2).2
      · rw [if_neg h2] at hk
        by_cases h3 : k < w3.heap.size
        · exact h3
        · rw [if_neg h3] at hk; exact absurd rfl hk
  · show Rw.Own thK _ 0 _ (.slice c.th c.n c.cth) _
    rw [hth]
    exact th_set (k := 0) hrow4 ht (by decide) rfl
  · rw [show a = ⟨g, 0, none⟩ from Option.some.inj (ha.symm.trans hth)]
    exact (hold g hgl).trans tg
  · exact (Pers.own hvt3 hvtn).imp fun W hW => Rw.Own.sl (S := Tb.slK) (T := 173) (base := w.heap.size) hW (tabN_wf _)
  · by_cases e : j = k
    · subst e
      rw [List.getElem?_set_self hjl] at hu
      obtain rfl := Option.some.inj hu
      rw [newH_succ, if_pos hj]
      refine ⟨hownX, fun x hx => ?_, hz⟩
      rcases hblk with h1 | ⟨g2, h1, h2⟩
      · have hx2 : t.h.val.ownBlock = some x := h1.symm.trans hx
        rw [hold x (own_has ho hx2).2]
        exact hot x hx2
      · have := Option.some.inj (h1.symm.trans hx)
        rw [hτ]
        dsimp only
        rw [if_neg (by omega), if_pos hx]
    · rw [List.getElem?_set_ne e] at hu
      obtain ⟨ho', hot', hz'⟩ := h.hs k u hu
      rw [newH_succ, if_neg (by omega)]
      refine ⟨own_blk ho' fun x hx => ?_, fun x hx => (hold x (own_has ho' hx).2).trans (hot' x hx), hz'⟩
      have h3 := hot' x hx
      have h4 := (own_has ho' hx).2
      exact (hX x (fun e => by rw [e, h.tb] at h3; omega) (fun e => by rw [e, tg] at h3; omega)).trans (hsame x h4 (by omega))
end
end Go.Proofs.YtdllgeanmlmmfaaGreatDoor.Md
