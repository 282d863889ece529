/-
  PACKAGE model: comeIn: a thread's first handles, while a Model is made.
  PACKAGE batch: a Change alone: is its count too great, may it be, which of two stands ahead.
  PACKAGE batch: which of two Changes stands ahead: by Port, then by Time.
  PACKAGE batch, PLAIN MATHEMATICS: sums of a list that does not fall, group by group.
-/
import Derived.Test.YtdllgeanmlmmfaaGreatDoorJoined3
import Derived.Test.YtdllgeanmlmmfaaGreatDoorJoined2
import Derived.WalkKit
import Derived.Deep.Cut
import Derived.Test.YtdllgeanmlmmfaaGreatDoorRows
import Derived.WalkLawsBesides
import Derived.WalkSpells
import Derived.WalkSmall
import Derived.StillTactics
import Derived.StillTailTactics
import Derived.Lib.Hide
import Derived.Lib.AtoiErrMem
import Derived.Outline
import Derived.Sort.Grow
import Derived.Deep.RegionHeld3
import Derived.Lib.AppendIntMem
import Derived.Test.YtdllgeanmlmmfaaGreatDoorBatchMath
namespace Go.Proofs.YtdllgeanmlmmfaaGreatDoor.Md
open Go.RowKit Gr
set_option linter.unusedVariables false
set_option linter.unusedSimpArgs false

/-- A Table of which i places are taken. -/
def tabN : Nat → List Tb.So
  | 0 => Tb.freshL
  | i + 1 => (tabN i).set i (0, true)
theorem tabN_length (i : Nat) : (tabN i).length = 64 := by
  induction i with
  | zero => simp [tabN, Tb.freshL]
  | succ i ih => simp [tabN, ih]
theorem tabN_at {i k : Nat} (hk : k < 64) : (tabN i)[k]? = some ((0 : Int), decide (k < i)) := by
  induction i with
  | zero =>
    rw [show tabN 0 = List.replicate 64 ((0 : Int), false) from rfl, List.getElem?_replicate, if_pos hk, decide_eq_false (Nat.not_lt_zero k)]
  | succ i ih =>
    unfold tabN
    rw [List.getElem?_set]
    by_cases e : i = k
    · subst e
      rw [if_pos rfl, if_pos (by rw [tabN_length]; exact hk), decide_eq_true (Nat.lt_succ_self i)]
    · rw [if_neg e, ih]
      congr 2
      exact decide_eq_decide.2 (by omega)
theorem tabN_free {i : Nat} (hi : i < 64) : Tb.FreeP (tabN i) (i : Int) := by
  refine .inr ⟨i, 0, rfl, by rw [tabN_at hi, decide_eq_false (Nat.lt_irrefl i)], fun x hx => ?_⟩
  obtain ⟨k, hk⟩ := List.mem_iff_getElem?.1 hx
  have hki : k < i := by have := (List.getElem?_eq_some_iff.1 hk).1; rw [List.length_take] at this; omega
  rw [List.getElem?_take_of_lt hki, tabN_at (by omega)] at hk
  obtain rfl := Option.some.inj hk
  exact decide_eq_true hki
theorem tabN_wf (i : Nat) : ∀ x ∈ tabN i, Tb.slK.wf x := by
  intro x hx
  obtain ⟨k, hk⟩ := List.mem_iff_getElem?.1 hx
  have hkl : k < 64 := by have := (List.getElem?_eq_some_iff.1 hk).1; rw [tabN_length] at this; exact this
  rw [tabN_at hkl] at hk
  obtain rfl := Option.some.inj hk
  exact ⟨show (-9223372036854775808 : Int) ≤ 0 by decide, show (0 : Int) ≤ 9223372036854775807 by decide⟩
/-- The handles of thread j when i inputs are there. -/
def newH (I : List Int) (T i j : Nat) : List Ed := ((List.range i).filter fun k => k % T == j).map fun (k : Nat) => (⟨(k : Int), I.getD k 0, 0⟩ : Ed)
theorem newH_succ (I : List Int) (T i j : Nat) : newH I T (i + 1) j = if i % T = j then newH I T i j ++ [⟨(i : Int), I.getD i 0, 0⟩] else newH I T i j := by
  unfold newH
  rw [List.range_succ, List.filter_append, List.map_append]
  by_cases h : i % T = j
  · rw [if_pos h]; simp [h]
  · rw [if_neg h]; simp [h]
theorem newH_length (I : List Int) (T i j : Nat) : (newH I T i j).length ≤ i := by
  unfold newH; rw [List.length_map]; exact Nat.le_trans (List.length_filter_le _ _) (by simp)
/-- A Model in the making. -/
structure NwAt (τ : Nat → Nat) (w : World) (b : Nat) (c : Mc) (tv : List Tv) (I : List Int) (T i : Nat) : Prop where
  mc : McAt w b c
  tb : τ b = 1
  tz : ∀ k, τ k ≠ 0 → k < w.heap.size
  row : Rw.Own thK w 0 95 (.slice c.th c.n c.cth) tv
  tt : ∀ g, c.th = some g → τ g.block = 2
  nn : c.n = tv.length
  nT : tv.length = T
  tab : Pers τ w (fun w => Rw.Sl Tb.slK w c.vt (tabN i))
  hs : ∀ (j : Nat) t, tv[j]? = some t → Own w 0 107 t.h.val (newH I T i j) ∧ (∀ g, t.h.val.ownBlock = some g → τ g = 10 + j) ∧ t.b = sx0 ∧ t.o = sx0 ∧ t.r = sx0
theorem infoHd : (Tryz.prog.info? 107).map (fun i => (i.zero, i.size, i.bytes)) = some (some (.agg #[.int .i64 0, .int .i64 0, .int .u64 0]), 3, 24) := by kernel_rfl
theorem th_form {w : World} {base : Nat} {T : TypeId} {a : Option Addr} {n cap : Nat} {tv : List Tv} (h : Rw.Own thK w base T (.slice a n cap) tv) {i : Nat} (hi : i < tv.length) : ∃ g, a = some ⟨g, 0, none⟩ ∧ n = tv.length ∧ g < w.heap.size := by
  rcases h.form with ⟨h1, _⟩ | ⟨g, c, h1, _, h2, _⟩
  · rw [h1] at hi; simp at hi
  · simp at h1
    obtain ⟨rfl, rfl, _⟩ := h1
    exact ⟨g, rfl, rfl, h2⟩
theorem th_cells {w : World} {base g n cap : Nat} {T : TypeId} {tv : List Tv} (h : Rw.Own thK w base T (.slice (some ⟨g, 0, none⟩) n cap) tv) {i : Nat} {t : Tv} (hi : tv[i]? = some t) :
    w.cell? ⟨g, i * 4, none⟩ = some t.h.val ∧ w.cell? ⟨g, i * 4 + 1, none⟩ = some t.b.val ∧ w.cell? ⟨g, i * 4 + 2, none⟩ = some t.o.val ∧ w.cell? ⟨g, i * 4 + 3, none⟩ = some t.r.val ∧ ∀ o, w.frozen? ⟨g, o, none⟩ = false :=
  ⟨h.at hi 0 _ (by decide) rfl, h.at hi 1 _ (by decide) rfl, h.at hi 2 _ (by decide) rfl, h.at hi 3 _ (by decide) rfl, h.free⟩
/-- One of a thread's cells is laid anew. -/
theorem th_set {w : World} {g n cap : Nat} {T : TypeId} {tv : List Tv} (h : Rw.Own thK w 0 T (.slice (some ⟨g, 0, none⟩) n cap) tv) {i : Nat} {t : Tv} (hi : tv[i]? = some t) {k : Nat} (hk : k < 4) {u : Sx} {t' : Tv} (he : thK.cells t' = (thK.cells t).set k u.val) : Rw.Own thK (w.setCell ⟨g, i * 4 + k, none⟩ u.val) 0 T (.slice (some ⟨g, 0, none⟩) n cap) (tv.set i t') := by
  have hl := (List.getElem?_eq_some_iff.1 hi).1
  have hf : thK.flat (tv.set i t') = (thK.flat tv).set (i * 4 + k) u.val := by
    have hc := thK.len t
    rw [thK_k] at hc
    apply List.ext_getElem?
    intro j
    have hfl : (thK.flat tv).length = tv.length * 4 := Rw.flat_length tv
    have hfl' : (thK.flat (tv.set i t')).length = tv.length * 4 := by rw [Rw.flat_length, List.length_set]; rfl
    by_cases hj : j < tv.length * 4
    · have hjd : j / 4 < tv.length := by omega
      have hm : j % 4 < 4 := Nat.mod_lt _ (by decide)
      have hjj : j / 4 * 4 + j % 4 = j := by omega
      obtain ⟨x, hx⟩ : ∃ x, tv[j / 4]? = some x := ⟨_, List.getElem?_eq_getElem hjd⟩
      have a1 := Rw.flat_at (S := thK) hx (j % 4) hm
      rw [thK_k, hjj] at a1
      by_cases e : i = j / 4
      · have a2 := Rw.flat_at (S := thK) (l := tv.set i t') (i := j / 4) (x := t') (by rw [← e]; exact List.getElem?_set_self hl) (j % 4) hm
        rw [thK_k, hjj] at a2
        rw [a2, he]
        have et : x = t := by
          rw [← e, hi] at hx
          exact (Option.some.inj hx).symm
        rw [et] at a1
        rw [List.getElem?_set, List.getElem?_set]
        by_cases e2 : k = j % 4
        · rw [if_pos e2, if_pos (show k < _ by rw [hc]; exact hk), if_pos (show i * 4 + k = j by omega), if_pos (show i * 4 + k < _ by rw [hfl]; omega)]
        · rw [if_neg e2, if_neg (show ¬ i * 4 + k = j by omega), a1]
      · have a2 := Rw.flat_at (S := thK) (l := tv.set i t') (i := j / 4) (x := x) (by rw [List.getElem?_set_ne e]; exact hx) (j % 4) hm
        rw [thK_k, hjj] at a2
        rw [a2, List.getElem?_set_ne (by omega), a1]
    · rw [List.getElem?_eq_none (by omega), List.getElem?_eq_none (by rw [List.length_set]; omega)]
  unfold Rw.Own
  rw [hf, List.length_set]
  exact Rw.row_set h (by show i * 4 + k < tv.length * 4; omega) _
section
variable {τ : Nat → Nat} {w w1 w3 : World} {b g i j T : Nat} {c : Mc} {tv : List Tv} {I : List Int} {t : Tv} {vt : Value} {sh : Sx}
/-- When a handle came in. -/
theorem NwAt.come (h : NwAt τ w b c tv I T i) (hth : c.th = some ⟨g, 0, none⟩) (ht : tv[j]? = some t) (hj : i % T = j) (hb1 : Below w.heap.size w w1) (hvt : Rw.Own Tb.slK w1 w.heap.size 173 vt (tabN (i + 1)))
    (hb2 : w1.heap.size ≤ w3.heap.size) (hbz : Below 0 w1 w3) (hb3 : ∀ k, k < w1.heap.size → t.h.val.ownBlock ≠ some k → w3.heap[k]? = w1.heap[k]?) (hown : Own w3 0 107 sh.val (newH I T i j ++ [⟨(i : Int), I.getD i 0, 0⟩]))
    (hblk : sh.val.ownBlock = t.h.val.ownBlock ∨ ∃ g2, sh.val.ownBlock = some g2 ∧ w1.heap.size ≤ g2) :
    ∃ τ', NwAt τ' ((w3.setCell ⟨b, 2, none⟩ vt).setCell ⟨g, j * 4, none⟩ sh.val) b { c with vt := vt } (tv.set j { t with h := sh }) I T (i + 1) ∧ StepM τ τ' w ((w3.setCell ⟨b, 2, none⟩ vt).setCell ⟨g, j * 4, none⟩ sh.val) := by
  have hs01 := hb1.size
  have hbl := h.mc.lt
  have tg : τ g = 2 := h.tt _ hth
  have hrow := h.row
  rw [hth] at hrow
  have hgl : g < w.heap.size := (own_has hrow (g := g) rfl).2
  have hjl := (List.getElem?_eq_some_iff.1 ht).1
  obtain ⟨ho, hot, hz⟩ := h.hs j t ht
  have hsame : ∀ k, k < w.heap.size → τ k ≠ 10 + j → w3.heap[k]? = w.heap[k]? := fun k hk hne => (hb3 k (by omega) (fun e => hne (hot k e))).trans (hb1.block k hk)
  have hgb : g ≠ b := fun e => by rw [e, h.tb] at tg; omega
  -- the new tags
  obtain ⟨τ', hτ⟩ : ∃ τ' : Nat → Nat, τ' = fun k => if k < w.heap.size then τ k else if sh.val.ownBlock = some k then 10 + j else if k < w3.heap.size then 3 else 0 := ⟨_, rfl⟩
  have hold : ∀ k, k < w.heap.size → τ' k = τ k := fun k hk => by rw [hτ]; exact if_pos hk
  have hsz : ((w3.setCell ⟨b, 2, none⟩ vt).setCell ⟨g, j * 4, none⟩ sh.val).heap.size = w3.heap.size := by simp
  have hX : ∀ k, k ≠ b → k ≠ g → ((w3.setCell ⟨b, 2, none⟩ vt).setCell ⟨g, j * 4, none⟩ sh.val).heap[k]? = w3.heap[k]? := fun k h1 h2 => (heap_setCell_other _ _ _ _ h2).trans (heap_setCell_other _ _ _ _ h1)
  have hst : StepM τ τ' w ((w3.setCell ⟨b, 2, none⟩ vt).setCell ⟨g, j * 4, none⟩ sh.val) := ⟨((hb1.mono (Nat.zero_le _)).trans hbz |>.setCell (Nat.zero_le _) _).setCell (Nat.zero_le _) _, hold, fun k hk hk2 => (hX k (fun e => by rw [e, h.tb] at hk2; omega) (fun e => by rw [e, tg] at hk2; omega)).trans (hsame k hk (by omega))⟩
  have hvtl : ∀ k, vt.ownBlock = some k → w.heap.size ≤ k ∧ k < w1.heap.size := fun k hk => own_has hvt hk
  have hvtn : ∀ k, vt.ownBlock = some k → τ' k = 3 := fun k hk => by
    have := hvtl k hk
    rw [hτ]
    dsimp only
    rw [if_neg (by omega), if_neg, if_pos (by omega)]
    intro e
    rcases hblk with h1 | ⟨g2, h1, h2⟩
    · rw [h1] at e
      have := (own_has ho e).2
      omega
    · rw [h1] at e
      have := Option.some.inj e
      omega
  have hvt3 : ((w3.setCell ⟨b, 2, none⟩ vt).setCell ⟨g, j * 4, none⟩ sh.val).ownsRow w.heap.size 173 2 vt (tabN (i + 1)).length (Tb.slK.flat (tabN (i + 1))) := own_blk hvt fun k hk => by
    have hk2 := hvtl k hk
    exact (hX k (by omega) (by omega)).trans (hb3 k hk2.2 (fun e => by have := (own_has ho e).2; omega))
  have hrow3 : Rw.Own thK w3 0 95 (.slice (some ⟨g, 0, none⟩) c.n c.cth) tv := own_blk hrow fun k hk => by
    simp [Value.ownBlock] at hk
    subst hk
    exact hsame g hgl (by omega)
  have hrow4 : Rw.Own thK (w3.setCell ⟨b, 2, none⟩ vt) 0 95 (.slice (some ⟨g, 0, none⟩) c.n c.cth) tv := own_blk hrow3 fun k hk => by
    simp [Value.ownBlock] at hk
    subst hk
    exact heap_setCell_other _ _ _ _ hgb
  have hownX : Own ((w3.setCell ⟨b, 2, none⟩ vt).setCell ⟨g, j * 4, none⟩ sh.val) 0 107 sh.val (newH I T i j ++ [⟨(i : Int), I.getD i 0, 0⟩]) := own_blk hown fun k hk => by
    rcases hblk with h1 | ⟨g2, h1, h2⟩
    · rw [h1] at hk
      have h3 := hot k hk
      exact hX k (fun e => by rw [e, h.tb] at h3; omega) (fun e => by rw [e, tg] at h3; omega)
    · rw [h1] at hk
      have h3 := Option.some.inj hk
      exact hX k (by omega) (by omega)
  refine ⟨τ', ⟨?_, (hold b hbl).trans h.tb, fun k hk => ?_, ?_, fun a ha => ?_, by rw [List.length_set]; exact h.nn, by rw [List.length_set]; exact h.nT, ?_, fun k u hu => ?_⟩, hst⟩
  · have h3 : McAt w3 b c := (hsame b hbl (by rw [h.tb]; omega)).trans h.mc
    unfold McAt at h3 ⊢
    exact (heap_setCell_other _ _ _ _ (Ne.symm hgb)).trans (heap_setCell_same w3 b 2 _ _ vt h3)
  · rw [hsz]
    by_cases h1 : k < w.heap.size
    · omega
    · rw [hτ] at hk
      dsimp only at hk
      rw [if_neg h1] at hk
      by_cases h2 : sh.val.ownBlock = some k
      · exact (own_has hown h2).2
      · rw [if_neg h2] at hk
        by_cases h3 : k < w3.heap.size
        · exact h3
        · rw [if_neg h3] at hk; exact absurd rfl hk
  · show Rw.Own thK _ 0 _ (.slice c.th c.n c.cth) _
    rw [hth]
    exact th_set (k := 0) hrow4 ht (by decide) rfl
  · rw [show a = ⟨g, 0, none⟩ from Option.some.inj (ha.symm.trans hth)]
    exact (hold g hgl).trans tg
  · exact (Pers.own hvt3 hvtn).imp fun W hW => Rw.Own.sl (S := Tb.slK) (T := 173) (base := w.heap.size) hW (tabN_wf _)
  · by_cases e : j = k
    · subst e
      rw [List.getElem?_set_self hjl] at hu
      obtain rfl := Option.some.inj hu
      rw [newH_succ, if_pos hj]
      refine ⟨hownX, fun x hx => ?_, hz⟩
      rcases hblk with h1 | ⟨g2, h1, h2⟩
      · have hx2 : t.h.val.ownBlock = some x := h1.symm.trans hx
        rw [hold x (own_has ho hx2).2]
        exact hot x hx2
      · have := Option.some.inj (h1.symm.trans hx)
        rw [hτ]
        dsimp only
        rw [if_neg (by omega), if_pos hx]
    · rw [List.getElem?_set_ne e] at hu
      obtain ⟨ho', hot', hz'⟩ := h.hs k u hu
      rw [newH_succ, if_neg (by omega)]
      refine ⟨own_blk ho' fun x hx => ?_, fun x hx => (hold x (own_has ho' hx).2).trans (hot' x hx), hz'⟩
      have h3 := hot' x hx
      have h4 := (own_has ho' hx).2
      exact (hX x (fun e => by rw [e, h.tb] at h3; omega) (fun e => by rw [e, tg] at h3; omega)).trans (hsame x h4 (by omega))
end
end Go.Proofs.YtdllgeanmlmmfaaGreatDoor.Md
namespace Go.Proofs.YtdllgeanmlmmfaaGreatDoor.Batch
open Go.RowKit
set_option linter.unusedVariables false

theorem over_any (d : Int) (w : World) : Calls Tryz.prog 109 #[.int .i64 d] w fun e w' => e = .returned (.bool (overB d)) ∧ w = w' := by
  by_cases h1 : d < -576460752303423488
  · have hr := Lib.hid (show overB d = true from decide_eq_true (.inl h1))
    go_enter Tryz.func109, Tryz.ntmps109
    go_wp2
    go_ret
    exact ⟨by rw [hr.out]; rfl, rfl⟩
  · by_cases h2 : 576460752303423488 < d
    · have hr := Lib.hid (show overB d = true from decide_eq_true (.inr h2))
      go_enter Tryz.func109, Tryz.ntmps109
      go_wp2
      go_ret
      exact ⟨by rw [hr.out]; rfl, rfl⟩
    · have hr := Lib.hid (show overB d = false from decide_eq_false (fun h => h.elim h1 h2))
      go_enter Tryz.func109, Tryz.ntmps109
      go_wp2
      go_ret
      exact ⟨by rw [hr.out]; rfl, rfl⟩

theorem wrong_any (x : Ch) (w : World) : Calls Tryz.prog 129 #[x.agg] w fun e w' => e = .returned (.int .i64 (wrongN x)) ∧ Below w.heap.size w w' := by
  obtain ⟨p, t, d⟩ := x
  have hb : Below w.heap.size w (w.alloc (.cells #[.int .i64 p, .int .u64 t, .int .i64 d] 103)) := (Below.refl _ _).alloc (Nat.le_refl _) _
  by_cases h1 : p < 0
  · have hr := Lib.hid (show wrongN ⟨p, t, d⟩ = 2 from if_pos (.inl h1))
    go_enter Tryz.func129, Tryz.ntmps129
    go_wp2
    go_ret
    exact ⟨by rw [hr.out]; rfl, hb⟩
  · by_cases h2 : 64 ≤ p
    · have hr := Lib.hid (show wrongN ⟨p, t, d⟩ = 2 from if_pos (.inr h2))
      go_enter Tryz.func129, Tryz.ntmps129
      go_wp2
      go_ret
      exact ⟨by rw [hr.out]; rfl, hb⟩
    · by_cases h3 : t = 18446744073709551615
      · have hr := Lib.hid (show wrongN ⟨p, t, d⟩ = 1 by unfold wrongN; rw [if_neg (fun h => h.elim h1 h2), if_pos h3])
        have e3 : (t == 18446744073709551615) = true := by rw [beq_iff_eq]; exact h3
        clear h3
        go_enter Tryz.func129, Tryz.ntmps129
        go_wp2
        go_ret
        exact ⟨by rw [hr.out]; rfl, hb⟩
      · have e3 : (t == 18446744073709551615) = false := by rw [beq_eq_false_iff_ne]; exact h3
        cases h4 : overB d
        · have hr := Lib.hid (show wrongN ⟨p, t, d⟩ = 0 by unfold wrongN; rw [if_neg (fun h => h.elim h1 h2), if_neg h3, if_neg (by show ¬ overB d = true; rw [h4]; decide)])
          clear h3
          go_enter Tryz.func129, Tryz.ntmps129
          go_wp2_with (go_at_call 109; refine (over_any d _).mono ?_; rintro e w' ⟨rfl, rfl⟩)
          go_ret
          exact ⟨by rw [hr.out]; rfl, hb⟩
        · have hr := Lib.hid (show wrongN ⟨p, t, d⟩ = 10 by unfold wrongN; rw [if_neg (fun h => h.elim h1 h2), if_neg h3, if_pos (show overB d = true from h4)])
          clear h3
          go_enter Tryz.func129, Tryz.ntmps129
          go_wp2_with (go_at_call 109; refine (over_any d _).mono ?_; rintro e w' ⟨rfl, rfl⟩)
          go_ret
          exact ⟨by rw [hr.out]; rfl, hb⟩

theorem cmpInt_any (a b : Int) (w : World) : Calls Tryz.prog 113 #[.int .i64 a, .int .i64 b] w fun e w' => e = .returned (.int .i64 (cmpI a b)) ∧ w = w' := by
  by_cases h1 : a < b
  · have hr := Lib.hid (show cmpI a b = -1 from if_pos h1)
    go_enter Tryz.func113, Tryz.ntmps113
    go_wp2
    go_ret
    exact ⟨by rw [hr.out]; rfl, rfl⟩
  · by_cases h2 : b < a
    · have hr := Lib.hid (show cmpI a b = 1 by unfold cmpI; rw [if_neg h1, if_pos h2])
      go_enter Tryz.func113, Tryz.ntmps113
      go_wp2
      go_ret
      exact ⟨by rw [hr.out]; rfl, rfl⟩
    · have hr := Lib.hid (show cmpI a b = 0 by unfold cmpI; rw [if_neg h1, if_neg h2])
      go_enter Tryz.func113, Tryz.ntmps113
      go_wp2
      go_ret
      exact ⟨by rw [hr.out]; rfl, rfl⟩
theorem cmpU_any (a b : Int) (w : World) : Calls Tryz.prog 114 #[.int .u64 a, .int .u64 b] w fun e w' => e = .returned (.int .i64 (cmpI a b)) ∧ w = w' := by
  by_cases h1 : a < b
  · have hr := Lib.hid (show cmpI a b = -1 from if_pos h1)
    go_enter Tryz.func114, Tryz.ntmps114
    go_wp2
    go_ret
    exact ⟨by rw [hr.out]; rfl, rfl⟩
  · by_cases h2 : b < a
    · have hr := Lib.hid (show cmpI a b = 1 by unfold cmpI; rw [if_neg h1, if_pos h2])
      go_enter Tryz.func114, Tryz.ntmps114
      go_wp2
      go_ret
      exact ⟨by rw [hr.out]; rfl, rfl⟩
    · have hr := Lib.hid (show cmpI a b = 0 by unfold cmpI; rw [if_neg h1, if_neg h2])
      go_enter Tryz.func114, Tryz.ntmps114
      go_wp2
      go_ret
      exact ⟨by rw [hr.out]; rfl, rfl⟩

theorem or_any (a b : Int) (g : Nat) (w : World) (h0 : w.cell? ⟨g, 0, none⟩ = some (.int .i64 a)) (h1 : w.cell? ⟨g, 1, none⟩ = some (.int .i64 b)) :
    Calls Tryz.prog 112 #[.slice (some ⟨g, 0, none⟩) 2 2] w fun e w' => e = .returned (.int .i64 (if a = 0 then b else a)) ∧ w = w' := by
  by_cases ha : a = 0
  · subst ha
    by_cases hb : b = 0
    · subst hb
      go_enter Tryz.func112, Tryz.ntmps112
      go_wp2
      refine wp_loop_rounds 3 ?_
      rw [rounds_succ]
      go_wp2
      rw [rounds_succ]
      go_wp2
      rw [rounds_succ]
      go_wp2
      go_ret
      exact ⟨rfl, rfl⟩
    · have eb : (b != 0) = true := by rw [bne_iff_ne]; exact hb
      go_enter Tryz.func112, Tryz.ntmps112
      go_wp2
      refine wp_loop_rounds 3 ?_
      rw [rounds_succ]
      go_wp2
      rw [rounds_succ]
      go_wp2
      go_ret
      exact ⟨rfl, rfl⟩
  · have ea : (a != 0) = true := by rw [bne_iff_ne]; exact ha
    rw [if_neg ha]
    clear ha
    go_enter Tryz.func112, Tryz.ntmps112
    go_wp2
    refine wp_loop_rounds 3 ?_
    rw [rounds_succ]
    go_wp2
    go_ret
    exact ⟨rfl, rfl⟩
end Go.Proofs.YtdllgeanmlmmfaaGreatDoor.Batch
namespace Go.Proofs.YtdllgeanmlmmfaaGreatDoor.Batch
open Go.RowKit Go.Sort
set_option linter.unusedVariables false

theorem cell_new2 (W : World) (n : Nat) (x y : Value) (T : TypeId) (hn : W.heap.size = n) : (W.alloc (.cells #[x, y] T)).drew.cell? ⟨n, 0, none⟩ = some x ∧ (W.alloc (.cells #[x, y] T)).drew.cell? ⟨n, 1, none⟩ = some y := by
  subst hn
  exact ⟨by simp, by simp⟩
theorem new2 (w : World) (A B : Obj) (x y : Value) (T : TypeId) : ((((w.alloc A).alloc B).alloc (.cells #[x, y] T)).drew.cell? ⟨w.heap.size + 1 + 1, 0, none⟩ = some x) ∧ ((((w.alloc A).alloc B).alloc (.cells #[x, y] T)).drew.cell? ⟨w.heap.size + 1 + 1, 1, none⟩ = some y) :=
  cell_new2 _ _ _ _ _ (by simp)
theorem grow3 (w : World) (A B C : Obj) : ∃ q os, (((w.alloc A).alloc B).alloc C).drew = grow (w.drewN q) os := by
  refine ⟨1, #[A] ++ #[B] ++ #[C], ?_⟩
  rw [alloc_eq_grow, alloc_eq_grow, alloc_eq_grow, grow_grow, grow_grow]
  rfl
def orI (a b : Int) : Int := if a = 0 then b else a
theorem or_any' (a b : Int) (g : Nat) (w : World) (h : w.cell? ⟨g, 0, none⟩ = some (.int .i64 a) ∧ w.cell? ⟨g, 1, none⟩ = some (.int .i64 b)) :
    Calls Tryz.prog 112 #[.slice (some ⟨g, 0, none⟩) 2 2] w fun e w' => e = .returned (.int .i64 (orI a b)) ∧ w = w' := or_any a b g w h.1 h.2
set_option maxRecDepth 100000 in
set_option maxHeartbeats 2000000 in
theorem compare_any (x y : Ch) (w : World) : Calls Tryz.prog 108 #[x.agg, y.agg] w fun e w' => e = .returned (.int .i64 (ordI x y)) ∧ ∃ q os, w' = grow (w.drewN q) os := by
  obtain ⟨p, t, d⟩ := x
  obtain ⟨p', t', d'⟩ := y
  have hr := Lib.hid (show ordI ⟨p, t, d⟩ ⟨p', t', d'⟩ = orI (cmpI p p') (cmpI t t') from rfl)
  go_enter Tryz.func108, Tryz.ntmps108
  go_wp2_with fail
  go_region_held3 (fun w' => w'.cell? ⟨w.heap.size, 0, none⟩ = some (.int .i64 p) ∧ w'.cell? ⟨w.heap.size, 1, none⟩ = some (.int .u64 t) ∧ w'.cell? ⟨w.heap.size + 1, 0, none⟩ = some (.int .i64 p') ∧ w'.cell? ⟨w.heap.size + 1, 1, none⟩ = some (.int .u64 t'))
    (go_keep)
    (first
      | (go_at_call 113; refine (cmpInt_any _ _ _).mono ?_; rintro e w' ⟨rfl, rfl⟩)
      | (go_at_call 114; refine (cmpU_any _ _ _).mono ?_; rintro e w' ⟨rfl, rfl⟩)
      | (go_at_call 112; refine (or_any' (cmpI p p') (cmpI t t') (w.heap.size + 1 + 1) _ (new2 _ _ _ _ _ _)).mono ?_; rintro e w' ⟨rfl, rfl⟩))
  go_wp2_with fail
  go_ret
  exact ⟨by rw [hr.out]; rfl, grow3 _ _ _ _⟩
end Go.Proofs.YtdllgeanmlmmfaaGreatDoor.Batch
namespace Go.Proofs.YtdllgeanmlmmfaaGreatDoor.Batch
set_option linter.unusedVariables false

/-- Not falling. -/
def Sorted (l : List Ch) : Prop := l.Pairwise fun x y => ¬ Lt y x
theorem take_succ' {l : List Ch} {i : Nat} {x : Ch} (h : l[i]? = some x) : l.take (i + 1) = l.take i ++ [x] := by rw [List.take_add_one, h]; rfl
theorem Sorted.le {l : List Ch} (h : Sorted l) {i j : Nat} {x y : Ch} (hx : l[i]? = some x) (hy : l[j]? = some y) (hij : i < j) : ¬ Lt y x := by
  obtain ⟨h1, e1⟩ := List.getElem?_eq_some_iff.1 hx
  obtain ⟨h2, e2⟩ := List.getElem?_eq_some_iff.1 hy
  have := (List.pairwise_iff_getElem.1 h) i j h1 h2 hij
  rw [e1, e2] at this
  exact this
theorem mem_take {l : List Ch} {i : Nat} {x : Ch} (h : x ∈ l.take i) : ∃ j, j < i ∧ l[j]? = some x := by
  obtain ⟨j, hj⟩ := List.mem_iff_getElem?.1 h
  have hji : j < i := by
    have := (List.getElem?_eq_some_iff.1 hj).1
    rw [List.length_take] at this
    omega
  rw [List.getElem?_take_of_lt hji] at hj
  exact ⟨j, hji, hj⟩
theorem take_mem {l : List Ch} {i j : Nat} {x : Ch} (h : l[j]? = some x) (hj : j < i) : x ∈ l.take i := by
  refine List.mem_iff_getElem?.2 ⟨j, ?_⟩
  rw [List.getElem?_take_of_lt hj]
  exact h
theorem take_all {l : List Ch} {i : Nat} (h : l.length ≤ i) : l.take i = l := List.take_of_length_le h

def Inv (l R : List Ch) (i : Nat) : Prop := IsSum R (l.take i) ∧ (∀ p t, overB (wr (tot (l.take i) p t)) = false) ∧ (∀ x y, x ∈ l.take i → l[i]? = some y → Lt x y)
def Grp (l : List Ch) (i0 i : Nat) (x0 : Ch) (D : Int) : Prop := i0 < i ∧ i ≤ l.length ∧ (∀ j y, i0 ≤ j → j < i → l[j]? = some y → Key x0 y) ∧ D = wr (tot (l.take i) x0.p x0.t)
theorem Inv.start (l : List Ch) : Inv l [] 0 := ⟨⟨List.Pairwise.nil, fun z => by simp [tot, wr_zero]⟩, fun p t => by simp [tot, wr_zero]; rfl, fun x y h => by simp at h⟩
theorem Inv.no {l R : List Ch} {i : Nat} {x0 : Ch} (h : Inv l R i) (hx : l[i]? = some x0) {p t : Int} (hp : p = x0.p) (ht : t = x0.t) : tot (l.take i) p t = 0 :=
  tot_none fun x hm hk => (h.2.2 x x0 hm hx).not_key ⟨hk.1.trans hp, hk.2.trans ht⟩
theorem Grp.start {l R : List Ch} {i : Nat} {x0 : Ch} (h : Inv l R i) (hx : l[i]? = some x0) (hw : x0.Wf) : Grp l i (i + 1) x0 x0.d := by
  refine ⟨by omega, (List.getElem?_eq_some_iff.1 hx).1, fun j y h1 h2 hy => ?_, ?_⟩
  · obtain rfl : j = i := by omega
    rw [hx] at hy
    obtain rfl := Option.some.inj hy
    exact Key.refl _
  · rw [take_succ' hx, tot_append, h.no hx rfl rfl]
    simp only [tot, and_self, if_true]
    rw [Int.zero_add, Int.add_zero, wr_id hw.d0 hw.d1]
theorem Grp.step {l : List Ch} {i0 i : Nat} {x0 y : Ch} {D : Int} (h : Grp l i0 i x0 D) (hy : l[i]? = some y) (hk : Key x0 y) : Grp l i0 (i + 1) x0 (wr (D + y.d)) := by
  refine ⟨by have := h.1; omega, (List.getElem?_eq_some_iff.1 hy).1, fun j z h1 h2 hz => ?_, ?_⟩
  · by_cases e : j = i
    · subst e
      rw [hy] at hz
      obtain rfl := Option.some.inj hz
      exact hk
    · exact h.2.2.1 j z h1 (by omega) hz
  · rw [h.2.2.2, wr_wr_add, take_succ' hy, tot_append]
    simp only [tot]
    rw [if_pos ⟨hk.1.symm, hk.2.symm⟩, Int.add_zero]
/-- The group has ended at i. -/
def Ended (l : List Ch) (i : Nat) (x0 : Ch) : Prop := ∀ y, l[i]? = some y → Lt x0 y
theorem Grp.ended {l : List Ch} {i0 i : Nat} {x0 y : Ch} {D : Int} (hs : Sorted l) (h : Grp l i0 i x0 D) (hx : l[i0]? = some x0) (hy : l[i]? = some y) (hk : ¬ Key x0 y) : Ended l i x0 := by
  intro z hz
  rw [hy] at hz
  obtain rfl := Option.some.inj hz
  exact (three x0 y).elim id fun h' => h'.elim (fun e => absurd e hk) fun e => absurd e (hs.le hx hy h.1)
theorem Ended.all {l : List Ch} {i : Nat} {x0 : Ch} (hs : Sorted l) (h : Ended l i x0) {j : Nat} {z : Ch} (hj : i ≤ j) (hz : l[j]? = some z) : Lt x0 z := by
  by_cases e : j = i
  · subst e; exact h z hz
  · have hlt : i < l.length := by have := (List.getElem?_eq_some_iff.1 hz).1; omega
    have hy : l[i]? = some l[i] := List.getElem?_eq_getElem hlt
    have h1 := h _ hy
    have h2 := hs.le hy hz (by omega)
    unfold Lt at *
    omega
theorem Grp.other {l R : List Ch} {i0 i : Nat} {x0 : Ch} {D : Int} (h : Grp l i0 i x0 D) {p t : Int} (hk : ¬ (x0.p = p ∧ x0.t = t)) : tot (l.take i) p t = tot (l.take i0) p t := by
  have e : l.take i = l.take i0 ++ (l.take i).drop i0 := by
    have := (List.take_append_drop i0 (l.take i)).symm
    rwa [List.take_take, Nat.min_eq_left (by have := h.1; omega)] at this
  rw [e, tot_append, tot_none (l := (l.take i).drop i0), Int.add_zero]
  intro x hx hkx
  obtain ⟨j, hj⟩ := List.mem_iff_getElem?.1 hx
  rw [List.getElem?_drop] at hj
  have hji : i0 + j < i := by
    have := (List.getElem?_eq_some_iff.1 hj).1
    rw [List.length_take] at this
    omega
  rw [List.getElem?_take_of_lt hji] at hj
  have hk' := h.2.2.1 _ x (by omega) hji hj
  exact hk ⟨hk'.1.trans hkx.1, hk'.2.trans hkx.2⟩
theorem Grp.rest {l : List Ch} {i0 i : Nat} {x0 : Ch} {D : Int} (hs : Sorted l) (h : Grp l i0 i x0 D) (he : Ended l i x0) : tot l x0.p x0.t = tot (l.take i) x0.p x0.t := by
  have e := List.take_append_drop i l
  have : tot l x0.p x0.t = tot (l.take i ++ l.drop i) x0.p x0.t := by rw [e]
  rw [this, tot_append, tot_none (l := l.drop i), Int.add_zero]
  intro x hx hkx
  obtain ⟨j, hj⟩ := List.mem_iff_getElem?.1 hx
  rw [List.getElem?_drop] at hj
  exact (he.all hs (Nat.le_add_right _ _) hj).not_key ⟨hkx.1.symm, hkx.2.symm⟩
theorem Grp.over {l : List Ch} {i0 i : Nat} {x0 : Ch} {D : Int} (hw : ∀ x ∈ l, x.Wf) (hs : Sorted l) (h : Grp l i0 i x0 D) (he : Ended l i x0) (ho : overB D = true) : overK l = true := by
  rw [overK_iff hw]
  refine ⟨x0.p, x0.t, ?_⟩
  rw [h.rest hs he, ← h.2.2.2]
  exact ho
theorem Grp.bound {l R : List Ch} {i0 i : Nat} {x0 : Ch} {D : Int} (hs : Sorted l) (hi : Inv l R i0) (h : Grp l i0 i x0 D) (hx : l[i0]? = some x0) (he : Ended l i x0) : ∀ x y, x ∈ l.take i → l[i]? = some y → Lt x y := by
  intro x y hm hy
  obtain ⟨j, hj, hxj⟩ := mem_take hm
  by_cases e : j < i0
  · exact (hi.2.2 x x0 (take_mem hxj e) hx).trans (he y hy)
  · exact Lt.key_left (h.2.2.1 j x (by omega) hj hxj).symm (he y hy)
theorem Grp.noOver {l R : List Ch} {i0 i : Nat} {x0 : Ch} {D : Int} (hi : Inv l R i0) (h : Grp l i0 i x0 D) (ho : overB D = false) : ∀ p t, overB (wr (tot (l.take i) p t)) = false := by
  intro p t
  by_cases hk : x0.p = p ∧ x0.t = t
  · rw [← hk.1, ← hk.2, ← h.2.2.2]; exact ho
  · rw [h.other (R := R) hk]; exact hi.2.1 p t
theorem Inv.drop {l R : List Ch} {i0 i : Nat} {x0 : Ch} {D : Int} (hs : Sorted l) (hi : Inv l R i0) (h : Grp l i0 i x0 D) (hx : l[i0]? = some x0) (he : Ended l i x0) (ho : overB D = false) (h0 : D = 0) : Inv l R i := by
  refine ⟨⟨hi.1.1, fun z => ?_⟩, h.noOver hi ho, h.bound hs hi hx he⟩
  rw [hi.1.2]
  by_cases hk : x0.p = z.p ∧ x0.t = z.t
  · rw [hi.no hx hk.1.symm hk.2.symm, wr_zero, ← hk.1, ← hk.2, ← h.2.2.2, h0]
  · rw [h.other (R := R) hk]
theorem Inv.snoc {l R : List Ch} {i0 i : Nat} {x0 : Ch} {D : Int} (hs : Sorted l) (hi : Inv l R i0) (h : Grp l i0 i x0 D) (hx : l[i0]? = some x0) (he : Ended l i x0) (ho : overB D = false) (h0 : D ≠ 0) : Inv l (R ++ [⟨x0.p, x0.t, D⟩]) i := by
  refine ⟨⟨?_, fun z => ?_⟩, h.noOver hi ho, h.bound hs hi hx he⟩
  · rw [List.pairwise_append]
    refine ⟨hi.1.1, by simp, fun x hm y hy => ?_⟩
    simp at hy
    subst hy
    have hz := (hi.1.2 x).1 hm
    by_cases hn : ∃ q ∈ l.take i0, q.p = x.p ∧ q.t = x.t
    · obtain ⟨q, hq, hqk⟩ := hn
      have := hi.2.2 q x0 hq hx
      exact Lt.key_left (y := q) ⟨hqk.1.symm, hqk.2.symm⟩ (Lt.key_right (y := x0) this ⟨rfl, rfl⟩)
    · rw [tot_none (fun q hq hqk => hn ⟨q, hq, hqk⟩), wr_zero] at hz
      exact absurd hz.2 hz.1
  · rw [List.mem_append, hi.1.2, List.mem_singleton]
    by_cases hk : x0.p = z.p ∧ x0.t = z.t
    · have hD := h.2.2.2
      rw [hk.1, hk.2] at hD
      rw [hi.no hx hk.1.symm hk.2.symm, wr_zero, ← hD]
      obtain ⟨a, b, c⟩ := z
      simp only at hk ⊢
      rw [Ch.mk.injEq]
      constructor
      · rintro (⟨e1, e2⟩ | ⟨_, _, e⟩)
        · exact absurd e2 e1
        · exact ⟨by rw [e]; exact h0, e⟩
      · rintro ⟨_, e⟩
        exact .inr ⟨hk.1.symm, hk.2.symm, e⟩
    · rw [h.other (R := R) hk]
      constructor
      · rintro (e | e)
        · exact e
        · subst e; exact absurd ⟨rfl, rfl⟩ hk
      · exact fun e => .inl e
theorem Inv.done {l R : List Ch} {i : Nat} (hw : ∀ x ∈ l, x.Wf) (h : Inv l R i) (hi : l.length ≤ i) : R = sumL l ∧ overK l = false := by
  have e := take_all hi
  refine ⟨?_, ?_⟩
  · have h1 := h.1
    rw [e] at h1
    exact h1.one (sumL_is hw) fun _ _ => rfl
  · cases ho : overK l
    · rfl
    · obtain ⟨p, t, h2⟩ := (overK_iff hw).1 ho
      have h3 := h.2.1 p t
      rw [e, h2] at h3
      exact absurd h3 (by decide)
theorem Inv.length {l R : List Ch} {i : Nat} (hw : ∀ x ∈ l, x.Wf) (h : Inv l R i) : R.length ≤ l.length := by
  have hw' : ∀ x ∈ l.take i, x.Wf := fun x hx => hw x (List.mem_of_mem_take hx)
  rw [h.1.one (sumL_is hw') fun _ _ => rfl]
  have := sumL_length (l.take i)
  rw [List.length_take] at this
  omega
def sumsE (l : List Ch) : Int := if overK l = true then 10 else 0
def sumsR (l : List Ch) : List Ch := if overK l = true then [] else sumL l
theorem sums_over {l : List Ch} (h : overK l = true) : sumsE l = 10 ∧ sumsR l = [] := ⟨if_pos h, if_pos h⟩
theorem sums_ok {l : List Ch} (h : overK l = false) : sumsE l = 0 ∧ sumsR l = sumL l := by unfold sumsE sumsR; rw [h]; exact ⟨rfl, rfl⟩
end Go.Proofs.YtdllgeanmlmmfaaGreatDoor.Batch
