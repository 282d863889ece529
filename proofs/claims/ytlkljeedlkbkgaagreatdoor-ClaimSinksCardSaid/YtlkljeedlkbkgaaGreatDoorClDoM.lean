/-
  YtlkljeedlkbkgaaGreatDoorClDoM
-/
import Derived.Test.YtlkljeedlkbkgaaGreatDoorJoined15
import Derived.Test.YtlkljeedlkbkgaaGreatDoorJoined8
namespace Go.Proofs.YtlkljeedlkbkgaaGreatDoor.Cl
open Go.RowKit Gr
set_option linter.unusedVariables false
structure OwnP (m : Nat) (H : List Ed) (B : List Batch.Ch) : Prop where
  rise : Rise H
  wfH : ∀ x ∈ H, x.Wf
  fit : ∀ x ∈ H, 0 ≤ x.t ∧ x.t < m ∧ x.a ≠ 18446744073709551615
  hold : HoldP B
  wfB : ∀ x ∈ B, x.Wf
  ports : ∀ x ∈ B, x.p < m
structure Chg (m : Nat) (M : Nat → Nat → Int) (H : List Ed) (B : List Batch.Ch) (H' : List Ed) (B' C : List Batch.Ch) : Prop where
  right : Batch.RightP C
  wf : ∀ x ∈ C, x.Wf
  len : C.length ≤ 20
  tot : ∀ p t, Batch.tot (B' ++ H'.map hc) p t = Batch.tot (B ++ H.map hc) p t + Batch.tot C p t
  lets : ∀ z ∈ B' ++ H'.map hc, ∃ x ∈ B ++ H.map hc, 0 ≤ x.p ∧ x.p < m ∧ plusN x.t (M x.p.toNat z.p.toNat) ≤ z.t
structure MT (M : Nat → Nat → Int) (m : Nat) : Prop where
  bd : ∀ i j, i < m → j < m → 0 ≤ M i j ∧ M i j ≤ 18446744073709551615
  tri : ∀ i k j, i < m → k < m → j < m → M i j ≤ plusN (M i k) (M k j)
  diag : ∀ i, i < m → M i i = 0
theorem MT.of {E : List Ed} {m : Nat} {M : Nat → Nat → Int} (hE : Fits E m) (h : LeastM E true m M) : MT M m :=
  ⟨fun i j hi hj => (h i j hi hj).1.1, fun i k j hi hk hj => least_tri (h i j hi hj) (h i k hi hk) (h k j hk hj), fun i hi => (h i i hi hi).one (least_here hE i)⟩
theorem plus0_le {t : Int} (h : 0 ≤ t ∧ t ≤ 18446744073709551615) : plusN t 0 ≤ t := by unfold plusN; split <;> omega
theorem plus3 {a b c : Int} (ha : 0 ≤ a ∧ a ≤ 18446744073709551615) (hb : 0 ≤ b ∧ b ≤ 18446744073709551615) (hc : 0 ≤ c ∧ c ≤ 18446744073709551615) : plusN (plusN a b) c = plusN a (plusN b c) := by
  unfold plusN
  split <;> split <;> split <;> first | omega | (split <;> omega)
theorem allL_tot {H : List Ed} {B : List Batch.Ch} (hH : ∀ x ∈ H, x.Wf) (hB : ∀ x ∈ B, x.Wf) (h : HoldP B) (hl : H.length ≤ 100000) (p t : Int) : Batch.tot (allL H B) p t = Batch.tot (B ++ H.map hc) p t := by
  have hT := all_is hH hB
  by_cases hk : ∃ z ∈ allL H B, z.p = p ∧ z.t = t
  · obtain ⟨z, hz, rfl, rfl⟩ := hk
    rw [Batch.tot_one hT.1 hz]
    exact (all_pos hH hB h hl z hz).2.2
  · rw [Batch.tot_none fun z hz e => hk ⟨z, hz, e⟩]
    refine (Batch.tot_none fun y hy e => hk ?_).symm
    exact ⟨⟨p, t, Batch.wr (Batch.tot (B ++ H.map hc) p t)⟩, (hT.2 _).2 ⟨⟨y, hy, e.1, e.2⟩, rfl⟩, rfl, rfl⟩
theorem allL_sum {H : List Ed} {B : List Batch.Ch} (hH : ∀ x ∈ H, x.Wf) (hB : ∀ x ∈ B, x.Wf) (h : HoldP B) (hl : H.length ≤ 100000) : Batch.IsSum (allL H B) (B ++ H.map hc) := by
  refine ⟨all_rise hH hB, fun z => ?_⟩
  rw [(all_is hH hB).2 z]
  refine ⟨fun hz => ⟨?_, hz.2⟩, fun hz => ⟨?_, hz.2⟩⟩
  · have := all_pos hH hB h hl z (((all_is hH hB).2 z).2 hz)
    omega
  · cases Classical.em (∃ y ∈ B ++ H.map hc, Batch.Key y z) with
    | inl h => exact h
    | inr hn =>
      have := hz.2
      rw [Batch.tot_none fun y hy e => hn ⟨y, hy, e.1, e.2⟩, Batch.wr_zero] at this
      exact absurd this hz.1
theorem allL_key {H : List Ed} {B : List Batch.Ch} (hH : ∀ x ∈ H, x.Wf) (hB : ∀ x ∈ B, x.Wf) {x : Batch.Ch} (hx : x ∈ B ++ H.map hc) : ∃ z ∈ allL H B, Batch.Key x z :=
  ⟨⟨x.p, x.t, Batch.wr (Batch.tot (B ++ H.map hc) x.p x.t)⟩, ((all_is hH hB).2 _).2 ⟨⟨x, hx, rfl, rfl⟩, rfl⟩, rfl, rfl⟩
theorem OwnP.fits {m : Nat} {H : List Ed} {B : List Batch.Ch} (h : OwnP m H B) (hm : m ≤ 64) : ∀ x ∈ H, Batch.Fit (hc x) := fun x hx => hc_fit hm (h.fit x hx)
theorem OwnP.bag {m : Nat} {H : List Ed} {B : List Batch.Ch} (h : OwnP m H B) (hm : m ≤ 64) (hl : H.length ≤ 100000) : Batch.BagP (allL H B) := all_bag h.wfH h.wfB h.hold hl (h.fits hm)
theorem Chg.apply {m : Nat} {M : Nat → Nat → Int} {H H' : List Ed} {B B' C : List Batch.Ch} (hP : OwnP m H B) (hP' : OwnP m H' B') (hl : H.length ≤ 100000) (hl' : H'.length ≤ 100000) (h : Chg m M H B H' B' C) :
    Batch.applyE (allL H B) C = 0 ∧ Batch.applyR (allL H B) C = allL H' B' := by
  have ht : ∀ p t, Batch.tot (allL H B ++ C) p t = Batch.tot (B' ++ H'.map hc) p t := fun p t => by
    rw [Batch.tot_append, allL_tot hP.wfH hP.wfB hP.hold hl, h.tot]
  have hb := all_tot (H := H') (B := B') hP'.hold hl'
  have hn : Batch.anyNeg (allL H B) C = false := Batch.anyNeg_no fun x hx => by
    have h1 := ht x.p x.t
    rw [Batch.tot_append, Batch.tot_one h.right.2 hx] at h1
    have := (hb x.p x.t).1
    omega
  have hw : ∀ y ∈ allL H B ++ C, y.Wf := fun y hy => by
    rcases List.mem_append.1 hy with hy | hy
    · exact all_wf hP.wfH hP.wfB y hy
    · exact h.wf y hy
  have ho : Batch.overK (allL H B ++ C) = false := by
    cases ho : Batch.overK (allL H B ++ C)
    · rfl
    · obtain ⟨p, t, hpt⟩ := (Batch.overK_iff hw).1 ho
      rw [ht] at hpt
      have := hb p t
      rw [Batch.wr_id (by omega) (by omega)] at hpt
      unfold Batch.overB at hpt
      have := of_decide_eq_true hpt
      omega
  have e := Batch.apply_not hn
  rw [e.1, e.2, (Batch.sums_ok ho).1, (Batch.sums_ok ho).2]
  exact ⟨rfl, (Batch.sumL_is hw).one (allL_sum hP'.wfH hP'.wfB hP'.hold hl') fun p t => by rw [ht]⟩
theorem Chg.front {m : Nat} {M : Nat → Nat → Int} {H H' : List Ed} {B B' C : List Batch.Ch} {p : Nat} {x y : Int} (hM : MT M m) (hp : p < m) (hP : OwnP m H B) (hP' : OwnP m H' B') (h : Chg m M H B H' B' C) (hx : Fr.FrontU (allL H B) M m p x) (hy : Fr.FrontU (allL H' B') M m p y) : x ≤ y := by
  rcases hy.2.2 with e | ⟨z, hz, h0, h1, e⟩
  · have := hx.1; omega
  · obtain ⟨⟨z0, hz0, hk0⟩, _⟩ := ((all_is hP'.wfH hP'.wfB).2 z).1 hz
    obtain ⟨x0, hx0, h2, h3, h4⟩ := h.lets z0 hz0
    obtain ⟨x1, hx1, hk1⟩ := allL_key hP.wfH hP.wfB hx0
    have h5 := hx.2.1 x1 hx1 (by rw [← hk1.1]; exact h2) (by rw [← hk1.1]; exact h3)
    have hw1 := all_wf hP.wfH hP.wfB x1 hx1
    have hwz := all_wf hP'.wfH hP'.wfB z hz
    have hi : x1.p.toNat < m := by rw [← hk1.1]; omega
    have hk : z.p.toNat < m := by omega
    rw [hk1.1, hk1.2, hk0.1, hk0.2] at h4
    have t1 := hM.tri x1.p.toNat z.p.toNat p hi hk hp
    have b1 := hM.bd x1.p.toNat z.p.toNat hi hk
    have b2 := hM.bd z.p.toNat p hk hp
    have h6 : plusN x1.t (M x1.p.toNat p) ≤ plusN x1.t (plusN (M x1.p.toNat z.p.toNat) (M z.p.toNat p)) := plusN_mono (Int.le_refl _) t1 hw1.t1
    rw [← plus3 ⟨hw1.t0, hw1.t1⟩ b1 b2] at h6
    have h7 : plusN (plusN x1.t (M x1.p.toNat z.p.toNat)) (M z.p.toNat p) ≤ plusN z.t (M z.p.toNat p) := plusN_mono h4 (Int.le_refl _) hwz.t1
    omega
theorem lets_self {m : Nat} {M : Nat → Nat → Int} {H : List Ed} {B : List Batch.Ch} (hM : MT M m) (hP : OwnP m H B) {x z : Batch.Ch} (hx : x ∈ B ++ H.map hc) (hp : x.p = z.p) (ht : x.t ≤ z.t) : ∃ x ∈ B ++ H.map hc, 0 ≤ x.p ∧ x.p < m ∧ plusN x.t (M x.p.toNat z.p.toNat) ≤ z.t := by
  have hb : (0 ≤ x.p ∧ x.p < m) ∧ 0 ≤ x.t ∧ x.t ≤ 18446744073709551615 := by
    rcases List.mem_append.1 hx with h | h
    · exact ⟨⟨(hP.hold.bag.right.fit x h).1, hP.ports x h⟩, (hP.wfB x h).t0, (hP.wfB x h).t1⟩
    · obtain ⟨y, hy, rfl⟩ := List.mem_map.1 h
      exact ⟨⟨(hP.fit y hy).1, (hP.fit y hy).2.1⟩, (hP.wfH y hy).a0, (hP.wfH y hy).a1⟩
  refine ⟨x, hx, hb.1.1, hb.1.2, ?_⟩
  rw [← hp, hM.diag _ (by omega)]
  exact Int.le_trans (plus0_le hb.2) ht
theorem Chg.none {m : Nat} {M : Nat → Nat → Int} {H : List Ed} {B : List Batch.Ch} (hM : MT M m) (hP : OwnP m H B) : Chg m M H B H B [] :=
  ⟨Batch.right_nil, by simp, by simp, fun p t => by simp [Batch.tot], fun z hz => lets_self hM hP hz rfl (Int.le_refl _)⟩
theorem tot_cons1 (a : Batch.Ch) (l : List Batch.Ch) (p t : Int) : Batch.tot (a :: l) p t = Batch.tot [a] p t + Batch.tot l p t := Batch.tot_append [a] l p t
theorem one_wf {x : Ed} (h : x.Wf) {d : Int} (hd : d = 1 ∨ d = -1) : (⟨x.t, x.a, d⟩ : Batch.Ch).Wf := ⟨h.t0, h.t1, h.a0, h.a1, by dsimp only; omega, by dsimp only; omega⟩
theorem one_over {d : Int} (hd : d = 1 ∨ d = -1) : Batch.overB d = false := by rcases hd with rfl | rfl <;> decide
theorem sums_one {c : Batch.Ch} (hd : c.d = 1 ∨ c.d = -1) : Batch.sumsR [c] = [c] := by
  have ho := one_over hd
  have hk : Batch.overK [c] = false := by simp [Batch.overK, Batch.tab, Batch.add, ho]
  have hn : Batch.nzB c = true := by unfold Batch.nzB; exact decide_eq_true (by omega)
  rw [(Batch.sums_ok hk).2]
  simp [Batch.sumL, Batch.tab, Batch.add, hn]
theorem one_right {c : Batch.Ch} (hf : Batch.Fit c) (hd : c.d = 1 ∨ c.d = -1) : Batch.RightP [c] :=
  ⟨fun x hx => by simp at hx; subst hx; exact ⟨Batch.wrong_of_fit hf (one_over hd), by omega⟩, by simp⟩
theorem map_split {H : List Ed} (i : Nat) (p t : Int) : Batch.tot (H.map hc) p t = Batch.tot ((H.take i).map hc) p t + Batch.tot ((H.drop i).map hc) p t := by
  rw [← Batch.tot_append, ← List.map_append, List.take_append_drop]
theorem drop_at {H : List Ed} {i : Nat} {x : Ed} (h : H[i]? = some x) : H.drop i = x :: H.drop (i + 1) := by
  obtain ⟨hl, e⟩ := List.getElem?_eq_some_iff.1 h
  rw [List.drop_eq_getElem_cons hl, e]
theorem Chg.open {m : Nat} {M : Nat → Nat → Int} {H : List Ed} {B : List Batch.Ch} {x : Ed} {id : Int} (hm : m ≤ 64) (hM : MT M m) (hP : OwnP m H B) (hx : x ∈ H) (hn : hasB H id = false) (h0 : 0 ≤ id) (h1 : id ≤ 9223372036854775807) :
    OwnP m (withL H ⟨id, x.t, x.a⟩) B ∧ Chg m M H B (withL H ⟨id, x.t, x.a⟩) B [⟨x.t, x.a, 1⟩] := by
  have hw := hP.wfH x hx
  have hf := hP.fit x hx
  refine ⟨⟨with_rise hP.rise _, fun y hy => ?_, fun y hy => ?_, hP.hold, hP.wfB, hP.ports⟩, ⟨one_right (c := ⟨x.t, x.a, 1⟩) (hc_fit hm hf) (.inl rfl), fun y hy => ?_, by simp, fun p t => ?_, fun z hz => ?_⟩⟩
  · rcases with_mem hy with rfl | hy
    · exact ⟨by dsimp only; omega, h1, hw.t0, hw.t1, hw.a0, hw.a1⟩
    · exact hP.wfH y hy
  · rcases with_mem hy with rfl | hy
    · exact hf
    · exact hP.fit y hy
  · simp at hy; subst hy; exact one_wf hw (.inl rfl)
  · rw [with_no hP.rise hn]
    have e1 := map_split (H := H) (idx H id) p t
    have e2 : Batch.tot ((H.take (idx H id) ++ (⟨id, x.t, x.a⟩ : Ed) :: H.drop (idx H id)).map hc) p t = Batch.tot ((H.take (idx H id)).map hc) p t + (Batch.tot [⟨x.t, x.a, 1⟩] p t + Batch.tot ((H.drop (idx H id)).map hc) p t) := by
      rw [List.map_append, List.map_cons, Batch.tot_append, tot_cons1 (hc _)]
      rfl
    rw [Batch.tot_append, Batch.tot_append]
    show Batch.tot B p t + Batch.tot ((H.take (idx H id) ++ (⟨id, x.t, x.a⟩ : Ed) :: H.drop (idx H id)).map hc) p t = _
    rw [e2, e1]
    omega
  · rcases List.mem_append.1 hz with hz | hz
    · exact lets_self hM hP (List.mem_append_left _ hz) rfl (Int.le_refl _)
    · obtain ⟨y, hy, rfl⟩ := List.mem_map.1 hz
      rcases with_mem hy with rfl | hy
      · exact lets_self hM hP (x := hc x) (List.mem_append_right _ (List.mem_map_of_mem hx)) rfl (Int.le_refl _)
      · exact lets_self hM hP (x := hc y) (List.mem_append_right _ (List.mem_map_of_mem hy)) rfl (Int.le_refl _)
theorem tot_undo (x : Ed) (p q : Int) : Batch.tot [hc x] p q + Batch.tot [⟨x.t, x.a, -1⟩] p q = 0 := by
  by_cases hk : x.t = p ∧ x.a = q
  · simp [Batch.tot, hc, hk]
  · simp [Batch.tot, hc, hk]
theorem two_bound {x : Ed} (t : Int) (p q : Int) : -100000 ≤ Batch.tot ([⟨x.t, t, 1⟩] ++ [⟨x.t, x.a, -1⟩]) p q ∧ Batch.tot ([⟨x.t, t, 1⟩] ++ [⟨x.t, x.a, -1⟩]) p q ≤ 100000 := by
  have h := Batch.tot_bound (l := [⟨x.t, t, 1⟩] ++ [⟨x.t, x.a, -1⟩]) (B := 1) (fun y hy => by simp at hy; rcases hy with rfl | rfl <;> (dsimp only; decide)) (by decide) p q
  simp only [List.cons_append, List.nil_append, List.length_cons, List.length_nil] at h ⊢
  omega
theorem Chg.advance {m : Nat} {M : Nat → Nat → Int} {H : List Ed} {B : List Batch.Ch} {x : Ed} {id t : Int} (hm : m ≤ 64) (hM : MT M m) (hP : OwnP m H B) (hh : hasB H id = true) (hx : H[idx H id]? = some x) (he : x.f = id) (h0 : 0 ≤ t) (h1 : t ≤ 18446744073709551615) (ht : t ≠ 18446744073709551615) (hta : ¬ t < x.a) :
    OwnP m (H.set (idx H id) ⟨x.f, x.t, t⟩) B ∧ Chg m M H B (H.set (idx H id) ⟨x.f, x.t, t⟩) B (Batch.sumsR ([⟨x.t, t, 1⟩] ++ [⟨x.t, x.a, -1⟩])) := by
  have hxm := List.mem_of_getElem? hx
  have hw := hP.wfH x hxm
  have hf := hP.fit x hxm
  have hl := (List.getElem?_eq_some_iff.1 hx).1
  have e := with_yes (h := ⟨x.f, x.t, t⟩) hP.rise (by rw [he]; exact hh)
  simp only [he] at e
  have hwl : ∀ y ∈ ([⟨x.t, t, 1⟩] ++ [⟨x.t, x.a, -1⟩] : List Batch.Ch), y.Wf := fun y hy => by
    simp at hy
    rcases hy with rfl | rfl
    · exact ⟨hw.t0, hw.t1, h0, h1, by dsimp only; decide, by dsimp only; decide⟩
    · exact one_wf hw (.inr rfl)
  have hfl : ∀ y ∈ ([⟨x.t, t, 1⟩] ++ [⟨x.t, x.a, -1⟩] : List Batch.Ch), Batch.Fit y := fun y hy => by
    simp at hy
    rcases hy with rfl | rfl
    · exact ⟨hf.1, by dsimp only; omega, ht⟩
    · exact ⟨hf.1, by dsimp only; omega, hf.2.2⟩
  obtain ⟨s1, s2, s3⟩ := Batch.sum_tot hwl (two_bound t)
  refine ⟨⟨?_, fun y hy => ?_, fun y hy => ?_, hP.hold, hP.wfB, hP.ports⟩, ⟨Batch.right_sums hwl hfl, ?_, ?_, fun p q => ?_, fun z hz => ?_⟩⟩
  · rw [he, ← e]; exact with_rise hP.rise _
  · rcases List.mem_or_eq_of_mem_set hy with hy | rfl
    · exact hP.wfH y hy
    · exact ⟨hw.f0, hw.f1, hw.t0, hw.t1, h0, h1⟩
  · rcases List.mem_or_eq_of_mem_set hy with hy | rfl
    · exact hP.fit y hy
    · exact ⟨hf.1, hf.2.1, ht⟩
  · rw [s2]; exact Batch.sumL_wf hwl
  · rw [s2]
    have h9 := Batch.sumL_length ([⟨x.t, t, 1⟩] ++ [⟨x.t, x.a, -1⟩])
    have : ([⟨x.t, t, 1⟩] ++ [⟨x.t, x.a, -1⟩] : List Batch.Ch).length = 2 := rfl
    omega
  · rw [s2, s3, List.set_eq_take_append_cons_drop, if_pos hl]
    have e1 := map_split (H := H) (idx H id) p q
    rw [drop_at hx, List.map_cons, tot_cons1 (hc _)] at e1
    have e2 : Batch.tot ((H.take (idx H id) ++ (⟨x.f, x.t, t⟩ : Ed) :: H.drop (idx H id + 1)).map hc) p q = Batch.tot ((H.take (idx H id)).map hc) p q + (Batch.tot [⟨x.t, t, 1⟩] p q + Batch.tot ((H.drop (idx H id + 1)).map hc) p q) := by
      rw [List.map_append, List.map_cons, Batch.tot_append, tot_cons1 (hc _)]
      rfl
    rw [Batch.tot_append, Batch.tot_append, Batch.tot_append, e2, e1]
    have e3 := tot_undo x p q
    omega
  · rcases List.mem_append.1 hz with hz | hz
    · exact lets_self hM hP (List.mem_append_left _ hz) rfl (Int.le_refl _)
    · obtain ⟨y, hy, rfl⟩ := List.mem_map.1 hz
      rcases List.mem_or_eq_of_mem_set hy with hy | rfl
      · exact lets_self hM hP (x := hc y) (List.mem_append_right _ (List.mem_map_of_mem hy)) rfl (Int.le_refl _)
      · exact lets_self hM hP (x := hc x) (List.mem_append_right _ (List.mem_map_of_mem hxm)) rfl (by show x.a ≤ t; omega)
theorem Chg.close {m : Nat} {M : Nat → Nat → Int} {H : List Ed} {B : List Batch.Ch} {x : Ed} {i : Nat} (hm : m ≤ 64) (hM : MT M m) (hP : OwnP m H B) (hx : H[i]? = some x) :
    OwnP m (H.eraseIdx i) B ∧ Chg m M H B (H.eraseIdx i) B [⟨x.t, x.a, -1⟩] := by
  have hxm := List.mem_of_getElem? hx
  have hw := hP.wfH x hxm
  have hf := hP.fit x hxm
  have hmem : ∀ y ∈ H.eraseIdx i, y ∈ H := fun y hy => (List.eraseIdx_sublist H i).subset hy
  refine ⟨⟨erase_rise hP.rise i, fun y hy => hP.wfH y (hmem y hy), fun y hy => hP.fit y (hmem y hy), hP.hold, hP.wfB, hP.ports⟩, ⟨one_right (c := ⟨x.t, x.a, -1⟩) ⟨hf.1, by dsimp only; omega, hf.2.2⟩ (.inr rfl), fun y hy => ?_, by simp, fun p q => ?_, fun z hz => ?_⟩⟩
  · simp at hy; subst hy; exact one_wf hw (.inr rfl)
  · rw [List.eraseIdx_eq_take_drop_succ]
    have e1 := map_split (H := H) i p q
    rw [drop_at hx, List.map_cons, tot_cons1 (hc _)] at e1
    rw [Batch.tot_append, Batch.tot_append, List.map_append, Batch.tot_append, e1]
    have e3 := tot_undo x p q
    omega
  · rcases List.mem_append.1 hz with hz | hz
    · exact lets_self hM hP (List.mem_append_left _ hz) rfl (Int.le_refl _)
    · obtain ⟨y, hy, rfl⟩ := List.mem_map.1 hz
      exact lets_self hM hP (x := hc y) (List.mem_append_right _ (List.mem_map_of_mem (hmem y hy))) rfl (Int.le_refl _)
theorem tot_some {l : List Batch.Ch} {p t : Int} (h : Batch.tot l p t ≠ 0) : ∃ x ∈ l, x.p = p ∧ x.t = t := by
  cases Classical.em (∃ x ∈ l, x.p = p ∧ x.t = t) with
  | inl e => exact e
  | inr e => exact absurd (Batch.tot_none fun x hx h2 => e ⟨x, hx, h2⟩) h
theorem packR_length (l : List Batch.Ch) : (Batch.packR l).length ≤ l.length := by
  unfold Batch.packR
  split
  · exact Nat.zero_le _
  · unfold Batch.sumsR
    split
    · exact Nat.zero_le _
    · exact Batch.sumL_length l
theorem Chg.update {m : Nat} {M : Nat → Nat → Int} {H : List Ed} {B l : List Batch.Ch} (hM : MT M m) (hP : OwnP m H B) (hl : l.length ≤ 20) (hwl : ∀ x ∈ l, x.Wf) (hk : Batch.packE l = 0) (hok : ∀ c ∈ Batch.packR l, upE B (allL H B) M m c = 0) :
    OwnP m H (Batch.applyR B (Batch.packR l)) ∧ Chg m M H B H (Batch.applyR B (Batch.packR l)) (Batch.packR l) := by
  have hwC : ∀ x ∈ Batch.packR l, x.Wf := packR_wf hwl
  have hlen : (Batch.packR l).length ≤ 20 := Nat.le_trans (packR_length l) hl
  have hR := Batch.pack_right hwl hk
  generalize Batch.packR l = C at hwC hlen hR hok ⊢
  have ha := apply_zero hP.hold hR hP.wfB hwC hok
  have htot := Batch.applyR_tot hP.hold.bag.right hR hP.wfB hwC ha
  have hbag := Batch.applyR_bag hP.hold.bag hR hP.wfB hwC ha
  have hcz : ∀ z ∈ Batch.applyR B C, z.d = Batch.tot B z.p z.t + Batch.tot C z.p z.t := fun z hz => by rw [← htot, Batch.tot_one hbag.right.2 hz]
  have hwR := Batch.applyR_wf hP.wfB hwC
  refine ⟨⟨hP.rise, hP.wfH, hP.fit, ⟨hbag, fun z hz => ?_⟩, hwR, fun z hz => ?_⟩, ⟨hR, hwC, hlen, fun p t => ?_, fun z hz => ?_⟩⟩
  · have e := hcz z hz
    by_cases hkc : ∃ c ∈ C, c.p = z.p ∧ c.t = z.t
    · obtain ⟨c, hc, h1, h2⟩ := hkc
      have h3 := (upE_zero (hok c hc)).2.2.2
      have h4 := Batch.tot_key hR.2 hc h1 h2
      rw [h1, h2] at h3
      omega
    · rw [Batch.tot_none fun c hc h => hkc ⟨c, hc, h⟩] at e
      have := (hP.hold.tot z.p z.t).2
      omega
  · have e := hcz z hz
    have hp := hbag.pos z hz
    by_cases h0 : Batch.tot B z.p z.t = 0
    · obtain ⟨c, hc, h1, h2⟩ := tot_some (l := C) (p := z.p) (t := z.t) (by omega)
      have := (upE_zero (hok c hc)).1
      omega
    · obtain ⟨b, hb, h1, h2⟩ := tot_some h0
      have := hP.ports b hb
      omega
  · rw [Batch.tot_append, Batch.tot_append, htot]; omega
  · rcases List.mem_append.1 hz with hz | hz
    · have e := hcz z hz
      have hp := hbag.pos z hz
      by_cases h0 : Batch.tot B z.p z.t = 0
      · obtain ⟨c, hc, h1, h2⟩ := tot_some (l := C) (p := z.p) (t := z.t) (by omega)
        have h3 := (upE_zero (hok c hc)).2.1 (by have := Batch.tot_key hR.2 hc h1 h2; omega)
        obtain ⟨x, hx, hlx⟩ := letsB_iff.1 h3
        unfold letB at hlx
        obtain ⟨g0, g1, g2⟩ := of_decide_eq_true hlx
        unfold Stamp.reachB at g2
        obtain ⟨g3, g4⟩ := of_decide_eq_true g2
        obtain ⟨⟨x0, hx0, hk0⟩, _⟩ := ((all_is hP.wfH hP.wfB).2 x).1 hx
        refine ⟨x0, hx0, by rw [hk0.1]; exact g0, by rw [hk0.1]; exact g1, ?_⟩
        rw [hk0.1, hk0.2, ← h1, ← h2]
        exact g4
      · obtain ⟨b, hb, h1, h2⟩ := tot_some h0
        exact lets_self hM hP (List.mem_append_left _ hb) h1 (Int.le_of_eq h2)
    · exact lets_self hM hP (List.mem_append_right _ hz) rfl (Int.le_refl _)
end Go.Proofs.YtlkljeedlkbkgaaGreatDoor.Cl
