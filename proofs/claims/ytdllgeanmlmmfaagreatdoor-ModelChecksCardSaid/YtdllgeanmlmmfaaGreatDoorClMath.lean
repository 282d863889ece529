/-
  PACKAGE claim, PLAIN MATHEMATICS: handles that rise by Id, where one stands; all that is held, as counts.
-/
import Derived.Test.YtdllgeanmlmmfaaGreatDoorJoined8
import Derived.Test.YtdllgeanmlmmfaaGreatDoorJoined5
namespace Go.Proofs.YtdllgeanmlmmfaaGreatDoor.Cl
open Go.RowKit Gr Batch
set_option linter.unusedVariables false

/-- Handles (f: Id, t: Port, a: Time) that rise by Id. -/
def Rise (H : List Ed) : Prop := H.Pairwise fun x y => x.f < y.f
def lowB (id : Int) (x : Ed) : Bool := decide (x.f < id)
def highB (id : Int) (x : Ed) : Bool := decide (id < x.f)
/-- The place of an Id, and whether there is one. -/
def idx (H : List Ed) (id : Int) : Nat := (H.filter (lowB id)).length
def hasB (H : List Ed) (id : Int) : Bool := H.any fun x => decide (x.f = id)
theorem hasB_iff {H : List Ed} {id : Int} : hasB H id = true ↔ ∃ x ∈ H, x.f = id := by
  unfold hasB
  rw [List.any_eq_true]
  exact ⟨fun ⟨x, h, e⟩ => ⟨x, h, of_decide_eq_true e⟩, fun ⟨x, h, e⟩ => ⟨x, h, decide_eq_true e⟩⟩
theorem hasB_no {H : List Ed} {id : Int} (h : ∀ x ∈ H, x.f ≠ id) : hasB H id = false := by
  cases e : hasB H id
  · rfl
  · obtain ⟨x, hx, e⟩ := hasB_iff.1 e
    exact absurd e (h x hx)
theorem hasB_not {H : List Ed} {id : Int} (h : hasB H id = false) : ∀ x ∈ H, x.f ≠ id := fun x hx e => by
  rw [hasB_iff.2 ⟨x, hx, e⟩] at h
  cases h
/-- All before i are lower, all from i on are not. -/
def AtP (H : List Ed) (id : Int) (i : Nat) : Prop := i ≤ H.length ∧ (∀ x ∈ H.take i, x.f < id) ∧ (∀ x ∈ H.drop i, ¬ x.f < id)
theorem filter_all {α : Type} {p : α → Bool} {l : List α} (h : ∀ x ∈ l, p x = true) : l.filter p = l := List.filter_eq_self.2 h
theorem filter_none {α : Type} {p : α → Bool} {l : List α} (h : ∀ x ∈ l, p x = false) : l.filter p = [] := List.filter_eq_nil_iff.2 fun x hx e => by rw [h x hx] at e; cases e
theorem AtP.low {H : List Ed} {id : Int} {i : Nat} (h : AtP H id i) : H.filter (lowB id) = H.take i := by
  have e : H.filter (lowB id) = (H.take i ++ H.drop i).filter (lowB id) := by rw [List.take_append_drop]
  rw [e, List.filter_append, filter_all (p := lowB id) (fun x hx => decide_eq_true (h.2.1 x hx)), filter_none (p := lowB id) (fun x hx => decide_eq_false (h.2.2 x hx)), List.append_nil]
theorem AtP.idx {H : List Ed} {id : Int} {i : Nat} (h : AtP H id i) : idx H id = i := by
  unfold Cl.idx
  rw [h.low, List.length_take]
  exact Nat.min_eq_left h.1
theorem rise_lt {H : List Ed} (hr : Rise H) {i j : Nat} {x y : Ed} (hx : H[i]? = some x) (hy : H[j]? = some y) (h : i < j) : x.f < y.f := by
  obtain ⟨h1, e1⟩ := List.getElem?_eq_some_iff.1 hx
  obtain ⟨h2, e2⟩ := List.getElem?_eq_some_iff.1 hy
  have := (List.pairwise_iff_getElem.1 hr) i j h1 h2 h
  rw [e1, e2] at this
  exact this
theorem rise_same {H : List Ed} (hr : Rise H) {i j : Nat} {x y : Ed} (hx : H[i]? = some x) (hy : H[j]? = some y) (h : x.f = y.f) : i = j := by
  rcases Nat.lt_trichotomy i j with e | e | e
  · have := rise_lt hr hx hy e; omega
  · exact e
  · have := rise_lt hr hy hx e; omega
theorem AtP.of {H : List Ed} (hr : Rise H) {id : Int} {i : Nat} (hi : i ≤ H.length) (h1 : ∀ k x, k < i → H[k]? = some x → x.f < id) (h2 : ∀ k x, i ≤ k → H[k]? = some x → ¬ x.f < id) : AtP H id i := by
  refine ⟨hi, fun x hx => ?_, fun x hx => ?_⟩
  · obtain ⟨k, hk⟩ := List.mem_iff_getElem?.1 hx
    have hlt : k < i := by have := (List.getElem?_eq_some_iff.1 hk).1; rw [List.length_take] at this; omega
    rw [List.getElem?_take_of_lt hlt] at hk
    exact h1 k x hlt hk
  · obtain ⟨k, hk⟩ := List.mem_iff_getElem?.1 hx
    rw [List.getElem?_drop] at hk
    exact h2 (i + k) x (by omega) hk
theorem at_idx {H : List Ed} (hr : Rise H) (id : Int) : AtP H id (idx H id) := by
  have key : ∀ H : List Ed, Rise H → ∃ i, AtP H id i := by
    intro H
    induction H with
    | nil => exact fun _ => ⟨0, Nat.le_refl _, by simp, by simp⟩
    | cons x r ih =>
      intro h
      obtain ⟨hx, hrr⟩ := List.pairwise_cons.1 h
      by_cases e : x.f < id
      · obtain ⟨i, h0, h1, h2⟩ := ih hrr
        refine ⟨i + 1, by simp; omega, fun y hy => ?_, fun y hy => h2 y (by simpa using hy)⟩
        rw [List.take_succ_cons] at hy
        rcases List.mem_cons.1 hy with rfl | hy
        · exact e
        · exact h1 y hy
      · refine ⟨0, Nat.zero_le _, by simp, fun y hy => ?_⟩
        rw [List.drop_zero] at hy
        rcases List.mem_cons.1 hy with rfl | hy
        · exact e
        · have := hx y hy; omega
  obtain ⟨i, h⟩ := key H hr
  rw [h.idx]
  exact h
theorem idx_le {H : List Ed} (id : Int) : idx H id ≤ H.length := List.length_filter_le _ _
/-- The handle of an Id that there is. -/
theorem at_has {H : List Ed} (hr : Rise H) {id : Int} (h : hasB H id = true) : ∃ x, H[idx H id]? = some x ∧ x ∈ H ∧ x.f = id := by
  obtain ⟨x, hx, e⟩ := hasB_iff.1 h
  obtain ⟨k, hk⟩ := List.mem_iff_getElem?.1 hx
  have ha := at_idx hr id
  have : k = idx H id := by
    have h1 : ¬ k < idx H id := fun hlt => by
      have := ha.2.1 x (List.mem_iff_getElem?.2 ⟨k, by rw [List.getElem?_take_of_lt hlt]; exact hk⟩)
      omega
    have h2 : ¬ idx H id < k := fun hlt => by
      have hl := (List.getElem?_eq_some_iff.1 hk).1
      have hy : H[idx H id]? = some H[idx H id] := List.getElem?_eq_getElem (by omega)
      have h3 := rise_lt hr hy hk hlt
      have h4 := ha.2.2 H[idx H id] (List.mem_iff_getElem?.2 ⟨0, by rw [List.getElem?_drop]; exact hy⟩)
      omega
    omega
  subst this
  exact ⟨x, hk, hx, e⟩
theorem has_at {H : List Ed} {id : Int} {i : Nat} {x : Ed} (hx : H[i]? = some x) (e : x.f = id) : hasB H id = true := hasB_iff.2 ⟨x, List.mem_of_getElem? hx, e⟩
theorem no_at {H : List Ed} (hr : Rise H) {id : Int} {i : Nat} (h : AtP H id i) (hn : ∀ x, H[i]? = some x → x.f ≠ id) : hasB H id = false := by
  cases e : hasB H id
  · rfl
  · obtain ⟨x, hx, _, e⟩ := at_has hr e
    rw [h.idx] at hx
    exact absurd e (hn x hx)
/-- All above: behind the place. -/
theorem high_no {H : List Ed} (hr : Rise H) {id : Int} (h : hasB H id = false) : H.filter (highB id) = H.drop (idx H id) := by
  have ha := at_idx hr id
  have e : H.filter (highB id) = (H.take (idx H id) ++ H.drop (idx H id)).filter (highB id) := by rw [List.take_append_drop]
  rw [e, List.filter_append, filter_none (p := highB id) (fun x hx => decide_eq_false (by have := ha.2.1 x hx; omega)), filter_all (p := highB id) (fun x hx => decide_eq_true (by have h1 := ha.2.2 x hx; have h2 := hasB_not h x (List.mem_of_mem_drop hx); omega)), List.nil_append]
theorem high_yes {H : List Ed} (hr : Rise H) {id : Int} (h : hasB H id = true) : H.filter (highB id) = H.drop (idx H id + 1) := by
  have ha := at_idx hr id
  obtain ⟨x, hx, hm, e⟩ := at_has hr h
  have hl := (List.getElem?_eq_some_iff.1 hx).1
  have ed : H.drop (idx H id) = x :: H.drop (idx H id + 1) := by rw [List.drop_eq_getElem_cons hl]; rw [(List.getElem?_eq_some_iff.1 hx).2]
  have e2 : H.filter (highB id) = (H.take (idx H id) ++ x :: H.drop (idx H id + 1)).filter (highB id) := by rw [← ed, List.take_append_drop]
  rw [e2, List.filter_append, filter_none (p := highB id) (fun y hy => decide_eq_false (by have := ha.2.1 y hy; omega)), List.nil_append, List.filter_cons_of_neg (by unfold highB; simp; omega)]
  refine filter_all (p := highB id) fun y hy => decide_eq_true ?_
  obtain ⟨k, hk⟩ := List.mem_iff_getElem?.1 hy
  rw [List.getElem?_drop] at hk
  have := rise_lt hr hx hk (by omega)
  omega
/-- A handle more, or another one. -/
def withL (H : List Ed) (h : Ed) : List Ed := H.filter (lowB h.f) ++ h :: H.filter (highB h.f)
theorem with_no {H : List Ed} (hr : Rise H) {h : Ed} (hn : hasB H h.f = false) : withL H h = H.take (idx H h.f) ++ h :: H.drop (idx H h.f) := by
  unfold withL; rw [(at_idx hr _).low, high_no hr hn]
theorem with_yes {H : List Ed} (hr : Rise H) {h : Ed} (hn : hasB H h.f = true) : withL H h = H.set (idx H h.f) h := by
  obtain ⟨x, hx, _, _⟩ := at_has hr hn
  unfold withL; rw [(at_idx hr _).low, high_yes hr hn, List.set_eq_take_append_cons_drop, if_pos (List.getElem?_eq_some_iff.1 hx).1]
theorem with_rise {H : List Ed} (hr : Rise H) (h : Ed) : Rise (withL H h) := by
  unfold withL Rise
  rw [List.pairwise_append]
  refine ⟨hr.filter _, List.pairwise_cons.2 ⟨fun x hx => of_decide_eq_true (List.mem_filter.1 hx).2, hr.filter _⟩, fun x hx y hy => ?_⟩
  have h1 : x.f < h.f := of_decide_eq_true (List.mem_filter.1 hx).2
  rcases List.mem_cons.1 hy with rfl | hy
  · exact h1
  · have : h.f < y.f := of_decide_eq_true (List.mem_filter.1 hy).2
    omega
theorem with_mem {H : List Ed} {h x : Ed} (hx : x ∈ withL H h) : x = h ∨ x ∈ H := by
  unfold withL at hx
  rcases List.mem_append.1 hx with hx | hx
  · exact .inr (List.mem_filter.1 hx).1
  · rcases List.mem_cons.1 hx with hx | hx
    · exact .inl hx
    · exact .inr (List.mem_filter.1 hx).1
theorem with_length {H : List Ed} (h : Ed) : (withL H h).length ≤ H.length + 1 := by
  unfold withL
  rw [List.length_append, List.length_cons]
  have : ∀ l : List Ed, (l.filter (lowB h.f)).length + (l.filter (highB h.f)).length ≤ l.length := by
    intro l
    induction l with
    | nil => simp
    | cons x r ih =>
      by_cases h1 : x.f < h.f
      · rw [List.filter_cons_of_pos (by unfold lowB; simpa using h1), List.filter_cons_of_neg (by unfold highB; simp; omega), List.length_cons, List.length_cons]; omega
      · by_cases h2 : h.f < x.f
        · rw [List.filter_cons_of_neg (by unfold lowB; simpa using h1), List.filter_cons_of_pos (by unfold highB; simpa using h2), List.length_cons, List.length_cons]; omega
        · rw [List.filter_cons_of_neg (by unfold lowB; simpa using h1), List.filter_cons_of_neg (by unfold highB; simpa using h2), List.length_cons]; omega
  have := this H
  omega
theorem erase_rise {H : List Ed} (hr : Rise H) (i : Nat) : Rise (H.eraseIdx i) := List.Pairwise.sublist (List.eraseIdx_sublist H i) hr

/-! ### all that is held -/
/-- A handle counts one. -/
def hc (x : Ed) : Ch := ⟨x.t, x.a, 1⟩
def allL (H : List Ed) (B : List Ch) : List Ch := tab (B ++ H.map hc)
theorem hc_wf {x : Ed} (h : x.Wf) : (hc x).Wf := ⟨h.t0, h.t1, h.a0, h.a1, by show (-9223372036854775808 : Int) ≤ 1; decide, by show (1 : Int) ≤ 9223372036854775807; decide⟩
theorem all_wf0 {H : List Ed} {B : List Ch} (hH : ∀ x ∈ H, x.Wf) (hB : ∀ x ∈ B, x.Wf) : ∀ x ∈ B ++ H.map hc, x.Wf := fun x hx => by
  rcases List.mem_append.1 hx with hx | hx
  · exact hB x hx
  · obtain ⟨y, hy, rfl⟩ := List.mem_map.1 hx
    exact hc_wf (hH y hy)
theorem tab_one {T T' l l' : List Ch} (h : IsTab T l) (h' : IsTab T' l') (e : ∀ p t, wr (tot l p t) = wr (tot l' p t)) (k : ∀ z, (∃ x ∈ l, Key x z) ↔ ∃ x ∈ l', Key x z) : T = T' :=
  rising_ext h.1 h'.1 fun z => by rw [h.2, h'.2, e, k]
theorem tab_perm {l l' : List Ch} (hw : ∀ x ∈ l', x.Wf) (h : l.Perm l') : tab l = tab l' :=
  tab_one (tab_is (fun x hx => hw x (h.mem_iff.1 hx))) (tab_is hw) (fun p t => by rw [tot_perm h]) fun z => ⟨fun ⟨x, hx, e⟩ => ⟨x, h.mem_iff.1 hx, e⟩, fun ⟨x, hx, e⟩ => ⟨x, h.mem_iff.2 hx, e⟩⟩
/-- One more, of a sorted list: its key is the last one's. -/
theorem tab_same {l : List Ch} (hw : ∀ x ∈ l, x.Wf) (hs : Sorted l) {i : Nat} {x y : Ch} (hx : l[i]? = some x) (hy : l[i + 1]? = some y) (hk : Key x y) :
    ∃ z, (tab (l.take (i + 1)))[(tab (l.take (i + 1))).length - 1]? = some z ∧ 0 < (tab (l.take (i + 1))).length ∧ tab (l.take (i + 1 + 1)) = (tab (l.take (i + 1))).set ((tab (l.take (i + 1))).length - 1) ⟨z.p, z.t, wr (z.d + y.d)⟩ := by
  have ht := tab_is (l := l.take (i + 1)) (fun z hz => hw z (List.mem_of_mem_take hz))
  rw [tab_take hy]
  generalize tab (l.take (i + 1)) = T at ht
  obtain ⟨z', hz', hkz⟩ : ∃ z' ∈ T, Key x z' := ⟨⟨x.p, x.t, wr (tot (l.take (i + 1)) x.p x.t)⟩, (ht.2 _).2 ⟨⟨x, take_mem hx (Nat.lt_succ_self _), rfl, rfl⟩, rfl⟩, rfl, rfl⟩
  obtain ⟨k, hkT⟩ := List.mem_iff_getElem?.1 hz'
  have hkl := (List.getElem?_eq_some_iff.1 hkT).1
  have hlast : k = T.length - 1 := by
    rcases Nat.lt_or_ge k (T.length - 1) with h | h
    · have hz : T[T.length - 1]? = some T[T.length - 1] := List.getElem?_eq_getElem (by omega)
      have hlt : Lt z' T[T.length - 1] := by
        have := (List.pairwise_iff_getElem.1 ht.1) k (T.length - 1) hkl (by omega) h
        rw [(List.getElem?_eq_some_iff.1 hkT).2] at this
        exact this
      obtain ⟨⟨v, hv, hvk⟩, _⟩ := (ht.2 _).1 (List.getElem_mem (show T.length - 1 < T.length by omega))
      have hxv : Lt x v := (Lt.key_left hkz hlt).key_right hvk.symm
      obtain ⟨j, hj, hjv⟩ := mem_take hv
      rcases Nat.lt_or_ge j i with h3 | h3
      · exact absurd hxv (hs.le hjv hx h3)
      · have : j = i := by omega
        subst this
        rw [hx] at hjv
        obtain rfl := Option.some.inj hjv
        exact absurd hxv Lt.irrefl
    · omega
  subst hlast
  exact ⟨z', hkT, by omega, add_found ht.1 hkT (hkz.symm.trans hk)⟩
/-- .. its key is another one. -/
theorem tab_new {l : List Ch} (hw : ∀ x ∈ l, x.Wf) (hs : Sorted l) {i : Nat} {y : Ch} (hy : l[i]? = some y) (hn : ∀ x ∈ l.take i, Lt x y) : tab (l.take (i + 1)) = tab (l.take i) ++ [y] := by
  have ht := tab_is (l := l.take i) (fun z hz => hw z (List.mem_of_mem_take hz))
  rw [tab_take hy]
  generalize tab (l.take i) = T at ht
  have := add_insert (l := T) (x := y) (k := T.length) (Nat.le_refl _) (fun z hz => by simp at hz) (fun z hz => by
    rw [List.take_length] at hz
    obtain ⟨⟨v, hv, hvk⟩, _⟩ := (ht.2 _).1 hz
    exact Lt.key_left hvk.symm (hn v hv))
  rw [this, List.take_length, List.drop_length]
theorem sorted_new {l : List Ch} (hs : Sorted l) {i : Nat} {x y : Ch} (hx : l[i]? = some x) (hy : l[i + 1]? = some y) (hk : ¬ Key x y) : ∀ v ∈ l.take (i + 1), Lt v y := by
  intro v hv
  obtain ⟨j, hj, hjv⟩ := mem_take hv
  have hxy : Lt x y := by
    rcases three x y with h | h | h
    · exact h
    · exact absurd h hk
    · exact absurd h (hs.le hx hy (Nat.lt_succ_self _))
  rcases Nat.lt_or_ge j i with h3 | h3
  · have h4 := hs.le hjv hx h3
    rcases three v x with h | h | h
    · exact h.trans hxy
    · exact Lt.key_left h hxy
    · exact absurd h h4
  · have : j = i := by omega
    subst this
    rw [hx] at hjv
    obtain rfl := Option.some.inj hjv
    exact hxy
end Go.Proofs.YtdllgeanmlmmfaaGreatDoor.Cl
