/-
  PACKAGE bag, PLAIN MATHEMATICS: counts that are all above 0, changed by a Batch, all of it or nothing; the least time of a port.
  PACKAGE front, PLAIN MATHEMATICS: the front of a port, by the ports from which something comes, and by the stamps one behind the other.
-/
import Derived.Test.YtdllgeanmlmmfaaGreatDoorJoined7
import Derived.Test.YtdllgeanmlmmfaaGreatDoorGMem
namespace Go.Proofs.YtdllgeanmlmmfaaGreatDoor.Batch
open Go.RowKit
set_option linter.unusedVariables false

/-! all above 0 -/
def posB (l : List Ch) : Bool := l.all fun x => decide (0 < x.d)
theorem posB_iff (l : List Ch) : posB l = true ↔ ∀ x ∈ l, 0 < x.d := by unfold posB; rw [List.all_eq_true]; exact ⟨fun h x hx => of_decide_eq_true (h x hx), fun h x hx => decide_eq_true (h x hx)⟩
theorem posB_true {l : List Ch} (h : ∀ x ∈ l, 0 < x.d) : posB l = true := (posB_iff l).2 h
theorem posB_false {l : List Ch} {x : Ch} (hx : x ∈ l) (h : ¬ 0 < x.d) : posB l = false := by
  cases e : posB l
  · rfl
  · exact absurd ((posB_iff l).1 e x hx) h
/-- A Bag. -/
structure BagP (l : List Ch) : Prop where
  right : RightP l
  pos : ∀ x ∈ l, 0 < x.d
theorem wrong_d {x : Ch} (h : wrongN x = 0) : -576460752303423488 ≤ x.d ∧ x.d ≤ 576460752303423488 := by
  unfold wrongN at h
  split at h
  · exact absurd h (by decide)
  · split at h
    · exact absurd h (by decide)
    · split at h
      · exact absurd h (by decide)
      · rename_i ho
        have ho := Bool.eq_false_iff.2 ho
        have := of_decide_eq_false ho
        omega
theorem RightP.d {l : List Ch} (h : RightP l) : ∀ x ∈ l, -576460752303423488 ≤ x.d ∧ x.d ≤ 576460752303423488 := fun x hx => wrong_d (h.1 x hx).1
theorem RightP.totR {l : List Ch} (h : RightP l) (p t : Int) : -576460752303423488 ≤ tot l p t ∧ tot l p t ≤ 576460752303423488 := by
  by_cases hk : ∃ x ∈ l, x.p = p ∧ x.t = t
  · obtain ⟨x, hx, hp, ht⟩ := hk
    have e := tot_one h.2 hx
    rw [hp, ht] at e
    rw [e]
    exact h.d x hx
  · rw [tot_none (fun x hx hkx => hk ⟨x, hx, hkx⟩)]
    omega
theorem tot_key {l : List Ch} (h : l.Pairwise Lt) {x : Ch} (hx : x ∈ l) {p t : Int} (hp : x.p = p) (ht : x.t = t) : tot l p t = x.d := by rw [← hp, ← ht]; exact tot_one h hx
theorem BagP.tot0 {l : List Ch} (h : BagP l) (p t : Int) : 0 ≤ tot l p t := by
  by_cases hk : ∃ x ∈ l, x.p = p ∧ x.t = t
  · obtain ⟨x, hx, hp, ht⟩ := hk
    have := h.pos x hx
    rw [tot_key h.right.2 hx hp ht]
    omega
  · rw [tot_none (fun x hx hkx => hk ⟨x, hx, hkx⟩)]
    omega
theorem wf_right {l : List Ch} (h : RightP l) (hw : ∀ x ∈ l, x.Wf) : IsSum l l := IsSum.self h.2 fun x hx => ⟨(h.1 x hx).2, (hw x hx).d0, (hw x hx).d1⟩

/-! changed by a Batch, all of it or nothing -/
def negAt (B : List Ch) (x : Ch) : Bool := decide (tot B x.p x.t + x.d < 0)
def anyNeg (B C : List Ch) : Bool := C.any (negAt B)
def applyE (B C : List Ch) : Int := if anyNeg B C = true then 11 else sumsE (B ++ C)
def applyR (B C : List Ch) : List Ch := if anyNeg B C = true then [] else sumsR (B ++ C)
theorem apply_neg {B C : List Ch} (h : anyNeg B C = true) : applyE B C = 11 ∧ applyR B C = [] := ⟨if_pos h, if_pos h⟩
theorem apply_not {B C : List Ch} (h : anyNeg B C = false) : applyE B C = sumsE (B ++ C) ∧ applyR B C = sumsR (B ++ C) := by unfold applyE applyR; rw [h]; exact ⟨rfl, rfl⟩
theorem anyNeg_at {B C : List Ch} {x : Ch} (hx : x ∈ C) (h : tot B x.p x.t + x.d < 0) : anyNeg B C = true := List.any_eq_true.2 ⟨x, hx, decide_eq_true h⟩
theorem anyNeg_no {B C : List Ch} (h : ∀ x ∈ C, ¬ (tot B x.p x.t + x.d < 0)) : anyNeg B C = false := by
  cases e : anyNeg B C
  · rfl
  · obtain ⟨x, hx, hn⟩ := List.any_eq_true.1 e
    exact absurd (of_decide_eq_true hn) (h x hx)
theorem anyNeg_of {B C : List Ch} (h : anyNeg B C = false) : ∀ x ∈ C, 0 ≤ tot B x.p x.t + x.d := fun x hx => by
  by_cases hn : tot B x.p x.t + x.d < 0
  · rw [anyNeg_at hx hn] at h
    exact absurd h (by decide)
  · omega
def overAt (B : List Ch) (x : Ch) : Bool := decide (576460752303423488 < tot B x.p x.t + x.d)
def anyOver (B C : List Ch) : Bool := C.any (overAt B)
theorem anyOver_is {B C : List Ch} (hB : BagP B) (hC : RightP C) (hwB : ∀ x ∈ B, x.Wf) (hwC : ∀ x ∈ C, x.Wf) (hn : anyNeg B C = false) : anyOver B C = overK (B ++ C) := by
  have hw := both_wf hwB hwC
  rw [Bool.eq_iff_iff, overK_iff hw]
  constructor
  · intro h
    obtain ⟨x, hx, ho⟩ := List.any_eq_true.1 h
    have ho := of_decide_eq_true ho
    refine ⟨x.p, x.t, ?_⟩
    have h1 := hB.right.totR x.p x.t
    have h2 := hC.d x hx
    rw [tot_append, tot_one hC.2 hx, wr_id (by omega) (by omega)]
    exact decide_eq_true (.inr ho)
  · rintro ⟨p, t, ho⟩
    have h1 := hB.right.totR p t
    have h2 := hC.totR p t
    rw [tot_append, wr_id (by omega) (by omega)] at ho
    have ho := of_decide_eq_true ho
    by_cases hk : ∃ x ∈ C, x.p = p ∧ x.t = t
    · obtain ⟨x, hx, hp, ht⟩ := hk
      have h3 := anyNeg_of hn x hx
      have e := tot_key hC.2 hx hp ht
      rw [hp, ht] at h3
      refine List.any_eq_true.2 ⟨x, hx, decide_eq_true ?_⟩
      rw [hp, ht]
      omega
    · rw [tot_none (fun x hx hkx => hk ⟨x, hx, hkx⟩)] at ho
      omega
theorem applyR_wf {B C : List Ch} (hB : ∀ x ∈ B, x.Wf) (hC : ∀ x ∈ C, x.Wf) : ∀ x ∈ applyR B C, x.Wf := by
  unfold applyR
  split
  · simp
  · exact sumsR_wf (both_wf hB hC)
theorem applyR_length (B C : List Ch) : (applyR B C).length ≤ B.length + C.length := by
  unfold applyR
  split
  · simp
  · have := sumsR_length (B ++ C)
    rw [List.length_append] at this
    exact this
theorem applyR_right {B C : List Ch} (hB : RightP B) (hC : RightP C) (hwB : ∀ x ∈ B, x.Wf) (hwC : ∀ x ∈ C, x.Wf) : RightP (applyR B C) := by
  unfold applyR
  split
  · exact right_nil
  · exact right_sums (both_wf hwB hwC) fun x hx => (List.mem_append.1 hx).elim (hB.fit x) (hC.fit x)
/-- What is there afterwards. -/
theorem applyR_tot {B C : List Ch} (hB : RightP B) (hC : RightP C) (hwB : ∀ x ∈ B, x.Wf) (hwC : ∀ x ∈ C, x.Wf) (h : applyE B C = 0) (p t : Int) : tot (applyR B C) p t = tot B p t + tot C p t := by
  have hn : anyNeg B C = false := by
    cases e : anyNeg B C
    · rfl
    · rw [(apply_neg e).1] at h; exact absurd h (by decide)
  rw [(apply_not hn).2]
  rw [(apply_not hn).1] at h
  have ho : overK (B ++ C) = false := by
    cases e : overK (B ++ C)
    · rfl
    · rw [(sums_over e).1] at h; exact absurd h (by decide)
  have h1 := hB.totR p t
  have h2 := hC.totR p t
  rw [(sums_ok ho).2, (sumL_is (both_wf hwB hwC)).tot, tot_append, wr_id (by omega) (by omega)]
theorem applyR_bag {B C : List Ch} (hB : BagP B) (hC : RightP C) (hwB : ∀ x ∈ B, x.Wf) (hwC : ∀ x ∈ C, x.Wf) (h : applyE B C = 0) : BagP (applyR B C) := by
  have hr := applyR_right hB.right hC hwB hwC
  refine ⟨hr, fun z hz => ?_⟩
  have e := applyR_tot hB.right hC hwB hwC h z.p z.t
  rw [tot_one hr.2 hz] at e
  have hn : anyNeg B C = false := by
    cases e : anyNeg B C
    · rfl
    · rw [(apply_neg e).1] at h; exact absurd h (by decide)
  have h0 := (hr.1 z hz).2
  have h1 := hB.tot0 z.p z.t
  by_cases hk : ∃ x ∈ C, x.p = z.p ∧ x.t = z.t
  · obtain ⟨x, hx, hp, ht⟩ := hk
    have h3 := anyNeg_of hn x hx
    rw [hp, ht] at h3
    rw [tot_key hC.2 hx hp ht] at e
    omega
  · rw [tot_none (fun x hx hkx => hk ⟨x, hx, hkx⟩)] at e
    omega

/-! the least time of a port -/
def leastL : List Ch → Int → Int
  | [], _ => 18446744073709551615
  | x :: r, p => if x.p = p ∧ x.t < leastL r p then x.t else leastL r p
theorem leastL_le {l : List Ch} {p : Int} : leastL l p ≤ 18446744073709551615 := by
  induction l with
  | nil => exact Int.le_refl _
  | cons x r ih => unfold leastL; split <;> omega
theorem leastL_lo {l : List Ch} {p : Int} : ∀ x ∈ l, x.p = p → leastL l p ≤ x.t := by
  induction l with
  | nil => simp
  | cons x r ih =>
    intro y hy hp
    unfold leastL
    rcases List.mem_cons.1 hy with rfl | hy
    · split
      · exact Int.le_refl _
      · rename_i h
        have := Int.not_lt.1 (fun h' => h ⟨hp, h'⟩)
        omega
    · have := ih y hy hp
      split <;> omega
theorem leastL_is {l : List Ch} {p : Int} : leastL l p = 18446744073709551615 ∨ ∃ x ∈ l, x.p = p ∧ x.t = leastL l p := by
  induction l with
  | nil => exact .inl rfl
  | cons x r ih =>
    unfold leastL
    split
    · rename_i h
      exact .inr ⟨x, List.mem_cons_self, h.1, rfl⟩
    · rcases ih with h | ⟨y, hy, h⟩
      · exact .inl h
      · exact .inr ⟨y, List.mem_cons_of_mem _ hy, h⟩
theorem leastL_one {l : List Ch} {p n : Int} (hn : n ≤ 18446744073709551615) (h1 : ∀ x ∈ l, x.p = p → n ≤ x.t) (h2 : n = 18446744073709551615 ∨ ∃ x ∈ l, x.p = p ∧ x.t = n) : leastL l p = n := by
  have h3 := leastL_le (l := l) (p := p)
  rcases h2 with rfl | ⟨x, hx, hp, rfl⟩
  · rcases leastL_is (l := l) (p := p) with h | ⟨y, hy, hyp, hyt⟩
    · exact h
    · have := h1 y hy hyp
      omega
  · have h4 := leastL_lo x hx hp
    rcases leastL_is (l := l) (p := p) with h | ⟨y, hy, hyp, hyt⟩
    · omega
    · have := h1 y hy hyp
      omega
theorem leastL_none {l : List Ch} {p : Int} (h : ∀ x ∈ l, x.p ≠ p) : leastL l p = 18446744073709551615 := leastL_one (Int.le_refl _) (fun x hx hp => absurd hp (h x hx)) (.inl rfl)
theorem leastL_snoc (l : List Ch) (x : Ch) (p : Int) (ht : x.t ≤ 18446744073709551615) : leastL (l ++ [x]) p = if x.p = p ∧ x.t < leastL l p then x.t else leastL l p := by
  have h0 := leastL_le (l := l) (p := p)
  split
  · rename_i h
    refine leastL_one ht (fun y hy hp => ?_) (.inr ⟨x, by simp, h.1, rfl⟩)
    rcases List.mem_append.1 hy with hy | hy
    · have := leastL_lo y hy hp; omega
    · simp at hy; subst hy; exact Int.le_refl _
  · rename_i h
    refine leastL_one h0 (fun y hy hp => ?_) ?_
    · rcases List.mem_append.1 hy with hy | hy
      · exact leastL_lo y hy hp
      · simp at hy; subst hy; exact Int.not_lt.1 (fun h' => h ⟨hp, h'⟩)
    · rcases leastL_is (l := l) (p := p) with h | ⟨y, hy, hk⟩
      · exact .inl h
      · exact .inr ⟨y, List.mem_append_left _ hy, hk⟩
/-- Of a rising list: the first of the port. -/
theorem leastL_first {l : List Ch} (hr : l.Pairwise Lt) {i : Nat} {y : Ch} {p : Int} (hw : y.t ≤ 18446744073709551615) (hy : l[i]? = some y) (hp : y.p = p) (hlo : ∀ k z, k < i → l[k]? = some z → z.p < p) : leastL l p = y.t := by
  refine leastL_one hw (fun x hx hxp => ?_) (.inr ⟨y, List.mem_of_getElem? hy, hp, rfl⟩)
  obtain ⟨k, hk⟩ := List.mem_iff_getElem?.1 hx
  rcases Nat.lt_trichotomy k i with h1 | h1 | h1
  · have := hlo k x h1 hk; omega
  · subst h1; rw [hy] at hk; obtain rfl := Option.some.inj hk; exact Int.le_refl _
  · obtain ⟨hi', e1⟩ := List.getElem?_eq_some_iff.1 hy
    obtain ⟨hk', e2⟩ := List.getElem?_eq_some_iff.1 hk
    have := (List.pairwise_iff_getElem.1 hr) i k hi' hk' h1
    rw [e1, e2] at this
    unfold Lt at this
    omega

/-! the document's own bags: out of any changes -/
def fixB (x : Ch) : Ch := ⟨x.p, x.t, 1 + IntKind.i64.wrap ((IntKind.u64.wrap x.d).tmod 5)⟩
def bagFixL (l : List Ch) : List Ch := fixL ((l.take 12).map fixB)
theorem fixB_d (x : Ch) : 1 ≤ (fixB x).d ∧ (fixB x).d ≤ 5 := by
  unfold fixB
  simp only
  have h := tmod_pos (u64_wrap_range x.d).1 (show (0 : Int) < 5 by decide)
  rw [wr_i64, wr_id (by omega) (by omega)]
  omega
theorem fixB_wf {x : Ch} (h : x.Wf) : (fixB x).Wf := by
  have h2 := fixB_d x
  exact ⟨h.p0, h.p1, h.t0, h.t1, by omega, by omega⟩
theorem fixB_mk (p t d : Int) : fixB ⟨p, t, d⟩ = ⟨p, t, 1 + IntKind.i64.wrap ((IntKind.u64.wrap d).tmod 5)⟩ := rfl
theorem bagFix_wf {l : List Ch} (h : ∀ x ∈ l, x.Wf) : ∀ x ∈ (l.take 12).map fixB, x.Wf := by
  intro x hx
  obtain ⟨y, hy, rfl⟩ := List.mem_map.1 hx
  exact fixB_wf (h y (List.mem_of_mem_take hy))
theorem bagFix_nice {l : List Ch} (h : ∀ x ∈ l, x.Wf) : Nice (bagFixL l) := fix_nice (bagFix_wf h)
theorem tot_pos {l : List Ch} (h : ∀ x ∈ l, 0 ≤ x.d) (p t : Int) : 0 ≤ tot l p t := by
  induction l with
  | nil => exact Int.le_refl _
  | cons x r ih =>
    have h1 := ih fun y hy => h y (by simp [hy])
    have h2 := h x (by simp)
    simp only [tot]
    split <;> omega
theorem bagFix_bag {l : List Ch} (h : ∀ x ∈ l, x.Wf) : BagP (bagFixL l) := by
  have hn := bagFix_nice h
  refine ⟨hn.right, fun z hz => ?_⟩
  have h0 := (hn.right.1 z hz).2
  have e := tot_one hn.right.2 hz
  have h1 : 0 ≤ tot (bagFixL l) z.p z.t := by
    unfold bagFixL fixL sumsR
    split
    · exact Int.le_refl _
    · have hd : ∀ x ∈ (((l.take 12).map fixB).take 12).map fixC, 1 ≤ x.d ∧ x.d ≤ 5 := by
        intro x hx
        obtain ⟨y, hy, rfl⟩ := List.mem_map.1 hx
        obtain ⟨q, hq, rfl⟩ := List.mem_map.1 (List.mem_of_mem_take hy)
        have := fixB_d q
        unfold fixC
        simp only
        rw [Int.tmod_eq_emod_of_nonneg (by omega)]
        omega
      have hl : ((((l.take 12).map fixB).take 12).map fixC).length ≤ 12 := by simp; omega
      have hwf : ∀ x ∈ (((l.take 12).map fixB).take 12).map fixC, x.Wf := by
        intro x hx
        obtain ⟨y, hy, rfl⟩ := List.mem_map.1 hx
        exact fixC_wf (bagFix_wf h y (List.mem_of_mem_take hy))
      generalize (((l.take 12).map fixB).take 12).map fixC = L at hd hl hwf
      have h1 := tot_pos (fun x hx => by have := hd x hx; omega) z.p z.t (l := L)
      have h2 := tot_bound (B := 5) (fun x hx => by have := hd x hx; omega) (by decide) z.p z.t (l := L)
      rw [(sumL_is hwf).tot, wr_id (by omega) (by omega)]
      exact h1
  omega
end Go.Proofs.YtdllgeanmlmmfaaGreatDoor.Batch
namespace Go.Proofs.YtdllgeanmlmmfaaGreatDoor.Fr
open Go.RowKit Gr
set_option linter.unusedVariables false

/-- The front of port p by the stamps of B at ports below f. -/
def FrontU (B : List Batch.Ch) (M : Nat → Nat → Int) (f p : Nat) (v : Int) : Prop :=
  (0 ≤ v ∧ v ≤ 18446744073709551615) ∧ (∀ x ∈ B, 0 ≤ x.p → x.p < f → v ≤ plusN x.t (M x.p.toNat p)) ∧ (v = 18446744073709551615 ∨ ∃ x ∈ B, 0 ≤ x.p ∧ x.p < f ∧ v = plusN x.t (M x.p.toNat p))
theorem plusN_never {s : Int} (h : 0 ≤ s) : plusN 18446744073709551615 s = 18446744073709551615 := by unfold plusN; split <;> omega
theorem FrontU.start (B : List Batch.Ch) (M : Nat → Nat → Int) (p : Nat) : FrontU B M 0 p 18446744073709551615 := ⟨⟨by decide, by decide⟩, fun x _ h0 h1 => by omega, .inl rfl⟩
theorem FrontU.nil (M : Nat → Nat → Int) (f p : Nat) : FrontU [] M f p 18446744073709551615 := ⟨⟨by decide, by decide⟩, fun x h => by simp at h, .inl rfl⟩
theorem FrontU.one {B : List Batch.Ch} {M : Nat → Nat → Int} {f p : Nat} {v v' : Int} (hm : ∀ x ∈ B, 0 ≤ x.p → x.p < f → plusN x.t (M x.p.toNat p) ≤ 18446744073709551615) (h : FrontU B M f p v) (h' : FrontU B M f p v') : v = v' := by
  rcases h.2.2 with e | ⟨x, hx, h0, h1, e⟩
  · rcases h'.2.2 with e' | ⟨x', hx', h0', h1', e'⟩
    · rw [e, e']
    · have := h.2.1 x' hx' h0' h1'
      have := h'.1
      omega
  · have h2 := h'.2.1 x hx h0 h1
    rcases h'.2.2 with e' | ⟨x', hx', h0', h1', e'⟩
    · have := hm x hx h0 h1
      omega
    · have := h.2.1 x' hx' h0' h1'
      omega
theorem FrontU.port {B : List Batch.Ch} {M : Nat → Nat → Int} {f p : Nat} {v : Int} (hw : ∀ x ∈ B, 0 ≤ x.t ∧ x.t ≤ 18446744073709551615) (h0 : 0 ≤ M f p) (h1 : M f p ≤ 18446744073709551615) (h : FrontU B M f p v) :
    FrontU B M (f + 1) p (min v (plusN (Batch.leastL B f) (M f p))) := by
  have hl := Batch.leastL_le (l := B) (p := (f : Int))
  have hl0 : 0 ≤ Batch.leastL B f := by
    rcases Batch.leastL_is (l := B) (p := (f : Int)) with e | ⟨x, hx, _, e⟩
    · omega
    · have := hw x hx; omega
  have hlo := plusN_lo hl0 h0
  have hle := (plusN_le (s := M f p) hl).1
  refine ⟨⟨by have := h.1; omega, by have := h.1; omega⟩, fun x hx hp0 hp1 => ?_, ?_⟩
  · by_cases e : x.p = f
    · have h2 := Batch.leastL_lo x hx e
      have h3 := plusN_mono h2 (Int.le_refl (M f p)) (hw x hx).2
      have e2 : x.p.toNat = f := by omega
      rw [e2]
      omega
    · have := h.2.1 x hx hp0 (by omega)
      omega
  · by_cases hv : v ≤ plusN (Batch.leastL B f) (M f p)
    · rw [Int.min_eq_left hv]
      rcases h.2.2 with e | ⟨x, hx, hp0, hp1, e⟩
      · exact .inl e
      · exact .inr ⟨x, hx, hp0, by omega, e⟩
    · rw [Int.min_eq_right (by omega)]
      rcases Batch.leastL_is (l := B) (p := (f : Int)) with e | ⟨x, hx, hp, e⟩
      · rw [e, plusN_never h0]; exact .inl rfl
      · refine .inr ⟨x, hx, by omega, by omega, ?_⟩
        have e2 : x.p.toNat = f := by omega
        rw [e2, e]
theorem FrontU.elem {B : List Batch.Ch} {M : Nat → Nat → Int} {n p i : Nat} {v : Int} {x : Batch.Ch} (hx : B[i]? = some x) (h0 : 0 ≤ x.p) (h1 : x.p < n) (hb : 0 ≤ plusN x.t (M x.p.toNat p)) (h : FrontU (B.take i) M n p v) :
    FrontU (B.take (i + 1)) M n p (min v (plusN x.t (M x.p.toNat p))) := by
  rw [take_succ' hx]
  refine ⟨⟨by have := h.1; omega, by have := h.1; omega⟩, fun y hy hp0 hp1 => ?_, ?_⟩
  · rcases List.mem_append.1 hy with hy | hy
    · have := h.2.1 y hy hp0 hp1; omega
    · simp at hy; subst hy; omega
  · by_cases hv : v ≤ plusN x.t (M x.p.toNat p)
    · rw [Int.min_eq_left hv]
      rcases h.2.2 with e | ⟨y, hy, hp0, hp1, e⟩
      · exact .inl e
      · exact .inr ⟨y, List.mem_append_left _ hy, hp0, hp1, e⟩
    · rw [Int.min_eq_right (by omega)]
      exact .inr ⟨x, by simp, h0, h1, rfl⟩
theorem FrontU.skip {B : List Batch.Ch} {M : Nat → Nat → Int} {n p i : Nat} {v : Int} {x : Batch.Ch} (hx : B[i]? = some x) (hn : ¬ (0 ≤ x.p ∧ x.p < n)) (h : FrontU (B.take i) M n p v) : FrontU (B.take (i + 1)) M n p v := by
  rw [take_succ' hx]
  refine ⟨h.1, fun y hy hp0 hp1 => ?_, ?_⟩
  · rcases List.mem_append.1 hy with hy | hy
    · exact h.2.1 y hy hp0 hp1
    · simp at hy; subst hy; exact absurd ⟨hp0, hp1⟩ hn
  · rcases h.2.2 with e | ⟨y, hy, hp0, hp1, e⟩
    · exact .inl e
    · exact .inr ⟨y, List.mem_append_left _ hy, hp0, hp1, e⟩
end Go.Proofs.YtdllgeanmlmmfaaGreatDoor.Fr
