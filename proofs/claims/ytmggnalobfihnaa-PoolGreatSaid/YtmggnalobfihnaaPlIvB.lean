/-
  PACKAGE pool: acts of many, by whatever turns: the state, and how a Step of one changes it (plain).
-/
import Derived.Test.YtmggnalobfihnaaJoined15
import Derived.Test.YtmggnalobfihnaaPlWp
namespace Go.Proofs.Ytmggnalobfihnaa.PlB
open Pl
open Go.RowKit Rw Pk Go.Maps Mm
open Batch (Ch tot sumsE sumsR)
set_option linter.unusedVariables false
/-- An act: where it lies, what it has; its shards, what it puts, how many accesses it has made. -/
structure Ax where
  a : Nat
  A : Pa
  B : Nat → List Ch
  T : List Ch
  Q : List Nat
  b : List Ch
  j : Nat
def castN (Q : List Nat) : List Int := Q.map fun (q : Nat) => (q : Int)
def fullD (dr : Bool) (Q : List Nat) : List (Int × Int) := if dr then drD (castN Q) else putD (castN Q)
def eN (dr : Bool) : Nat := if dr then 2 else 1
def Ax.P (X : Ax) : List Int := castN X.Q
def Ax.D (X : Ax) : List (Int × Int) := (fullD X.A.dr X.Q).drop X.j
def Ax.m (X : Ax) : Nat := X.Q.length
def Ax.e (X : Ax) : Nat := eN X.A.dr
def updF (f : Nat → Option Ax) (k : Nat) (x : Option Ax) : Nat → Option Ax := fun i => if i = k then x else f i
theorem updF_same (f : Nat → Option Ax) (k : Nat) (x : Option Ax) : updF f k x k = x := if_pos rfl
theorem updF_other {f : Nat → Option Ax} {k i : Nat} {x : Option Ax} (h : i ≠ k) : updF f k x i = f i := if_neg h
theorem updF_inv {f : Nat → Option Ax} {k i : Nat} {X Y : Ax} (h : updF f k (some X) i = some Y) : i = k ∧ Y = X ∨ i ≠ k ∧ f i = some Y := by
  by_cases e : i = k
  · subst e
    rw [updF_same] at h
    exact .inl ⟨rfl, by simpa using h.symm⟩
  · rw [updF_other e] at h
    exact .inr ⟨e, h⟩
/-! ### what is to be done, by its number -/
section
variable {Q : List Nat} {x q j : Nat}
theorem drop_of {α : Type} {l : List α} {j : Nat} {x : α} (h : l[j]? = some x) : l.drop j = x :: l.drop (j + 1) := by
  obtain ⟨hj, rfl⟩ := List.getElem?_eq_some_iff.1 h
  exact List.drop_eq_getElem_cons hj
theorem map_at (c : Int) (h : Q[x]? = some q) : ((castN Q).map fun y => (c, y))[x]? = some (c, (q : Int)) := by simp [castN, h]
theorem map_len (c : Int) : ((castN Q).map fun y => (c, y)).length = Q.length := by simp [castN]
theorem app_r {α : Type} {l r : List α} {n x : Nat} (h : l.length = n) : (l ++ r)[n + x]? = r[x]? := by subst h; rw [List.getElem?_append_right (Nat.le_add_right _ _)]; congr 1; omega
theorem app_l {α : Type} {l r : List α} {x : Nat} {y : α} (h : l[x]? = some y) : (l ++ r)[x]? = some y := by rw [List.getElem?_append_left (List.getElem?_eq_some_iff.1 h).1]; exact h
theorem full_4 (dr : Bool) (h : Q[x]? = some q) : (fullD dr Q)[x]? = some (4, (q : Int)) := by
  unfold fullD drD putD
  cases dr
  · exact app_l (app_l (app_l (app_l (map_at 4 h))))
  · exact app_l (app_l (app_l (app_l (map_at 4 h))))
theorem full_2 (dr : Bool) (h : Q[x]? = some q) : (fullD dr Q)[Q.length + x]? = some (2, (q : Int)) := by
  have e := (app_r (l := (castN Q).map fun y => ((4 : Int), y)) (r := (castN Q).map fun y => ((2 : Int), y)) (map_len 4)).trans (map_at 2 h)
  unfold fullD drD putD
  cases dr
  · exact app_l (app_l (app_l e))
  · exact app_l (app_l (app_l e))
theorem full_3 (dr : Bool) (h : Q[x]? = some q) : (fullD dr Q)[2 * Q.length + x]? = some (3, (q : Int)) := by
  have e := (app_r (l := ((castN Q).map fun y => ((4 : Int), y)) ++ ((castN Q).map fun y => ((2 : Int), y))) (r := (castN Q).map fun y => ((3 : Int), y)) (n := 2 * Q.length) (by rw [List.length_append, map_len, map_len]; omega)).trans (map_at 3 h)
  unfold fullD drD putD
  cases dr
  · exact app_l (app_l e)
  · exact app_l (app_l e)
theorem len_3 : (((castN Q).map fun y => ((4 : Int), y)) ++ ((castN Q).map fun y => ((2 : Int), y)) ++ ((castN Q).map fun y => ((3 : Int), y))).length = 3 * Q.length := by rw [List.length_append, List.length_append, map_len, map_len, map_len]; omega
theorem full_0 (dr : Bool) : (fullD dr Q)[3 * Q.length]? = some (0, 0) := by
  unfold fullD drD putD
  cases dr
  · exact app_l ((app_r (x := 0) len_3).trans rfl)
  · exact app_l ((app_r (x := 0) len_3).trans rfl)
theorem full_1 : (fullD true Q)[3 * Q.length + 1]? = some (1, 0) := app_l ((app_r (x := 1) len_3).trans rfl)
theorem full_5 (dr : Bool) (h : Q[x]? = some q) : (fullD dr Q)[3 * Q.length + eN dr + x]? = some (5, (q : Int)) := by
  unfold fullD drD putD eN
  cases dr
  · exact (app_r (n := 3 * Q.length + 1) (by rw [List.length_append, len_3]; rfl)).trans (map_at 5 h)
  · exact (app_r (n := 3 * Q.length + 2) (by rw [List.length_append, len_3]; rfl)).trans (map_at 5 h)
theorem full_len (dr : Bool) : (fullD dr Q).length = 4 * Q.length + eN dr := by
  have h3 := len_3 (Q := Q)
  have h5 := map_len (Q := Q) 5
  cases dr
  · show (putD (castN Q)).length = 4 * Q.length + 1
    unfold putD
    rw [List.length_append, List.length_append, h3, h5]; simp; omega
  · show (drD (castN Q)).length = 4 * Q.length + 2
    unfold drD
    rw [List.length_append, List.length_append, h3, h5]; simp; omega
theorem at_lt {Q : List Nat} {x : Nat} (h : x < Q.length) : ∃ q, Q[x]? = some q := ⟨_, List.getElem?_eq_getElem h⟩
theorem te_before (dr : Bool) (h : j < 3 * Q.length + eN dr) : teP true ((fullD dr Q).drop j) = false := by
  have he : ∃ y, (fullD dr Q)[j]? = some y ∧ y.1 ≠ 5 := by
    by_cases h1 : j < Q.length
    · obtain ⟨q, hq⟩ := at_lt h1
      exact ⟨_, full_4 dr hq, by show (4 : Int) ≠ 5; decide⟩
    by_cases h2 : j < 2 * Q.length
    · obtain ⟨q, hq⟩ := at_lt (Q := Q) (x := j - Q.length) (by omega)
      have := full_2 dr hq
      rw [show Q.length + (j - Q.length) = j by omega] at this
      exact ⟨_, this, by show (2 : Int) ≠ 5; decide⟩
    by_cases h3 : j < 3 * Q.length
    · obtain ⟨q, hq⟩ := at_lt (Q := Q) (x := j - 2 * Q.length) (by omega)
      have := full_3 dr hq
      rw [show 2 * Q.length + (j - 2 * Q.length) = j by omega] at this
      exact ⟨_, this, by show (3 : Int) ≠ 5; decide⟩
    by_cases h4 : j = 3 * Q.length
    · subst h4
      exact ⟨_, full_0 dr, by decide⟩
    · cases dr
      · simp [eN] at h; omega
      · simp [eN] at h
        obtain rfl : j = 3 * Q.length + 1 := by omega
        exact ⟨_, full_1, by decide⟩
  obtain ⟨y, h1, h2⟩ := he
  rw [drop_of h1]
  simp [teP, h2]
theorem te_at (dr : Bool) (h : 3 * Q.length + eN dr ≤ j) : teP true ((fullD dr Q).drop j) = true := by
  by_cases h1 : j < 4 * Q.length + eN dr
  · obtain ⟨q, hq⟩ := at_lt (Q := Q) (x := j - (3 * Q.length + eN dr)) (by omega)
    have := full_5 dr hq
    rw [show 3 * Q.length + eN dr + (j - (3 * Q.length + eN dr)) = j by omega] at this
    rw [drop_of this]
    simp [teP]
  · rw [List.drop_eq_nil_of_le (by rw [full_len]; omega)]
    rfl
theorem drop_end (dr : Bool) : ((fullD dr Q).drop j = []) ↔ 4 * Q.length + eN dr ≤ j := by rw [List.drop_eq_nil_iff, full_len]
theorem nodup_at {Q : List Nat} (h : Q.Nodup) {x y q : Nat} (hx : Q[x]? = some q) (hy : Q[y]? = some q) : x = y := by
  have hxl := (List.getElem?_eq_some_iff.1 hx).1
  exact (List.getElem?_inj hxl h).1 (hx.trans hy.symm)
end
/-! ### the state -/
structure ActOk (n k : Nat) (C : List Ch) (rnd : Int) (X : Ax) : Prop where
  who : X.A.who = (k : Int)
  ok : X.A.ok = true
  nd : X.Q.Nodup
  qn : ∀ q ∈ X.Q, q < n
  je : X.j ≤ 4 * X.m + X.e
  qd : X.A.dr = true → X.Q = List.range n
  qp : X.A.dr = false → ∀ q, q < n → q ∉ X.Q → shB n X.b q = []
  cb : Cg 576460752303423488 12 X.b
  m0 : X.j < 3 * X.m + X.e → X.A.mk' = 0
  m1 : 3 * X.m + X.e ≤ X.j → 0 < X.A.mk'
  bp : X.A.dr = false → X.j < 3 * X.m + 1 → ∀ x q : Nat, X.Q[x]? = some q → X.B q = if x + X.m < X.j then sumsR (shB n C q ++ shB n X.b q) else shB n X.b q
  bd : X.A.dr = true → ∀ q : Nat, X.B q = []
  td : X.A.dr = true → X.j < 3 * X.m + 2 → X.T = belS n C (min (X.j - X.m) n)
  rl : X.A.dr = true → X.j = 3 * X.m + 1 → X.A.rd = rnd
def holds (X : Ax) (q : Nat) : Prop := ∃ x : Nat, X.Q[x]? = some q ∧ x < X.j ∧ X.j ≤ x + 3 * X.m + X.e
def dset (X : Ax) (q : Nat) : Prop := ∃ x : Nat, X.Q[x]? = some q ∧ x + 2 * X.m < X.j ∧ X.j < 3 * X.m + X.e
theorem dset.holds {X : Ax} {q : Nat} (h : dset X q) : holds X q := by
  obtain ⟨x, h1, h2, h3⟩ := h
  exact ⟨x, h1, by omega, by omega⟩
structure Iv (n kk : Nat) (f : Nat → Option Ax) (ext : Nat → Option Nat) (C : List Ch) (rnd : Int) (Bx : Nat → List Ch) (hl : Nat → Option Int) (M : Mm.St) : Prop where
  wp : Wp n kk rnd Bx hl M
  ok : ∀ k X, f k = some X → ActOk n k C rnd X
  h1 : ∀ q : Nat, q < n → ∀ z, hl q = some z → (∃ k : Nat, z = (k : Int) ∧ ext q = some k) ∨ ∃ (k : Nat) (X : Ax), z = (k : Int) ∧ f k = some X ∧ holds X q
  h2 : ∀ (k : Nat) (X : Ax) (q : Nat), f k = some X → holds X q → hl q = some (k : Int)
  h3 : ∀ q k : Nat, q < n → ext q = some k → hl q = some (k : Int)
  b1 : ∀ q : Nat, q < n → (∀ k X, f k = some X → ¬ dset X q) → Bx q = shB n C q
  b2 : ∀ (k : Nat) (X : Ax) (q : Nat), f k = some X → dset X q → Bx q = if X.A.dr then [] else sumsR (shB n C q ++ shB n X.b q)
section
variable {n kk k k' : Nat} {f : Nat → Option Ax} {ext : Nat → Option Nat} {C : List Ch} {rnd : Int} {Bx : Nat → List Ch} {hl : Nat → Option Int} {M M' : Mm.St} {X X' Y : Ax} {q x : Nat} {KC : Int} {NC : Nat}
theorem Iv.one (h : Iv n kk f ext C rnd Bx hl M) (h1 : f k = some X) (h2 : f k' = some Y) (hx : holds X q) (hy : holds Y q) : k = k' := by
  have e1 := h.h2 k X q h1 hx
  have e2 := h.h2 k' Y q h2 hy
  rw [e1] at e2
  simp at e2
  omega
theorem Iv.boxC (h : Iv n kk f ext C rnd Bx hl M) (hf : f k = some X) (hh : holds X q) (hn : ¬ dset X q) (hq : q < n) : Bx q = shB n C q := by
  refine h.b1 q hq fun k' Y hk' hd => ?_
  have e := h.one hf hk' hh hd.holds
  subst e
  rw [hf] at hk'
  obtain rfl : X = Y := by simpa using hk'
  exact hn hd
theorem ActOk.qlt (h : ActOk n k C rnd X) (hx : X.Q[x]? = some q) : q < n := h.qn q (List.mem_of_getElem? hx)
theorem ActOk.xlt (hx : X.Q[x]? = some q) : x < X.m := (List.getElem?_eq_some_iff.1 hx).1
/-- A failed Take. -/
theorem Iv.no (h : Iv n kk f ext C rnd Bx hl M) (hw : Wp n (kk + 1) rnd Bx hl M') : Iv n (kk + 1) f ext C rnd Bx hl M' := ⟨hw, h.ok, h.h1, h.h2, h.h3, h.b1, h.b2⟩
/-- Of two acts that are the same but for how far they are. -/
structure Same (X X' : Ax) : Prop where
  q : X'.Q = X.Q
  b : X'.b = X.b
  who : X'.A.who = X.A.who
  dr : X'.A.dr = X.A.dr
  ok : X'.A.ok = X.A.ok
  j : X'.j = X.j + 1
theorem Same.m (s : Same X X') : X'.m = X.m := by unfold Ax.m; rw [s.q]
theorem Same.e (s : Same X X') : X'.e = X.e := by unfold Ax.e; rw [s.dr]
/-- Nobody else's things change. -/
theorem Iv.others (h : Iv n kk f ext C rnd Bx hl M) (hf : f k = some X) {C' : List Ch} {rnd' : Int} (hY : ∀ k' Y, k' ≠ k → f k' = some Y → ActOk n k' C' rnd' Y) (hX : ActOk n k C' rnd' X') : ∀ k' Y, updF f k (some X') k' = some Y → ActOk n k' C' rnd' Y := by
  intro k' Y hk'
  rcases updF_inv hk' with ⟨rfl, rfl⟩ | ⟨hne, hk'⟩
  · exact hX
  · exact hY k' Y hne hk'
/-! #### Take -/
theorem Iv.take (h : Iv n kk f ext C rnd Bx hl M) (hf : f k = some X) (s : Same X X') (hx : X.Q[X.j]? = some q) (hfree : hl q = none) (hB : X'.B = X.B) (hT : X'.T = X.T) (hrd : X'.A.rd = X.A.rd) (hmk : X'.A.mk' = X.A.mk') (hw : Wp n (kk + 1) rnd Bx (updH hl q (some (k : Int))) M') :
    Iv n (kk + 1) (updF f k (some X')) ext C rnd Bx (updH hl q (some (k : Int))) M' := by
  have o := h.ok k X hf
  have hxm := ActOk.xlt hx
  have sm := s.m
  have se := s.e
  have sj := s.j
  have hhold : ∀ r, holds X' r ↔ holds X r ∨ r = q := by
    intro r
    constructor
    · rintro ⟨x, e1, e2, e3⟩
      rw [s.q] at e1
      by_cases e : x = X.j
      · subst e
        rw [hx] at e1
        exact .inr (by simpa using e1.symm)
      · exact .inl ⟨x, e1, by omega, by omega⟩
    · rintro (⟨x, e1, e2, e3⟩ | rfl)
      · exact ⟨x, by rw [s.q]; exact e1, by omega, by omega⟩
      · exact ⟨X.j, by rw [s.q]; exact hx, by omega, by omega⟩
  have hdset : ∀ r, ¬ dset X' r := by
    rintro r ⟨x, e1, e2, e3⟩
    omega
  have hdsetX : ∀ r, ¬ dset X r := by
    rintro r ⟨x, e1, e2, e3⟩
    omega
  refine ⟨hw, h.others hf (fun k' Y _ hk' => h.ok k' Y hk') ⟨s.who.trans o.who, s.ok.trans o.ok, by rw [s.q]; exact o.nd, by rw [s.q]; exact o.qn, by omega, by rw [s.dr, s.q]; exact o.qd, by rw [s.dr, s.q, s.b]; exact o.qp, by rw [s.b]; exact o.cb, fun _ => by rw [hmk]; exact o.m0 (by omega), fun hc => by omega, fun hd hj x r e1 => ?_, by rw [s.dr, hB]; exact o.bd, fun hd hj => ?_, fun hd hj => by omega⟩, fun r hr z hz => ?_, fun k' Y r hk' hh => ?_, fun r k' hr he => ?_, fun r hr hno => ?_, fun k' Y r hk' hd => ?_⟩
  · rw [s.q] at e1
    rw [hB, s.b, sm, sj, o.bp (s.dr ▸ hd) (by omega) x r e1, if_neg (by omega), if_neg (by omega)]
  · rw [hT, sm, sj, o.td (s.dr ▸ hd) (by omega), show X.j + 1 - X.m = 0 by omega, show X.j - X.m = 0 by omega]
  · by_cases e : r = q
    · subst e
      rw [updH_same] at hz
      exact .inr ⟨k, X', by simpa using hz.symm, updF_same _ _ _, (hhold r).2 (.inr rfl)⟩
    · rw [updH_other e] at hz
      rcases h.h1 r hr z hz with hh | ⟨k', Y, e1, e2, e3⟩
      · exact .inl hh
      · by_cases ek : k' = k
        · subst ek
          rw [hf] at e2
          obtain rfl : X = Y := by simpa using e2
          exact .inr ⟨k', X', e1, updF_same _ _ _, (hhold r).2 (.inl e3)⟩
        · exact .inr ⟨k', Y, e1, by rw [updF_other ek]; exact e2, e3⟩
  · rcases updF_inv hk' with ⟨rfl, rfl⟩ | ⟨hne, hk'⟩
    · rcases (hhold r).1 hh with hh | rfl
      · have e1 := h.h2 k' X r hf hh
        by_cases e : r = q
        · subst e; rw [updH_same]
        · rw [updH_other e]; exact e1
      · rw [updH_same]
    · have e1 := h.h2 k' Y r hk' hh
      by_cases e : r = q
      · subst e; rw [hfree] at e1; cases e1
      · rw [updH_other e]; exact e1
  · have e1 := h.h3 r k' hr he
    by_cases e : r = q
    · subst e; rw [hfree] at e1; cases e1
    · rw [updH_other e]; exact e1
  · refine h.b1 r hr fun k' Y hk' hd => ?_
    by_cases ek : k' = k
    · subst ek
      rw [hf] at hk'
      obtain rfl : X = Y := by simpa using hk'
      exact hdsetX r hd
    · exact hno k' Y (by rw [updF_other ek]; exact hk') hd
  · rcases updF_inv hk' with ⟨rfl, rfl⟩ | ⟨hne, hk'⟩
    · exact absurd hd (hdset r)
    · exact h.b2 k' Y r hk' hd
/-- What stays, where nobody takes or frees, no box changes, nothing takes effect. -/
theorem Iv.stay (h : Iv n kk f ext C rnd Bx hl M) (hf : f k = some X) (s : Same X X') (hX : ActOk n k C rnd X') (hj : X.m ≤ X.j) (hj2 : X.j < 3 * X.m + X.e) (hd : ∀ r, dset X' r ↔ dset X r) (hw : Wp n (kk + 1) rnd Bx hl M') :
    Iv n (kk + 1) (updF f k (some X')) ext C rnd Bx hl M' := by
  have sm := s.m
  have se := s.e
  have sj := s.j
  have hhold : ∀ r, holds X' r ↔ holds X r := by
    intro r
    constructor
    · rintro ⟨x, e1, e2, e3⟩
      rw [s.q] at e1
      have := ActOk.xlt e1
      exact ⟨x, e1, by omega, by omega⟩
    · rintro ⟨x, e1, e2, e3⟩
      have := ActOk.xlt e1
      exact ⟨x, by rw [s.q]; exact e1, by omega, by omega⟩
  refine ⟨hw, h.others hf (fun k' Y _ hk' => h.ok k' Y hk') hX, fun r hr z hz => ?_, fun k' Y r hk' hh => ?_, h.h3, fun r hr hno => ?_, fun k' Y r hk' hdd => ?_⟩
  · rcases h.h1 r hr z hz with hh | ⟨k', Y, e1, e2, e3⟩
    · exact .inl hh
    · by_cases ek : k' = k
      · subst ek
        rw [hf] at e2
        obtain rfl : X = Y := by simpa using e2
        exact .inr ⟨k', X', e1, updF_same _ _ _, (hhold r).2 e3⟩
      · exact .inr ⟨k', Y, e1, by rw [updF_other ek]; exact e2, e3⟩
  · rcases updF_inv hk' with ⟨rfl, rfl⟩ | ⟨hne, hk'⟩
    · exact h.h2 k' X r hf ((hhold r).1 hh)
    · exact h.h2 k' Y r hk' hh
  · refine h.b1 r hr fun k' Y hk' hdd => ?_
    by_cases ek : k' = k
    · subst ek
      rw [hf] at hk'
      obtain rfl : X = Y := by simpa using hk'
      exact hno k' X' (updF_same _ _ _) ((hd r).2 hdd)
    · exact hno k' Y (by rw [updF_other ek]; exact hk') hdd
  · rcases updF_inv hk' with ⟨rfl, rfl⟩ | ⟨hne, hk'⟩
    · rw [s.dr, s.b]
      exact h.b2 k' X r hf ((hd r).1 hdd)
    · exact h.b2 k' Y r hk' hdd
/-! #### Get -/
theorem Iv.getp (h : Iv n kk f ext C rnd Bx hl M) (hf : f k = some X) (s : Same X X') (hdr : X.A.dr = false) (hj : X.j = X.m + x) (hx : X.Q[x]? = some q) (hB : X'.B = boxB X.B q (sumsR (Bx q ++ X.B q))) (hrd : X'.A.rd = X.A.rd) (hmk : X'.A.mk' = X.A.mk') (hw : Wp n (kk + 1) rnd Bx hl M') :
    Iv n (kk + 1) (updF f k (some X')) ext C rnd Bx hl M' := by
  have o := h.ok k X hf
  have hxm := ActOk.xlt hx
  have sm := s.m
  have se := s.e
  have sj := s.j
  have he1 : X.e = 1 := by unfold Ax.e eN; rw [hdr]; rfl
  have hbx : Bx q = shB n C q := h.boxC hf ⟨x, hx, by omega, by omega⟩ (by rintro ⟨y, e1, e2, e3⟩; omega) (o.qlt hx)
  have hbq : X.B q = shB n X.b q := by rw [o.bp hdr (by omega) x q hx, if_neg (by omega)]
  refine h.stay hf s ⟨s.who.trans o.who, s.ok.trans o.ok, by rw [s.q]; exact o.nd, by rw [s.q]; exact o.qn, by omega, by rw [s.dr, s.q]; exact o.qd, by rw [s.dr, s.q, s.b]; exact o.qp, by rw [s.b]; exact o.cb, fun _ => by rw [hmk]; exact o.m0 (by omega), fun hc => by omega, fun hd hj' y r e1 => ?_, (fun hd => by rw [s.dr, hdr] at hd; cases hd), (fun hd => by rw [s.dr, hdr] at hd; cases hd), (fun hd => by rw [s.dr, hdr] at hd; cases hd)⟩ (by omega) (by omega) (fun r => ?_) hw
  · rw [s.q] at e1
    rw [hB, s.b, sm, sj]
    unfold boxB
    by_cases e : r = q
    · subst e
      obtain rfl := nodup_at o.nd hx e1
      rw [if_pos rfl, if_pos (by omega), hbx, hbq]
    · have hne : y ≠ x := fun e' => e (by subst e'; rw [hx] at e1; simpa using e1.symm)
      rw [if_neg e, o.bp hdr (by omega) y r e1]
      by_cases e2 : y + X.m < X.j
      · rw [if_pos e2, if_pos (by omega)]
      · rw [if_neg e2, if_neg (by omega)]
  · constructor
    · rintro ⟨y, e1, e2, e3⟩; omega
    · rintro ⟨y, e1, e2, e3⟩; omega
theorem Iv.getd (h : Iv n kk f ext C rnd Bx hl M) (hf : f k = some X) (s : Same X X') (hdr : X.A.dr = true) (hj : X.j = X.m + x) (hx : X.Q[x]? = some q) (hc : Cg KC NC C) (h0 : 0 ≤ KC) (hK : KC ≤ 576460752303423488) (hB : X'.B = X.B) (hT : X'.T = sumsR (X.T ++ Bx q)) (hmk : X'.A.mk' = X.A.mk') (hw : Wp n (kk + 1) rnd Bx hl M') :
    Iv n (kk + 1) (updF f k (some X')) ext C rnd Bx hl M' := by
  have o := h.ok k X hf
  have hxm := ActOk.xlt hx
  have sm := s.m
  have se := s.e
  have sj := s.j
  have he2 : X.e = 2 := by unfold Ax.e eN; rw [hdr]; rfl
  have hqr := o.qd hdr
  have hmn : X.m = n := by unfold Ax.m; rw [hqr]; simp
  have hqx : q = x := by
    rw [hqr, List.getElem?_range (by omega)] at hx
    simpa using hx.symm
  subst hqx
  have hbx : Bx q = shB n C q := h.boxC hf ⟨q, hx, by omega, by omega⟩ (by rintro ⟨y, e1, e2, e3⟩; omega) (o.qlt hx)
  refine h.stay hf s ⟨s.who.trans o.who, s.ok.trans o.ok, by rw [s.q]; exact o.nd, by rw [s.q]; exact o.qn, by omega, by rw [s.dr, s.q]; exact o.qd, by rw [s.dr, s.q, s.b]; exact o.qp, by rw [s.b]; exact o.cb, fun _ => by rw [hmk]; exact o.m0 (by omega), fun hc => by omega, (fun hd => by rw [s.dr, hdr] at hd; cases hd), by rw [s.dr, hB]; exact o.bd, fun hd hj' => ?_, fun hd hj' => by omega⟩ (by omega) (by omega) (fun r => ?_) hw
  · rw [hT, o.td hdr (by omega), hbx, sm, sj, show min (X.j - X.m) n = q by omega, show min (X.j + 1 - X.m) n = q + 1 by omega]
    exact belS_succ hc h0 hK q
  · constructor
    · rintro ⟨y, e1, e2, e3⟩; omega
    · rintro ⟨y, e1, e2, e3⟩; omega
/-! #### Set -/
theorem Iv.set (h : Iv n kk f ext C rnd Bx hl M) (hf : f k = some X) (s : Same X X') (hj : X.j = 2 * X.m + x) (hx : X.Q[x]? = some q) (hB : X'.B = X.B) (hT : X'.T = X.T) (hmk : X'.A.mk' = X.A.mk') (hw : Wp n (kk + 1) rnd (boxB Bx q (X.B q)) hl M') :
    Iv n (kk + 1) (updF f k (some X')) ext C rnd (boxB Bx q (X.B q)) hl M' := by
  have o := h.ok k X hf
  have hxm := ActOk.xlt hx
  have sm := s.m
  have se := s.e
  have sj := s.j
  have hee : 1 ≤ X.e ∧ X.e ≤ 2 := by unfold Ax.e eN; split <;> omega
  have hbq : X.B q = if X.A.dr then [] else sumsR (shB n C q ++ shB n X.b q) := by
    cases e : X.A.dr
    · simp only [Bool.false_eq_true, if_false]
      rw [o.bp e (by omega) x q hx, if_pos (by omega)]
    · simp only [if_true]
      exact o.bd e q
  have hhold : ∀ r, holds X' r ↔ holds X r := by
    intro r
    constructor
    · rintro ⟨y, e1, e2, e3⟩
      rw [s.q] at e1
      have := ActOk.xlt e1
      exact ⟨y, e1, by omega, by omega⟩
    · rintro ⟨y, e1, e2, e3⟩
      have := ActOk.xlt e1
      exact ⟨y, by rw [s.q]; exact e1, by omega, by omega⟩
  have hdset : ∀ r, dset X' r ↔ dset X r ∨ r = q := by
    intro r
    constructor
    · rintro ⟨y, e1, e2, e3⟩
      rw [s.q] at e1
      by_cases e : y = x
      · subst e
        rw [hx] at e1
        exact .inr (by simpa using e1.symm)
      · exact .inl ⟨y, e1, by omega, by omega⟩
    · rintro (⟨y, e1, e2, e3⟩ | rfl)
      · exact ⟨y, by rw [s.q]; exact e1, by omega, by omega⟩
      · exact ⟨x, by rw [s.q]; exact hx, by omega, by omega⟩
  have hown : holds X q := ⟨x, hx, by omega, by omega⟩
  refine ⟨hw, h.others hf (fun k' Y _ hk' => h.ok k' Y hk') ⟨s.who.trans o.who, s.ok.trans o.ok, by rw [s.q]; exact o.nd, by rw [s.q]; exact o.qn, by omega, by rw [s.dr, s.q]; exact o.qd, by rw [s.dr, s.q, s.b]; exact o.qp, by rw [s.b]; exact o.cb, fun _ => by rw [hmk]; exact o.m0 (by omega), fun hc => by omega, fun hd hj' y r e1 => ?_, by rw [s.dr, hB]; exact o.bd, fun hd hj' => ?_, fun hd hj' => by omega⟩, fun r hr z hz => ?_, fun k' Y r hk' hh => ?_, h.h3, fun r hr hno => ?_, fun k' Y r hk' hdd => ?_⟩
  · rw [s.q] at e1
    have := ActOk.xlt e1
    rw [hB, s.b, sm, sj, o.bp (s.dr ▸ hd) (by omega) y r e1, if_pos (by omega), if_pos (by omega)]
  · have hqr := o.qd (s.dr ▸ hd)
    have hmn : X.m = n := by unfold Ax.m; rw [hqr]; simp
    rw [hT, sm, sj, o.td (s.dr ▸ hd) (by omega), show min (X.j - X.m) n = n by omega, show min (X.j + 1 - X.m) n = n by omega]
  · rcases h.h1 r hr z hz with hh | ⟨k', Y, e1, e2, e3⟩
    · exact .inl hh
    · by_cases ek : k' = k
      · subst ek
        rw [hf] at e2
        obtain rfl : X = Y := by simpa using e2
        exact .inr ⟨k', X', e1, updF_same _ _ _, (hhold r).2 e3⟩
      · exact .inr ⟨k', Y, e1, by rw [updF_other ek]; exact e2, e3⟩
  · rcases updF_inv hk' with ⟨rfl, rfl⟩ | ⟨hne, hk'⟩
    · exact h.h2 k' X r hf ((hhold r).1 hh)
    · exact h.h2 k' Y r hk' hh
  · have hrq : r ≠ q := fun e => hno k X' (updF_same _ _ _) ((hdset r).2 (.inr e))
    unfold boxB
    rw [if_neg hrq]
    refine h.b1 r hr fun k' Y hk' hdd => ?_
    by_cases ek : k' = k
    · subst ek
      rw [hf] at hk'
      obtain rfl : X = Y := by simpa using hk'
      exact hno k' X' (updF_same _ _ _) ((hdset r).2 (.inl hdd))
    · exact hno k' Y (by rw [updF_other ek]; exact hk') hdd
  · rcases updF_inv hk' with ⟨rfl, rfl⟩ | ⟨hne, hk'⟩
    · unfold boxB
      by_cases e : r = q
      · subst e
        rw [if_pos rfl, s.dr, s.b]
        exact hbq
      · rw [if_neg e, s.dr, s.b]
        exact h.b2 k' X r hf (((hdset r).1 hdd).resolve_right e)
    · have e : r ≠ q := fun e => hne (h.one hk' hf (e ▸ hdd.holds) hown)
      unfold boxB
      rw [if_neg e]
      exact h.b2 k' Y r hk' hdd
/-! #### Free -/
theorem Iv.free (h : Iv n kk f ext C rnd Bx hl M) (hf : f k = some X) (s : Same X X') (hj : X.j = 3 * X.m + X.e + x) (hx : X.Q[x]? = some q) (hB : X'.B = X.B) (hmk : X'.A.mk' = X.A.mk') (hw : Wp n (kk + 1) rnd Bx (updH hl q none) M') (hext : ext q = none) :
    Iv n (kk + 1) (updF f k (some X')) ext C rnd Bx (updH hl q none) M' := by
  have o := h.ok k X hf
  have hxm := ActOk.xlt hx
  have sm := s.m
  have se := s.e
  have sj := s.j
  have hee : 1 ≤ X.e ∧ X.e ≤ 2 := by unfold Ax.e eN; split <;> omega
  have hown : holds X q := ⟨x, hx, by omega, by omega⟩
  have hhold : ∀ r, holds X' r ↔ holds X r ∧ r ≠ q := by
    intro r
    constructor
    · rintro ⟨y, e1, e2, e3⟩
      rw [s.q] at e1
      refine ⟨⟨y, e1, by have := ActOk.xlt e1; omega, by omega⟩, fun e => ?_⟩
      subst e
      have := nodup_at o.nd hx e1
      omega
    · rintro ⟨⟨y, e1, e2, e3⟩, e4⟩
      have hne : y ≠ x := fun e => e4 (by subst e; rw [hx] at e1; simpa using e1.symm)
      exact ⟨y, by rw [s.q]; exact e1, by omega, by omega⟩
  have hdset : ∀ r, ¬ dset X' r := by rintro r ⟨y, e1, e2, e3⟩; omega
  have hdsetX : ∀ r, ¬ dset X r := by rintro r ⟨y, e1, e2, e3⟩; omega
  refine ⟨hw, h.others hf (fun k' Y _ hk' => h.ok k' Y hk') ⟨s.who.trans o.who, s.ok.trans o.ok, by rw [s.q]; exact o.nd, by rw [s.q]; exact o.qn, by omega, by rw [s.dr, s.q]; exact o.qd, by rw [s.dr, s.q, s.b]; exact o.qp, by rw [s.b]; exact o.cb, fun hc => by omega, fun _ => by rw [hmk]; exact o.m1 (by omega), fun hd hj' => by omega, by rw [s.dr, hB]; exact o.bd, fun hd hj' => by omega, fun hd hj' => by omega⟩, fun r hr z hz => ?_, fun k' Y r hk' hh => ?_, fun r k' hr he => ?_, fun r hr hno => ?_, fun k' Y r hk' hd => ?_⟩
  · by_cases e : r = q
    · subst e; rw [updH_same] at hz; cases hz
    · rw [updH_other e] at hz
      rcases h.h1 r hr z hz with hh | ⟨k', Y, e1, e2, e3⟩
      · exact .inl hh
      · by_cases ek : k' = k
        · subst ek
          rw [hf] at e2
          obtain rfl : X = Y := by simpa using e2
          exact .inr ⟨k', X', e1, updF_same _ _ _, (hhold r).2 ⟨e3, e⟩⟩
        · exact .inr ⟨k', Y, e1, by rw [updF_other ek]; exact e2, e3⟩
  · rcases updF_inv hk' with ⟨rfl, rfl⟩ | ⟨hne, hk'⟩
    · obtain ⟨e1, e2⟩ := (hhold r).1 hh
      rw [updH_other e2]
      exact h.h2 k' X r hf e1
    · have e : r ≠ q := fun e => hne (h.one hk' hf (e ▸ hh) hown)
      rw [updH_other e]
      exact h.h2 k' Y r hk' hh
  · have e : r ≠ q := fun e => by subst e; rw [hext] at he; cases he
    rw [updH_other e]
    exact h.h3 r k' hr he
  · refine h.b1 r hr fun k' Y hk' hd => ?_
    by_cases ek : k' = k
    · subst ek
      rw [hf] at hk'
      obtain rfl : X = Y := by simpa using hk'
      exact hdsetX r hd
    · exact hno k' Y (by rw [updF_other ek]; exact hk') hd
  · rcases updF_inv hk' with ⟨rfl, rfl⟩ | ⟨hne, hk'⟩
    · exact absurd hd (hdset r)
    · exact h.b2 k' Y r hk' hd
/-! #### the word, where nothing takes effect (a Drain's Load) -/
theorem Iv.loadd (h : Iv n kk f ext C rnd Bx hl M) (hf : f k = some X) (s : Same X X') (hdr : X.A.dr = true) (hj : X.j = 3 * X.m) (hB : X'.B = X.B) (hT : X'.T = X.T) (hrd : X'.A.rd = rnd) (hmk : X'.A.mk' = X.A.mk') (hw : Wp n (kk + 1) rnd Bx hl M') :
    Iv n (kk + 1) (updF f k (some X')) ext C rnd Bx hl M' := by
  have o := h.ok k X hf
  have sm := s.m
  have se := s.e
  have sj := s.j
  have he2 : X.e = 2 := by unfold Ax.e eN; rw [hdr]; rfl
  have hqr := o.qd hdr
  have hmn : X.m = n := by unfold Ax.m; rw [hqr]; simp
  refine h.stay hf s ⟨s.who.trans o.who, s.ok.trans o.ok, by rw [s.q]; exact o.nd, by rw [s.q]; exact o.qn, by omega, by rw [s.dr, s.q]; exact o.qd, by rw [s.dr, s.q, s.b]; exact o.qp, by rw [s.b]; exact o.cb, fun _ => by rw [hmk]; exact o.m0 (by omega), fun hc => by omega, (fun hd => by rw [s.dr, hdr] at hd; cases hd), by rw [s.dr, hB]; exact o.bd, fun hd hj' => ?_, fun _ _ => hrd⟩ (by omega) (by omega) (fun r => ?_) hw
  · rw [hT, o.td hdr (by omega), sm, sj, show min (X.j - X.m) n = n by omega, show min (X.j + 1 - X.m) n = n by omega]
  · constructor
    · rintro ⟨y, e1, e2, e3⟩
      rw [s.q] at e1
      have := ActOk.xlt e1
      exact ⟨y, e1, by omega, by omega⟩
    · rintro ⟨y, e1, e2, e3⟩
      have := ActOk.xlt e1
      exact ⟨y, by rw [s.q]; exact e1, by omega, by omega⟩
/-! #### it takes effect -/
/-- Another act's own things, when something takes effect that has nothing of its shards. -/
theorem ActOk.other (o : ActOk n k C rnd Y) {C' : List Ch} {rnd' : Int} {KC' : Int} {NC' : Nat} (hn : 1 ≤ n) (hc : Cg KC NC C) (hc' : Cg KC' NC' C') (h0 : 0 ≤ KC) (h0' : 0 ≤ KC') (hK : KC ≤ 576460752303423488) (hK' : KC' ≤ 576460752303423488) (hs : ∀ r, holds Y r → shB n C' r = shB n C r) (hr : ∀ r, holds Y r → rnd' = rnd) : ActOk n k C' rnd' Y := by
  refine ⟨o.who, o.ok, o.nd, o.qn, o.je, o.qd, o.qp, o.cb, o.m0, o.m1, fun hd hj x r e1 => ?_, o.bd, fun hd hj => ?_, fun hd hj => ?_⟩
  · rw [o.bp hd hj x r e1]
    split
    · have := ActOk.xlt e1
      have he1 : Y.e = 1 := by unfold Ax.e eN; rw [hd]; rfl
      rw [hs r ⟨x, e1, by omega, by omega⟩]
    · rfl
  · rw [o.td hd hj]
    have hqr := o.qd hd
    have hmn : Y.m = n := by unfold Ax.m; rw [hqr]; simp
    have he2 : Y.e = 2 := by unfold Ax.e eN; rw [hd]; rfl
    refine belS_same hc hc' h0 h0' hK hK' hn fun r hr' => (hs r ⟨r, ?_, by omega, by omega⟩).symm
    rw [hqr, List.getElem?_range (by omega)]
  · have hqr := o.qd hd
    have hmn : Y.m = n := by unfold Ax.m; rw [hqr]; simp
    have he2 : Y.e = 2 := by unfold Ax.e eN; rw [hd]; rfl
    rw [hr 0 ⟨0, by rw [hqr, List.getElem?_range (by omega)], by omega, by omega⟩]
    exact o.rl hd hj
theorem hold_same (s : Same X X') (hj : X.m ≤ X.j) (hj2 : X.j < 3 * X.m + X.e) (r : Nat) : holds X' r ↔ holds X r := by
  have sm := s.m
  have se := s.e
  have sj := s.j
  constructor
  · rintro ⟨x, e1, e2, e3⟩
    rw [s.q] at e1
    have := ActOk.xlt e1
    exact ⟨x, e1, by omega, by omega⟩
  · rintro ⟨x, e1, e2, e3⟩
    have := ActOk.xlt e1
    exact ⟨x, by rw [s.q]; exact e1, by omega, by omega⟩
theorem Iv.markp (h : Iv n kk f ext C rnd Bx hl M) (hf : f k = some X) (s : Same X X') (hn : 1 ≤ n) (hdr : X.A.dr = false) (hj : X.j = 3 * X.m) (hc : Cg KC NC C) (h0 : 0 ≤ KC) (hK : KC ≤ 0) (hB : X'.B = X.B) (hmk : 0 < X'.A.mk') (hw : Wp n (kk + 1) rnd Bx hl M') :
    Iv n (kk + 1) (updF f k (some X')) ext (sumsR (C ++ X.b)) rnd Bx hl M' := by
  have o := h.ok k X hf
  have sm := s.m
  have se := s.e
  have sj := s.j
  have he1 : X.e = 1 := by unfold Ax.e eN; rw [hdr]; rfl
  obtain ⟨_, hc', _⟩ := hc.merge o.cb (by omega)
  have hall : ∀ r, r ∈ X.Q → holds X r := fun r hr => by
    obtain ⟨x, hx⟩ := List.mem_iff_getElem?.1 hr
    have := ActOk.xlt hx
    exact ⟨x, hx, by omega, by omega⟩
  have hsame : ∀ r, r < n → r ∉ X.Q → shB n (sumsR (C ++ X.b)) r = shB n C r := fun r hr hq => sh_merge_no hc o.cb h0 (by decide) (by omega) (o.qp hdr r hr hq)
  have hoth : ∀ k' Y, k' ≠ k → f k' = some Y → ∀ r, holds Y r → shB n (sumsR (C ++ X.b)) r = shB n C r := fun k' Y hne hk' r hh => by
    refine hsame r ?_ fun hq => hne (h.one hk' hf hh (hall r hq))
    obtain ⟨x, e1, _⟩ := hh
    exact (h.ok k' Y hk').qlt e1
  have hdX : ∀ r, r ∈ X.Q → dset X r := fun r hr => by
    obtain ⟨x, hx⟩ := List.mem_iff_getElem?.1 hr
    have := ActOk.xlt hx
    exact ⟨x, hx, by omega, by omega⟩
  have hdset : ∀ r, ¬ dset X' r := by rintro r ⟨y, e1, e2, e3⟩; omega
  have hhold := hold_same s (by omega) (by omega)
  refine ⟨hw, h.others hf (fun k' Y hne hk' => (h.ok k' Y hk').other hn hc hc' h0 (by omega) (by omega) (by omega) (hoth k' Y hne hk') (fun _ _ => rfl)) ⟨s.who.trans o.who, s.ok.trans o.ok, by rw [s.q]; exact o.nd, by rw [s.q]; exact o.qn, by omega, by rw [s.dr, s.q]; exact o.qd, by rw [s.dr, s.q, s.b]; exact o.qp, by rw [s.b]; exact o.cb, fun hc => by omega, fun _ => hmk, fun hd hj' => by omega, (fun hd => by rw [s.dr, hdr] at hd; cases hd), (fun hd => by rw [s.dr, hdr] at hd; cases hd), (fun hd => by rw [s.dr, hdr] at hd; cases hd)⟩, fun r hr z hz => ?_, fun k' Y r hk' hh => ?_, h.h3, fun r hr hno => ?_, fun k' Y r hk' hdd => ?_⟩
  · rcases h.h1 r hr z hz with hh | ⟨k', Y, e1, e2, e3⟩
    · exact .inl hh
    · by_cases ek : k' = k
      · subst ek
        rw [hf] at e2
        obtain rfl : X = Y := by simpa using e2
        exact .inr ⟨k', X', e1, updF_same _ _ _, (hhold r).2 e3⟩
      · exact .inr ⟨k', Y, e1, by rw [updF_other ek]; exact e2, e3⟩
  · rcases updF_inv hk' with ⟨rfl, rfl⟩ | ⟨hne, hk'⟩
    · exact h.h2 k' X r hf ((hhold r).1 hh)
    · exact h.h2 k' Y r hk' hh
  · by_cases hq : r ∈ X.Q
    · have e1 := h.b2 k X r hf (hdX r hq)
      rw [hdr] at e1
      simp only [Bool.false_eq_true, if_false] at e1
      rw [e1, sh_merge hc o.cb h0 (by decide) (by omega)]
    · rw [hsame r hr hq]
      refine h.b1 r hr fun k' Y hk' hdd => ?_
      by_cases ek : k' = k
      · subst ek
        rw [hf] at hk'
        obtain rfl : X = Y := by simpa using hk'
        obtain ⟨x, e1, _⟩ := hdd
        exact hq (List.mem_of_getElem? e1)
      · exact hno k' Y (by rw [updF_other ek]; exact hk') hdd
  · rcases updF_inv hk' with ⟨rfl, rfl⟩ | ⟨hne, hk'⟩
    · exact absurd hdd (hdset r)
    · rw [hoth k' Y hne hk' r hdd.holds]
      exact h.b2 k' Y r hk' hdd
theorem Iv.markd (h : Iv n kk f ext C rnd Bx hl M) (hf : f k = some X) (s : Same X X') (hn : 1 ≤ n) (hdr : X.A.dr = true) (hj : X.j = 3 * X.m + 1) (hc : Cg KC NC C) (h0 : 0 ≤ KC) (hK : KC ≤ 576460752303423488) (hB : X'.B = X.B) (hmk : 0 < X'.A.mk') (hw : Wp n (kk + 1) (rnd + 1) Bx hl M') :
    Iv n (kk + 1) (updF f k (some X')) ext [] (rnd + 1) Bx hl M' := by
  have o := h.ok k X hf
  have sm := s.m
  have se := s.e
  have sj := s.j
  have he2 : X.e = 2 := by unfold Ax.e eN; rw [hdr]; rfl
  have hqr := o.qd hdr
  have hmn : X.m = n := by unfold Ax.m; rw [hqr]; simp
  have hat : ∀ r, r < n → X.Q[r]? = some r := fun r hr => by rw [hqr, List.getElem?_range (by omega)]
  have hall : ∀ r, r < n → holds X r := fun r hr => ⟨r, hat r hr, by omega, by omega⟩
  have hdX : ∀ r, r < n → dset X r := fun r hr => ⟨r, hat r hr, by omega, by omega⟩
  have hoth : ∀ k' Y, k' ≠ k → f k' = some Y → ∀ r, ¬ holds Y r := fun k' Y hne hk' r hh => by
    have hr : r < n := by
      obtain ⟨x, e1, _⟩ := hh
      exact (h.ok k' Y hk').qlt e1
    exact hne (h.one hk' hf hh (hall r hr))
  have hdset : ∀ r, ¬ dset X' r := by rintro r ⟨y, e1, e2, e3⟩; omega
  have hhold := hold_same s (by omega) (by omega)
  refine ⟨hw, h.others hf (fun k' Y hne hk' => (h.ok k' Y hk').other hn hc (cg_nil (K := 0) (N := 0) (by decide)) h0 (by decide) (by omega) (by decide) (fun r hh => absurd hh (hoth k' Y hne hk' r)) (fun r hh => absurd hh (hoth k' Y hne hk' r))) ⟨s.who.trans o.who, s.ok.trans o.ok, by rw [s.q]; exact o.nd, by rw [s.q]; exact o.qn, by omega, by rw [s.dr, s.q]; exact o.qd, by rw [s.dr, s.q, s.b]; exact o.qp, by rw [s.b]; exact o.cb, fun hc => by omega, fun _ => hmk, (fun hd => by rw [s.dr, hdr] at hd; cases hd), by rw [s.dr, hB]; exact o.bd, fun hd hj' => by omega, fun hd hj' => by omega⟩, fun r hr z hz => ?_, fun k' Y r hk' hh => ?_, h.h3, fun r hr hno => ?_, fun k' Y r hk' hdd => ?_⟩
  · rcases h.h1 r hr z hz with hh | ⟨k', Y, e1, e2, e3⟩
    · exact .inl hh
    · by_cases ek : k' = k
      · subst ek
        rw [hf] at e2
        obtain rfl : X = Y := by simpa using e2
        exact .inr ⟨k', X', e1, updF_same _ _ _, (hhold r).2 e3⟩
      · exact .inr ⟨k', Y, e1, by rw [updF_other ek]; exact e2, e3⟩
  · rcases updF_inv hk' with ⟨rfl, rfl⟩ | ⟨hne, hk'⟩
    · exact h.h2 k' X r hf ((hhold r).1 hh)
    · exact h.h2 k' Y r hk' hh
  · have e1 := h.b2 k X r hf (hdX r hr)
    rw [hdr] at e1
    simp only [if_true] at e1
    rw [e1, shB_nil]
  · rcases updF_inv hk' with ⟨rfl, rfl⟩ | ⟨hne, hk'⟩
    · exact absurd hdd (hdset r)
    · exact absurd hdd.holds (hoth k' Y hne hk' r)
end
end Go.Proofs.Ytmggnalobfihnaa.PlB
