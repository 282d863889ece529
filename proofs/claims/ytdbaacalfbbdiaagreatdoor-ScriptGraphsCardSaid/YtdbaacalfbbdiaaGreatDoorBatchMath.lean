/-
  PACKAGE batch, PLAIN MATHEMATICS: Changes, their order, sums by Port and Time, the one rising list of sums.
-/
import Derived.RowKit
namespace Go.Proofs.YtdbaacalfbbdiaaGreatDoor.Batch
open Go.RowKit
set_option linter.unusedVariables false

structure Ch where
  p : Int
  t : Int
  d : Int
instance : Inhabited Ch := ⟨⟨0, 0, 0⟩⟩
/-- A Change that a program may hold. -/
structure Ch.Wf (x : Ch) : Prop where
  p0 : -9223372036854775808 ≤ x.p
  p1 : x.p ≤ 9223372036854775807
  t0 : 0 ≤ x.t
  t1 : x.t ≤ 18446744073709551615
  d0 : -9223372036854775808 ≤ x.d
  d1 : x.d ≤ 9223372036854775807
def Ch.cells (x : Ch) : List Value := [.int .i64 x.p, .int .u64 x.t, .int .i64 x.d]
abbrev Ch.agg (x : Ch) : Value := .agg #[.int .i64 x.p, .int .u64 x.t, .int .i64 x.d]
def overB (d : Int) : Bool := decide (d < -576460752303423488 ∨ 576460752303423488 < d)
def wrongN (x : Ch) : Int := if x.p < 0 ∨ 64 ≤ x.p then 2 else if x.t = 18446744073709551615 then 1 else if overB x.d = true then 10 else 0
def cmpI (a b : Int) : Int := if a < b then -1 else if b < a then 1 else 0
def ordI (x y : Ch) : Int := if cmpI x.p y.p = 0 then cmpI x.t y.t else cmpI x.p y.p

/-- Ahead by Port, then by Time. -/
def Lt (x y : Ch) : Prop := x.p < y.p ∨ x.p = y.p ∧ x.t < y.t
def Key (x y : Ch) : Prop := x.p = y.p ∧ x.t = y.t
instance (x y : Ch) : Decidable (Lt x y) := by unfold Lt; exact inferInstance
instance (x y : Ch) : Decidable (Key x y) := by unfold Key; exact inferInstance
theorem ordI_neg {x y : Ch} : ordI x y < 0 ↔ Lt x y := by
  unfold ordI cmpI Lt
  (repeat' split) <;> omega
theorem ordI_zero {x y : Ch} : ordI x y = 0 ↔ Key x y := by
  unfold ordI cmpI Key
  (repeat' split) <;> omega
theorem ordI_pos {x y : Ch} : 0 < ordI x y ↔ Lt y x := by
  unfold ordI cmpI Lt
  (repeat' split) <;> omega
theorem Lt.irrefl {x : Ch} : ¬ Lt x x := by unfold Lt; omega
theorem Lt.trans {x y z : Ch} (h : Lt x y) (k : Lt y z) : Lt x z := by unfold Lt at *; omega
theorem Lt.key_left {x y z : Ch} (h : Key x y) (k : Lt y z) : Lt x z := by unfold Lt Key at *; omega
theorem Lt.key_right {x y z : Ch} (h : Lt x y) (k : Key y z) : Lt x z := by unfold Lt Key at *; omega
theorem Lt.not_key {x y : Ch} (h : Lt x y) : ¬ Key x y := by unfold Lt Key at *; omega
theorem Lt.not_key' {x y : Ch} (h : Lt x y) : ¬ Key y x := by unfold Lt Key at *; omega
theorem Lt.asymm {x y : Ch} (h : Lt x y) : ¬ Lt y x := by unfold Lt at *; omega
theorem three (x y : Ch) : Lt x y ∨ Key x y ∨ Lt y x := by unfold Lt Key; omega
theorem Key.refl (x : Ch) : Key x x := ⟨rfl, rfl⟩
theorem Key.symm {x y : Ch} (h : Key x y) : Key y x := ⟨h.1.symm, h.2.symm⟩
theorem Key.trans {x y z : Ch} (h : Key x y) (k : Key y z) : Key x z := ⟨h.1.trans k.1, h.2.trans k.2⟩

/-! counts wrap -/
def wr (n : Int) : Int := (n + 9223372036854775808) % 18446744073709551616 - 9223372036854775808
theorem wr_id {n : Int} (h0 : -9223372036854775808 ≤ n) (h1 : n ≤ 9223372036854775807) : wr n = n := by unfold wr; omega
theorem wr_range (n : Int) : -9223372036854775808 ≤ wr n ∧ wr n ≤ 9223372036854775807 := by unfold wr; omega
theorem wr_wr_add (a b : Int) : wr (wr a + b) = wr (a + b) := by unfold wr; omega
theorem wr_add_wr (a b : Int) : wr (a + wr b) = wr (a + b) := by unfold wr; omega
theorem wr_wr (a : Int) : wr (wr a) = wr a := by unfold wr; omega
theorem wr_zero : wr 0 = 0 := rfl
theorem wr_i64 (n : Int) : IntKind.i64.wrap n = wr n := by
  unfold IntKind.wrap wr
  simp [IntKind.bits, IntKind.signed]
  omega

/-! the sum of those of one Port and Time -/
def tot : List Ch → Int → Int → Int
  | [], _, _ => 0
  | x :: r, p, t => (if x.p = p ∧ x.t = t then x.d else 0) + tot r p t
theorem tot_append (a b : List Ch) (p t : Int) : tot (a ++ b) p t = tot a p t + tot b p t := by
  induction a with
  | nil => simp [tot]
  | cons x r ih => simp only [List.cons_append, tot, ih]; omega
theorem tot_perm {a b : List Ch} (h : a.Perm b) (p t : Int) : tot a p t = tot b p t := by
  induction h with
  | nil => rfl
  | cons x _ ih => simp only [tot, ih]
  | swap x y l => simp only [tot]; omega
  | trans _ _ h1 h2 => exact h1.trans h2
theorem tot_none {l : List Ch} {p t : Int} (h : ∀ x ∈ l, ¬ (x.p = p ∧ x.t = t)) : tot l p t = 0 := by
  induction l with
  | nil => rfl
  | cons x r ih => simp only [tot]; rw [if_neg (h x (by simp)), ih (fun y hy => h y (by simp [hy]))]; rfl
theorem tot_one {l : List Ch} {z : Ch} (hp : l.Pairwise Lt) (h : z ∈ l) : tot l z.p z.t = z.d := by
  induction l with
  | nil => simp at h
  | cons x r ih =>
    rw [List.pairwise_cons] at hp
    simp only [tot]
    rcases List.mem_cons.1 h with rfl | h
    · rw [if_pos ⟨rfl, rfl⟩, tot_none (fun y hy hk => (hp.1 y hy).not_key' ⟨hk.1, hk.2⟩)]; omega
    · rw [if_neg (fun hk => (hp.1 z h).not_key ⟨hk.1, hk.2⟩), ih hp.2 h]; omega
theorem tot_bound {l : List Ch} {B : Int} (h : ∀ x ∈ l, -B ≤ x.d ∧ x.d ≤ B) (h0 : 0 ≤ B) (p t : Int) : -(B * l.length) ≤ tot l p t ∧ tot l p t ≤ B * l.length := by
  induction l with
  | nil => simp [tot]
  | cons x r ih =>
    have i1 := ih (fun y hy => h y (by simp [hy]))
    have i2 := h x (by simp)
    have e : B * ((r.length + 1 : Nat) : Int) = B * (r.length : Int) + B := by rw [Int.natCast_add, Int.mul_add]; simp
    rw [List.length_cons, e]
    simp only [tot]
    split <;> omega

/-! two rising lists of the same Changes are one -/
theorem rising_ext : ∀ {a b : List Ch}, a.Pairwise Lt → b.Pairwise Lt → (∀ z, z ∈ a ↔ z ∈ b) → a = b
  | [], [], _, _, _ => rfl
  | [], y :: _, _, _, h => absurd ((h y).2 (by simp)) (by simp)
  | x :: _, [], _, _, h => absurd ((h x).1 (by simp)) (by simp)
  | x :: a, y :: b, ha, hb, h => by
    rw [List.pairwise_cons] at ha hb
    have hxy : x = y := by
      rcases List.mem_cons.1 ((h x).1 (by simp)) with e | e
      · exact e
      · rcases List.mem_cons.1 ((h y).2 (by simp)) with e' | e'
        · exact e'.symm
        · exact absurd (hb.1 x e) (ha.1 y e').asymm
    subst hxy
    rw [rising_ext ha.2 hb.2 (fun z => ⟨fun hz => ?_, fun hz => ?_⟩)]
    · rcases List.mem_cons.1 ((h z).1 (by simp [hz])) with e | e
      · subst e; exact absurd (ha.1 z hz) Lt.irrefl
      · exact e
    · rcases List.mem_cons.1 ((h z).2 (by simp [hz])) with e | e
      · subst e; exact absurd (hb.1 z hz) Lt.irrefl
      · exact e

/-- R are the sums of l: rising, none of nothing. -/
def IsSum (R l : List Ch) : Prop := R.Pairwise Lt ∧ ∀ z, z ∈ R ↔ z.d ≠ 0 ∧ z.d = wr (tot l z.p z.t)
theorem IsSum.one {R R' l l' : List Ch} (h : IsSum R l) (h' : IsSum R' l') (e : ∀ p t, wr (tot l p t) = wr (tot l' p t)) : R = R' :=
  rising_ext h.1 h'.1 fun z => by rw [h.2, h'.2, e]
theorem IsSum.tot {R l : List Ch} (h : IsSum R l) (p t : Int) : tot R p t = wr (Batch.tot l p t) := by
  by_cases hz : wr (Batch.tot l p t) = 0
  · rw [hz]
    refine tot_none fun x hx hk => ?_
    have := (h.2 x).1 hx
    rw [hk.1, hk.2, hz] at this
    exact this.1 this.2
  · exact tot_one (z := ⟨p, t, wr (Batch.tot l p t)⟩) h.1 ((h.2 _).2 ⟨hz, rfl⟩)
/-- A rising list of no nothing is its own sums. -/
theorem IsSum.self {l : List Ch} (hr : l.Pairwise Lt) (h : ∀ x ∈ l, x.d ≠ 0 ∧ -9223372036854775808 ≤ x.d ∧ x.d ≤ 9223372036854775807) : IsSum l l := by
  refine ⟨hr, fun z => ⟨fun hz => ⟨(h z hz).1, ?_⟩, fun ⟨h0, h1⟩ => ?_⟩⟩
  · rw [tot_one hr hz, wr_id (h z hz).2.1 (h z hz).2.2]
  · by_cases hk : ∃ x ∈ l, x.p = z.p ∧ x.t = z.t
    · obtain ⟨x, hx, hp, ht⟩ := hk
      have e := tot_one hr hx
      rw [hp, ht] at e
      rw [e, wr_id (h x hx).2.1 (h x hx).2.2] at h1
      obtain ⟨a, b, c⟩ := x
      obtain ⟨a', b', c'⟩ := z
      simp only at hp ht h1
      subst hp ht h1
      exact hx
    · rw [tot_none (fun x hx hk' => hk ⟨x, hx, hk'⟩), wr_zero] at h1
      exact absurd h1 h0

/-! the document's way: put each where it belongs -/
def add (x : Ch) : List Ch → List Ch
  | [] => [x]
  | y :: r => if Lt x y then x :: y :: r else if Key x y then ⟨y.p, y.t, wr (y.d + x.d)⟩ :: r else y :: add x r
def tab (l : List Ch) : List Ch := l.foldl (fun a x => add x a) []
theorem tab_snoc (l : List Ch) (x : Ch) : tab (l ++ [x]) = add x (tab l) := by unfold tab; rw [List.foldl_append]; rfl
theorem mem_key_add {x z : Ch} {l : List Ch} (h : z ∈ add x l) : Key z x ∨ z ∈ l := by
  induction l with
  | nil => simp [add] at h; subst h; exact .inl (Key.refl _)
  | cons y r ih =>
    unfold add at h
    split at h
    · rcases List.mem_cons.1 h with rfl | h
      · exact .inl (Key.refl _)
      · exact .inr h
    · split at h
      · rename_i _ hk
        rcases List.mem_cons.1 h with rfl | h
        · exact .inl ⟨hk.1.symm, hk.2.symm⟩
        · exact .inr (by simp [h])
      · rcases List.mem_cons.1 h with rfl | h
        · exact .inr (by simp)
        · rcases ih h with h | h
          · exact .inl h
          · exact .inr (by simp [h])
theorem add_rising {x : Ch} {l : List Ch} (h : l.Pairwise Lt) : (add x l).Pairwise Lt := by
  induction l with
  | nil => simp [add]
  | cons y r ih =>
    rw [List.pairwise_cons] at h
    unfold add
    split
    · rename_i hl
      rw [List.pairwise_cons, List.pairwise_cons]
      exact ⟨fun z hz => (List.mem_cons.1 hz).elim (fun e => e ▸ hl) (fun hz => hl.trans (h.1 z hz)), h⟩
    · split
      · rw [List.pairwise_cons]
        exact ⟨fun z hz => Lt.key_left (y := y) ⟨rfl, rfl⟩ (h.1 z hz), h.2⟩
      · rename_i h1 h2
        rw [List.pairwise_cons]
        refine ⟨fun z hz => ?_, ih h.2⟩
        rcases mem_key_add hz with hk | hz
        · exact Lt.key_right ((three x y).elim (fun h => absurd h h1) (fun h => h.elim (fun h => absurd h h2) id)) hk.symm
        · exact h.1 z hz
/-- What is told of l by T: each of l has its sum there, and nothing else. -/
def IsTab (T l : List Ch) : Prop := T.Pairwise Lt ∧ ∀ z, z ∈ T ↔ (∃ x ∈ l, Key x z) ∧ z.d = wr (tot l z.p z.t)
theorem mem_add {x z : Ch} {T : List Ch} (h : T.Pairwise Lt) (hx : -9223372036854775808 ≤ x.d ∧ x.d ≤ 9223372036854775807) :
    z ∈ add x T ↔ (¬ Key x z ∧ z ∈ T) ∨ (Key x z ∧ ((∃ y ∈ T, Key y z ∧ z.d = wr (y.d + x.d)) ∨ ((∀ y ∈ T, ¬ Key y z) ∧ z.d = x.d))) := by
  obtain ⟨zp, zt, zd⟩ := z
  obtain ⟨xp, xt, xd⟩ := x
  induction T with
  | nil =>
    unfold add
    rw [List.mem_singleton]
    constructor
    · intro e
      rw [Ch.mk.injEq] at e
      obtain ⟨rfl, rfl, rfl⟩ := e
      exact .inr ⟨⟨rfl, rfl⟩, .inr ⟨fun y hy => absurd hy (by simp), rfl⟩⟩
    · rintro (⟨_, hz⟩ | ⟨hk, ⟨y, hy, _⟩ | ⟨_, hd⟩⟩)
      · exact absurd hz (by simp)
      · exact absurd hy (by simp)
      · rw [Ch.mk.injEq]
        exact ⟨hk.1.symm, hk.2.symm, hd⟩
  | cons y r ih =>
    obtain ⟨yp, yt, yd⟩ := y
    rw [List.pairwise_cons] at h
    have ih := ih h.2
    unfold add
    by_cases hl : Lt ⟨xp, xt, xd⟩ ⟨yp, yt, yd⟩
    · rw [if_pos hl]
      have far : ∀ w ∈ (⟨yp, yt, yd⟩ : Ch) :: r, Lt ⟨xp, xt, xd⟩ w := fun w hw => (List.mem_cons.1 hw).elim (fun e => e ▸ hl) (fun hw => hl.trans (h.1 w hw))
      rw [List.mem_cons]
      constructor
      · rintro (e | hz)
        · rw [Ch.mk.injEq] at e
          obtain ⟨rfl, rfl, rfl⟩ := e
          exact .inr ⟨⟨rfl, rfl⟩, .inr ⟨fun y hy hk => (far y hy).not_key' hk, rfl⟩⟩
        · exact .inl ⟨(far _ hz).not_key, hz⟩
      · rintro (⟨_, hz⟩ | ⟨hk, ⟨y, hy, hky, _⟩ | ⟨_, hd⟩⟩)
        · exact .inr hz
        · exact absurd (hky.trans hk.symm) (far y hy).not_key'
        · refine .inl ?_
          rw [Ch.mk.injEq]
          exact ⟨hk.1.symm, hk.2.symm, hd⟩
    · rw [if_neg hl]
      by_cases hk0 : Key ⟨xp, xt, xd⟩ ⟨yp, yt, yd⟩
      · rw [if_pos hk0, List.mem_cons]
        obtain ⟨rfl, rfl⟩ : xp = yp ∧ xt = yt := hk0
        constructor
        · rintro (e | hz)
          · rw [Ch.mk.injEq] at e
            obtain ⟨rfl, rfl, rfl⟩ := e
            exact .inr ⟨⟨rfl, rfl⟩, .inl ⟨⟨_, _, yd⟩, List.mem_cons_self, ⟨rfl, rfl⟩, rfl⟩⟩
          · exact .inl ⟨Lt.not_key (y := ⟨zp, zt, zd⟩) (x := ⟨xp, xt, xd⟩) (h.1 _ hz), List.mem_cons_of_mem _ hz⟩
        · rintro (⟨hn, hz⟩ | ⟨hk, ⟨y, hy, hky, hd⟩ | ⟨hno, _⟩⟩)
          · rcases List.mem_cons.1 hz with e | hz
            · rw [Ch.mk.injEq] at e
              exact absurd ⟨e.1.symm, e.2.1.symm⟩ hn
            · exact .inr hz
          · rcases List.mem_cons.1 hy with rfl | hy
            · refine .inl ?_
              rw [Ch.mk.injEq]
              exact ⟨hk.1.symm, hk.2.symm, hd⟩
            · have := (h.1 y hy)
              exact absurd (hky.trans hk.symm) (Lt.key_left (x := ⟨xp, xt, xd⟩) ⟨rfl, rfl⟩ this).not_key'
          · exact absurd hk (hno ⟨xp, xt, yd⟩ List.mem_cons_self)
      · rw [if_neg hk0, List.mem_cons, ih]
        have hgt : Lt ⟨yp, yt, yd⟩ ⟨xp, xt, xd⟩ := (three ⟨xp, xt, xd⟩ ⟨yp, yt, yd⟩).elim (fun h => absurd h hl) (fun h => h.elim (fun h => absurd h hk0) id)
        constructor
        · rintro (e | ⟨hn, hz⟩ | ⟨hk, ⟨y, hy, hky, hd⟩ | ⟨hno, hd⟩⟩)
          · rw [Ch.mk.injEq] at e
            obtain ⟨rfl, rfl, rfl⟩ := e
            exact .inl ⟨hk0, by simp⟩
          · exact .inl ⟨hn, List.mem_cons_of_mem _ hz⟩
          · exact .inr ⟨hk, .inl ⟨y, List.mem_cons_of_mem _ hy, hky, hd⟩⟩
          · refine .inr ⟨hk, .inr ⟨fun y hy => ?_, hd⟩⟩
            rcases List.mem_cons.1 hy with rfl | hy
            · exact fun hky => hk0 (hk.trans hky.symm)
            · exact hno y hy
        · rintro (⟨hn, hz⟩ | ⟨hk, ⟨y, hy, hky, hd⟩ | ⟨hno, hd⟩⟩)
          · rcases List.mem_cons.1 hz with e | hz
            · exact .inl e
            · exact .inr (.inl ⟨hn, hz⟩)
          · rcases List.mem_cons.1 hy with rfl | hy
            · exact absurd (hk.trans hky.symm) hk0
            · exact .inr (.inr ⟨hk, .inl ⟨y, hy, hky, hd⟩⟩)
          · exact .inr (.inr ⟨hk, .inr ⟨fun y hy => hno y (List.mem_cons_of_mem _ hy), hd⟩⟩)
theorem IsTab.add {T l : List Ch} {x : Ch} (h : IsTab T l) (hx : -9223372036854775808 ≤ x.d ∧ x.d ≤ 9223372036854775807) : IsTab (add x T) (l ++ [x]) := by
  refine ⟨add_rising h.1, fun z => ?_⟩
  rw [mem_add h.1 hx, tot_append, h.2]
  have e1 : tot [x] z.p z.t = if Key x z then x.d else 0 := by simp only [tot, Key]; omega
  rw [e1]
  by_cases hk : Key x z
  · rw [if_pos hk]
    constructor
    · rintro (⟨hn, _⟩ | ⟨_, ⟨y, hy, hky, hd⟩ | ⟨hno, hd⟩⟩)
      · exact absurd hk hn
      · have hy' := (h.2 y).1 hy
        rw [hky.1, hky.2] at hy'
        refine ⟨⟨x, by simp, hk⟩, ?_⟩
        rw [hd, hy'.2, wr_wr_add]
      · refine ⟨⟨x, by simp, hk⟩, ?_⟩
        have h0 : ∀ y ∈ l, ¬ (y.p = z.p ∧ y.t = z.t) := by
          intro y hy hky
          exact hno ⟨z.p, z.t, wr (tot l z.p z.t)⟩ ((h.2 _).2 ⟨⟨y, hy, hky⟩, rfl⟩) ⟨rfl, rfl⟩
        rw [tot_none h0, hd, Int.zero_add, wr_id hx.1 hx.2]
    · rintro ⟨_, hd⟩
      refine .inr ⟨hk, ?_⟩
      by_cases h0 : ∃ y ∈ l, Key y z
      · refine .inl ⟨⟨z.p, z.t, wr (tot l z.p z.t)⟩, (h.2 _).2 ⟨h0, rfl⟩, ⟨rfl, rfl⟩, ?_⟩
        rw [hd, wr_wr_add]
      · refine .inr ⟨fun y hy hky => ?_, ?_⟩
        · obtain ⟨⟨q, hq, hqy⟩, _⟩ := (h.2 y).1 hy
          exact h0 ⟨q, hq, hqy.trans hky⟩
        · rw [hd, tot_none (fun y hy hky => h0 ⟨y, hy, hky⟩), Int.zero_add, wr_id hx.1 hx.2]
  · rw [if_neg hk, Int.add_zero]
    constructor
    · rintro (⟨_, ⟨y, hy, hky⟩, hd⟩ | ⟨hk', _⟩)
      · exact ⟨⟨y, by simp [hy], hky⟩, hd⟩
      · exact absurd hk' hk
    · rintro ⟨⟨y, hy, hky⟩, hd⟩
      refine .inl ⟨hk, ⟨y, ?_, hky⟩, hd⟩
      rcases List.mem_append.1 hy with hy | hy
      · exact hy
      · simp at hy; subst hy; exact absurd hky hk
theorem tab_is {l : List Ch} (h : ∀ x ∈ l, x.Wf) : IsTab (tab l) l := by
  have go : ∀ (r d : List Ch), (∀ x ∈ r, x.Wf) → IsTab (tab d) d → IsTab (tab (d ++ r)) (d ++ r) := by
    intro r
    induction r with
    | nil => intro d _ hd; simpa using hd
    | cons x r ih =>
      intro d hr hd
      have h1 : IsTab (tab (d ++ [x])) (d ++ [x]) := by
        rw [tab_snoc]
        exact hd.add ⟨(hr x (by simp)).d0, (hr x (by simp)).d1⟩
      have := ih (d ++ [x]) (fun y hy => hr y (by simp [hy])) h1
      simpa using this
  have := go l [] h ⟨by simp [tab], fun z => by simp [tab]⟩
  simpa using this

def nzB (x : Ch) : Bool := decide (x.d ≠ 0)
def overK (l : List Ch) : Bool := (tab l).any fun x => overB x.d
/-- The sums of l. -/
def sumL (l : List Ch) : List Ch := (tab l).filter nzB
theorem sumL_is {l : List Ch} (h : ∀ x ∈ l, x.Wf) : IsSum (sumL l) l := by
  have ht := tab_is h
  refine ⟨ht.1.filter _, fun z => ?_⟩
  unfold sumL
  rw [List.mem_filter, ht.2]
  constructor
  · rintro ⟨⟨_, hd⟩, hn⟩
    exact ⟨of_decide_eq_true hn, hd⟩
  · rintro ⟨hn, hd⟩
    refine ⟨⟨?_, hd⟩, decide_eq_true hn⟩
    by_cases h0 : ∃ x ∈ l, Key x z
    · exact h0
    · rw [tot_none (fun x hx hk => h0 ⟨x, hx, hk⟩), wr_zero] at hd
      exact absurd hd hn
theorem overK_iff {l : List Ch} (h : ∀ x ∈ l, x.Wf) : overK l = true ↔ ∃ p t, overB (wr (tot l p t)) = true := by
  have ht := tab_is h
  unfold overK
  rw [List.any_eq_true]
  constructor
  · rintro ⟨z, hz, ho⟩
    refine ⟨z.p, z.t, ?_⟩
    rw [← ((ht.2 z).1 hz).2]
    exact ho
  · rintro ⟨p, t, ho⟩
    refine ⟨⟨p, t, wr (tot l p t)⟩, (ht.2 _).2 ⟨?_, rfl⟩, ho⟩
    by_cases h0 : ∃ x ∈ l, Key x ⟨p, t, wr (tot l p t)⟩
    · exact h0
    · rw [tot_none (fun x hx hk => h0 ⟨x, hx, hk⟩)] at ho
      exact absurd ho (by decide)
theorem overK_same {l l' : List Ch} (h : ∀ x ∈ l, x.Wf) (h' : ∀ x ∈ l', x.Wf) (e : ∀ p t, wr (tot l p t) = wr (tot l' p t)) : overK l = overK l' := by
  rw [Bool.eq_iff_iff, overK_iff h, overK_iff h']
  simp only [e]
theorem sumL_same {l l' : List Ch} (h : ∀ x ∈ l, x.Wf) (h' : ∀ x ∈ l', x.Wf) (e : ∀ p t, wr (tot l p t) = wr (tot l' p t)) : sumL l = sumL l' := (sumL_is h).one (sumL_is h') e
theorem sumL_wf {l : List Ch} (h : ∀ x ∈ l, x.Wf) : ∀ z ∈ sumL l, z.Wf := by
  intro z hz
  have ht := tab_is h
  obtain ⟨⟨x, hx, hk⟩, hd⟩ := (ht.2 z).1 (List.mem_filter.1 hz).1
  have hw := h x hx
  have hr := wr_range (tot l z.p z.t)
  exact ⟨by rw [← hk.1]; exact hw.p0, by rw [← hk.1]; exact hw.p1, by rw [← hk.2]; exact hw.t0, by rw [← hk.2]; exact hw.t1, by omega, by omega⟩
theorem sumL_key {l : List Ch} (h : ∀ x ∈ l, x.Wf) : ∀ z ∈ sumL l, ∃ x ∈ l, Key x z := fun z hz => ((tab_is h).2 z).1 (List.mem_filter.1 hz).1 |>.1
theorem add_length (x : Ch) (T : List Ch) : (add x T).length ≤ T.length + 1 := by
  induction T with
  | nil => simp [add]
  | cons y r ih => unfold add; (repeat' split) <;> simp <;> omega
theorem tab_length (l : List Ch) : (tab l).length ≤ l.length := by
  have go : ∀ (r a : List Ch), (r.foldl (fun a x => add x a) a).length ≤ a.length + r.length := by
    intro r
    induction r with
    | nil => intro a; simp
    | cons x r ih => intro a; have := ih (add x a); have := add_length x a; simp only [List.foldl_cons, List.length_cons]; omega
  have := go l []
  unfold tab
  simpa using this
theorem sumL_length (l : List Ch) : (sumL l).length ≤ l.length := Nat.le_trans (List.length_filter_le _ _) (tab_length l)
end Go.Proofs.YtdbaacalfbbdiaaGreatDoor.Batch
