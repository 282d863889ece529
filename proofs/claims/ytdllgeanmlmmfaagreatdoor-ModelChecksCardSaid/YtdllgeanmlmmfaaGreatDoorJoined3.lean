/-
  PACKAGE claim: Take, Give.
  PACKAGE model: how a Model lies in memory, by tags of blocks: 1 the struct, 2 the threads, 4 and more a queue's, 3 what is never written any more, 0 what isn't its own.
-/
import Derived.Test.YtdllgeanmlmmfaaGreatDoorJoined2
import Derived.Deep.QuietTactic
import Derived.BigQuiet
import Derived.Test.YtdllgeanmlmmfaaGreatDoorJoined1
import Derived.Test.YtdllgeanmlmmfaaGreatDoorGMem
import Derived.ArgAppend
namespace Go.Proofs.YtdllgeanmlmmfaaGreatDoor.Tb
open Go.RowKit Rw Go.Lib
set_option linter.unusedVariables false

abbrev So := Int × Bool
theorem at_ofT {l : List So} {i : Nat} (h : i < l.length) : ∃ g u, l[i]? = some (g, u) := ⟨l[i].1, l[i].2, List.getElem?_eq_getElem h⟩
/-- The first place that is free. -/
def FreeP (T : List So) (z : Int) : Prop := (z = -1 ∧ ∀ x ∈ T, x.2 = true) ∨ ∃ (j : Nat) (g : Int), z = j ∧ T[j]? = some (g, false) ∧ ∀ x ∈ T.take j, x.2 = true
theorem FreeP.one {T : List So} {z z' : Int} (h : FreeP T z) (h' : FreeP T z') : z = z' := by
  rcases h with ⟨e, h⟩ | ⟨j, g, e, hj, h⟩
  · rcases h' with ⟨e', h'⟩ | ⟨j', g', e', hj', h'⟩
    · omega
    · exact absurd (h _ (List.mem_of_getElem? hj')) (by simp)
  · rcases h' with ⟨e', h'⟩ | ⟨j', g', e', hj', h'⟩
    · exact absurd (h' _ (List.mem_of_getElem? hj)) (by simp)
    · rcases Nat.lt_trichotomy j j' with hlt | hlt | hlt
      · exact absurd (h' (g, false) (List.mem_iff_getElem?.2 ⟨j, by rw [List.getElem?_take_of_lt hlt]; exact hj⟩)) (by simp)
      · omega
      · exact absurd (h (g', false) (List.mem_iff_getElem?.2 ⟨j', by rw [List.getElem?_take_of_lt hlt]; exact hj'⟩)) (by simp)
theorem take_succT {l : List So} {i : Nat} {x : So} (h : l[i]? = some x) : l.take (i + 1) = l.take i ++ [x] := by rw [List.take_add_one, h]; rfl

set_option maxRecDepth 1000000 in
set_option maxHeartbeats 8000000 in
theorem idxS_any {w : World} {v : Value} {T : List So} (hv : Sl slK w v T) :
    Calls Tryz.prog 90 #[v, .func (.func 91) #[] #[]] w fun e w' => ∃ z : Int, e = .returned (.int .i64 z) ∧ FreeP T z ∧ Below w.heap.size w w' := by
  have HV := Lib.hid hv
  obtain ⟨ao, cap, rfl, hc1, hc2⟩ := hv.form
  have hlen : T.length ≤ 9223372036854775807 := by omega
  have HCM := Lib.hid (fun g u W => take1_any g u W)
  clear hv
  go_enter Tryz.func90, Tryz.ntmps90
  go_wp2
  go_loopg [8] T.length (fun k s8 wr => ∃ i : Nat, i + k = T.length ∧ s8 = .int .i64 i ∧ (∀ x ∈ T.take i, x.2 = true) ∧ Below w.heap.size w wr)
  case atStart => exact ⟨0, by omega, rfl, by simp, Below.refl _ _⟩
  case round =>
    obtain ⟨i, hik, rfl, hok, hbw⟩ := hrel
    have HIK := Lib.hid hik
    have HOK := Lib.hid hok
    have HBW := Lib.hid hbw
    clear hok hbw hik
    by_cases hlt : i < T.length
    · obtain ⟨g, u, hx⟩ := at_ofT hlt
      obtain ⟨b, off, hao, hbl, q⟩ := HV.out.at hx
      subst hao
      obtain ⟨c0, c1⟩ := at2 (q.below HBW.out hbl)
      simp only [slK_k] at c0 c1
      have HX := Lib.hid hx
      have hi0 : (0 : Int) ≤ (i : Int) := Int.natCast_nonneg _
      have hi1 : (i : Int) < (T.length : Int) := by omega
      have HLT := Lib.hid hlt
      clear hx q hlt
      cases u
      all_goals
        go_wp2_with fail
        go_at_call 91
        refine (HCM.out g _ _).mono ?_
        rintro e w1 ⟨rfl, hcb⟩
        have HB1 := Lib.hid (HBW.out.trans (hcb.mono HBW.out.size))
        clear hcb c0 c1
        go_wp2_with fail
      · go_ret
        exact ⟨_, rfl, .inr ⟨i, g, rfl, HX.out, HOK.out⟩, HB1.out⟩
      · go_roundg (gk - 1)
        case measure => have := HIK.out; have := HLT.out; omega
        case rel => exact ⟨i + 1, by have := HIK.out; have := HLT.out; omega, by go_num, fun x hx => by
          rw [take_succT HX.out] at hx
          rcases List.mem_append.1 hx with hx | hx
          · exact HOK.out x hx
          · simp at hx; subst hx; rfl, HB1.out⟩
    · have hj2 : decide ((i : Int) < (T.length : Int)) = false := decide_eq_false (by omega)
      have HF := Lib.hid (show FreeP T (-1) from .inl ⟨rfl, fun x hx => HOK.out x (by rw [List.take_of_length_le (by omega)]; exact hx)⟩)
      go_wp2_with fail
      go_ret
      exact ⟨_, rfl, HF.out, HBW.out⟩

set_option maxRecDepth 1000000 in
set_option maxHeartbeats 8000000 in
theorem take_no {w : World} {v : Value} {T : List So} (hv : Sl slK w v T) (hn : FreeP T (-1)) :
    Calls Tryz.prog 62 #[v] w fun e w' => e = .returned (.tuple #[v, .int .i64 0, .bool false]) ∧ Below w.heap.size w w' := by
  have HI := Lib.hid (idxS_any hv)
  have HN := Lib.hid hn
  clear hv hn
  go_enter Tryz.func62, Tryz.ntmps62
  go_wp2_with fail
  go_at_call 90
  refine HI.out.mono ?_
  rintro e w1 ⟨z, rfl, hz, hb⟩
  obtain rfl := hz.one HN.out
  have HB := Lib.hid hb
  clear hz hb
  go_wp2_with fail
  go_ret3
  exact ⟨rfl, HB.out⟩

theorem slK_set {T : List So} {j : Nat} {x y : So} (h : T[j]? = some x) : slK.flat (T.set j y) = ((slK.flat T).set (j * 2) (.int .i64 y.1)).set (j * 2 + 1) (.bool y.2) := by
  have e : ∀ (z : So) q, slK.flat (z :: q) = .int .i64 z.1 :: .bool z.2 :: slK.flat q := fun _ _ => rfl
  induction T generalizing j with
  | nil => simp at h
  | cons z r ih =>
    cases j with
    | zero => rfl
    | succ k =>
      rw [List.set_cons_succ, e, e, ih (by simpa using h), show (k + 1) * 2 = k * 2 + 1 + 1 by omega]
      rfl
theorem slK_set1 {T : List So} {j : Nat} {g : Int} {u : Bool} (h : T[j]? = some (g, u)) (u' : Bool) : slK.flat (T.set j (g, u')) = (slK.flat T).set (j * 2 + 1) (.bool u') := by
  rw [slK_set h]
  congr 1
  have h0 := flat_at (S := slK) h 0 (by decide)
  obtain ⟨hl, he⟩ := List.getElem?_eq_some_iff.1 (show (slK.flat T)[j * 2]? = some (.int .i64 g) from h0)
  show (slK.flat T).set (j * 2) (.int .i64 g) = _
  rw [← he, List.set_getElem_self]
theorem own_used {w : World} {base a n cap : Nat} {Ty : TypeId} {T : List So} (h : Own slK w base Ty (.slice (some ⟨a, 0, none⟩) n cap) T) {j : Nat} {g : Int} {u : Bool} (hj : T[j]? = some (g, u)) (u' : Bool) :
    Own slK (w.setCell ⟨a, j * 2 + 1, none⟩ (.bool u')) base Ty (.slice (some ⟨a, 0, none⟩) n cap) (T.set j (g, u')) := by
  have hl := (List.getElem?_eq_some_iff.1 hj).1
  unfold Own
  rw [slK_set1 hj, List.length_set]
  exact row_set h (by show j * 2 + 1 < T.length * 2; omega) _
theorem own_put {w : World} {base a n cap : Nat} {Ty : TypeId} {T : List So} (h : Own slK w base Ty (.slice (some ⟨a, 0, none⟩) n cap) T) {j : Nat} {x : So} (hj : T[j]? = some x) (y : So) :
    Own slK ((w.setCell ⟨a, j * 2, none⟩ (.int .i64 y.1)).setCell ⟨a, j * 2 + 1, none⟩ (.bool y.2)) base Ty (.slice (some ⟨a, 0, none⟩) n cap) (T.set j y) := by
  have hl := (List.getElem?_eq_some_iff.1 hj).1
  unfold Own
  rw [slK_set hj, List.length_set]
  exact row_set (row_set h (by show j * 2 < T.length * 2; omega) _) (by show j * 2 + 1 < T.length * 2; omega) _
theorem own_some {w : World} {base : Nat} {Ty : TypeId} {v : Value} {T : List So} (h : Own slK w base Ty v T) (h0 : 0 < T.length) : ∃ a cap, v = .slice (some ⟨a, 0, none⟩) T.length cap ∧ base ≤ a ∧ a < w.heap.size ∧ T.length ≤ cap ∧ cap ≤ 9223372036854775807 := by
  rcases h.form with ⟨rfl, _⟩ | ⟨a, cap, h1, h2, h3, h4, h5⟩
  · simp at h0
  · exact ⟨a, cap, h1, h2, h3, h4, h5⟩

set_option maxRecDepth 1000000 in
set_option maxHeartbeats 8000000 in
theorem take_yes {w : World} {v : Value} {T : List So} {j : Nat} {g : Int} (hv : Sl slK w v T) (hn : FreeP T j) (hj : T[j]? = some (g, false)) (hl : T.length ≤ 64) (hg : 0 ≤ g ∧ g ≤ 100000) :
    Calls Tryz.prog 62 #[v] w fun e w' => ∃ v', e = .returned (.tuple #[v', .int .i64 ((j : Int) + 64 * g), .bool true]) ∧ Own slK w' w.heap.size 173 v' (T.set j (g, true)) ∧ Below w.heap.size w w' := by
  have HI := Lib.hid (idxS_any hv)
  have HV := Lib.hid hv
  have HN := Lib.hid hn
  have hjl := (List.getElem?_eq_some_iff.1 hj).1
  have HJ := Lib.hid hj
  obtain ⟨ao, cap, rfl, _⟩ := hv.form
  obtain ⟨b, off, rfl, hbl, q⟩ := hv.at hj
  have HQ := Lib.hid q
  have hj0 : (0 : Int) ≤ (j : Int) := Int.natCast_nonneg _
  have hj1 : (j : Int) < (T.length : Int) := by omega
  have hw1 : IntKind.i64.wrap (64 * g) = 64 * g := by rw [IntKind.wrap_i64]; omega
  have hw2 : IntKind.i64.wrap ((j : Int) + 64 * g) = (j : Int) + 64 * g := by rw [IntKind.wrap_i64]; omega
  clear hv hn hj q hg hjl
  go_enter Tryz.func62, Tryz.ntmps62
  go_wp2_with fail
  go_at_call 90
  refine HI.out.mono ?_
  rintro e w1 ⟨z, rfl, hz, hb⟩
  obtain rfl := hz.one HN.out
  have HB := Lib.hid hb
  clear hz hb
  go_wp2_with fail
  go_at_call 92
  refine (cloneT_any (HV.out.below HB.out) (by omega)).mono ?_
  rintro e w2 ⟨v', rfl, ho, hb⟩
  obtain ⟨a, cap', rfl, ha0, ha1, _, _⟩ := own_some ho (by omega)
  have HO := Lib.hid ho
  have hab := Nat.lt_of_lt_of_le hbl HB.out.size
  have hne : b ≠ a := by omega
  have hne' : a ≠ b := by omega
  have HB2 := Lib.hid (HB.out.trans (hb.mono HB.out.size))
  obtain ⟨c0, c1⟩ := at2 (ho.at HJ.out)
  have cf := ho.free (j * 2 + 1)
  obtain ⟨d0, d1⟩ := at2 ((HQ.out.below HB.out hbl).below hb hab)
  simp only [slK_k] at c0 c1 d0 d1
  clear ho hb d1 c0
  go_wp2_with fail
  go_quiet (fail)
  go_wp2_with fail
  go_ret3
  exact ⟨_, rfl, (own_used (HO.out.mono HB.out.size) HJ.out true).draw _, below_drewN (HB2.out.setCell (p := ⟨a, j * 2 + 1, none⟩) (by have := HB.out.size; show w.heap.size ≤ a; omega) _) _⟩
end Go.Proofs.YtdllgeanmlmmfaaGreatDoor.Tb
namespace Go.Proofs.YtdllgeanmlmmfaaGreatDoor.Md
open Go.RowKit Gr
set_option linter.unusedVariables false
set_option linter.unusedSimpArgs false

/-- What is so as long as no block of tag 3 is another one. -/
def Pers (τ : Nat → Nat) (w : World) (F : World → Prop) : Prop := ∀ w' : World, w.heap.size ≤ w'.heap.size → (∀ k, k < w.heap.size → τ k = 3 → w'.heap[k]? = w.heap[k]?) → F w'
/-- What a Model's call does to memory. -/
structure StepM (τ τ' : Nat → Nat) (w w' : World) : Prop where
  bel : Below 0 w w'
  ext : ∀ k, k < w.heap.size → τ' k = τ k
  out : ∀ k, k < w.heap.size → τ k = 0 ∨ τ k = 3 → w'.heap[k]? = w.heap[k]?
section
variable {τ τ' τ'' : Nat → Nat} {w w' w'' : World} {F G : World → Prop}
theorem Pers.out (h : Pers τ w F) : F w := h w (Nat.le_refl _) fun _ _ _ => rfl
theorem Pers.imp (h : Pers τ w F) (hi : ∀ w, F w → G w) : Pers τ w G := fun w' h1 h2 => hi w' (h w' h1 h2)
theorem Pers.pure {p : Prop} (h : p) : Pers τ w (fun _ => p) := fun _ _ _ => h
theorem Pers.size (h : Pers τ w F) (s : StepM τ τ' w w') : Pers τ' w' F := fun w'' hs hk => h w'' (Nat.le_trans s.bel.size hs) fun k hk1 h3 => (hk k (Nat.lt_of_lt_of_le hk1 s.bel.size) ((s.ext k hk1).trans h3)).trans (s.out k hk1 (.inr h3))
theorem StepM.refl (τ : Nat → Nat) (w : World) : StepM τ τ w w := ⟨Below.refl _ _, fun _ _ => rfl, fun _ _ _ => rfl⟩
theorem StepM.trans (h : StepM τ τ' w w') (k : StepM τ' τ'' w' w'') : StepM τ τ'' w w'' :=
  ⟨h.bel.trans k.bel, fun i hi => (k.ext i (Nat.lt_of_lt_of_le hi h.bel.size)).trans (h.ext i hi), fun i hi ht => (k.out i (Nat.lt_of_lt_of_le hi h.bel.size) (by rw [h.ext i hi]; exact ht)).trans (h.out i hi ht)⟩
theorem StepM.below (h : Below w.heap.size w w') : StepM τ τ w w' := ⟨h.mono (Nat.zero_le _), fun _ _ => rfl, fun k hk _ => h.block k hk⟩
theorem StepM.set {g o : Nat} (h0 : τ g ≠ 0) (h3 : τ g ≠ 3) (u : Value) : StepM τ τ w (w.setCell ⟨g, o, none⟩ u) :=
  ⟨(Below.refl _ _).setCell (Nat.zero_le _) _, fun _ _ => rfl, fun k _ ht => heap_setCell_other _ _ _ _ (fun e => by dsimp only at e; subst e; omega)⟩
/-- All blocks that were made meanwhile are never written any more. -/
def cov (τ : Nat → Nat) (n m : Nat) : Nat → Nat := fun k => if k < n then τ k else if k < m then 3 else 0
theorem StepM.cov (h : Below w.heap.size w w') : StepM τ (cov τ w.heap.size w'.heap.size) w w' := ⟨h.mono (Nat.zero_le _), fun k hk => if_pos hk, fun k hk _ => h.block k hk⟩
theorem cov_new {n m k : Nat} (h : n ≤ k) (h' : k < m) : cov τ n m k = 3 := by unfold cov; rw [if_neg (by omega), if_pos h']
theorem cov_tz {n m : Nat} (h : ∀ k, τ k ≠ 0 → k < n) (hn : n ≤ m) : ∀ k, cov τ n m k ≠ 0 → k < m := fun k hk => by
  unfold cov at hk
  by_cases h1 : k < n
  · omega
  · rw [if_neg h1] at hk
    by_cases h2 : k < m
    · exact h2
    · rw [if_neg h2] at hk; exact absurd rfl hk
theorem own_blk {base : Nat} {T : TypeId} {size n : Nat} {v : Value} {xs : List Value} (h : w.ownsRow base T size v n xs) (hs : ∀ g, v.ownBlock = some g → w'.heap[g]? = w.heap[g]?) : w'.ownsRow base T size v n xs := by
  refine ⟨h.1, ?_⟩
  rcases h.2 with h2 | ⟨g, cap, cur, rfl, hb, hg, rest⟩
  · exact .inl h2
  · exact .inr ⟨g, cap, cur, rfl, hb, (hs g rfl).trans hg, rest⟩
theorem own_has {base : Nat} {T : TypeId} {size n : Nat} {v : Value} {xs : List Value} (h : w.ownsRow base T size v n xs) {g : Nat} (hg : v.ownBlock = some g) : base ≤ g ∧ g < w.heap.size := by
  rcases h.2 with ⟨rfl, _⟩ | ⟨g', cap, cur, rfl, hb, hh, rest⟩
  · simp [Value.ownBlock] at hg
  · simp [Value.ownBlock] at hg
    subst hg
    exact ⟨hb, (Array.getElem?_eq_some_iff.1 hh).1⟩
theorem Pers.own {base : Nat} {T : TypeId} {size n : Nat} {v : Value} {xs : List Value} (h : w.ownsRow base T size v n xs) (hb : ∀ g, v.ownBlock = some g → τ g = 3) : Pers τ w (fun w => w.ownsRow base T size v n xs) := fun w' hs hk =>
  own_blk h fun g hg => hk g (own_has h hg).2 (hb g hg)
theorem Pers.mat {base : Nat} {v : Value} {n : Nat} {M : Nat → Nat → Int} (h : Mat w base v n M) (hb : ∀ k, base ≤ k → k < w.heap.size → τ k = 3) : Pers τ w (fun w => Mat w base v n M) := fun w' hs hk => by
  obtain ⟨g, r, e, h⟩ := h
  exact ⟨g, r, e, h.top.of_block (hk _ h.top.lt (hb _ h.lo h.top.lt)), fun i hi => (h.row i hi).of_block (hk _ (h.row i hi).lt (hb _ (h.los i hi) (h.row i hi).lt)), h.inj, h.far, h.lo, h.los⟩
end
/-- A slice, by its three parts. -/
structure Sx where
  a : Option Addr
  n : Nat
  c : Nat
def Sx.val (s : Sx) : Value := .slice s.a s.n s.c
def sx0 : Sx := ⟨none, 0, 0⟩
/-- A thread's cells. -/
structure Tv where
  h : Sx
  b : Sx
  o : Sx
  r : Sx
def thK : Rw.Kd Tv where
  k := 4
  cells t := [t.h.val, t.b.val, t.o.val, t.r.val]
  wf _ := True
  len _ := rfl
  one x u hu := by simp at hu; rcases hu with rfl | rfl | rfl | rfl <;> rfl
theorem thK_k : thK.k = 4 := rfl
/-- A queue of Batches, in blocks of tag t. -/
def QAt (τ : Nat → Nat) (w : World) (t : Nat) (s : Sx) (qs : List (List Batch.Ch)) : Prop := s.n = qs.length ∧ s.n ≤ s.c ∧ s.c ≤ 9223372036854775807 ∧
  ((s.a = none ∧ qs = [] ∧ s.c = 0) ∨ ∃ g off, s.a = some ⟨g, off, none⟩ ∧ τ g = t ∧ g < w.heap.size ∧ (∀ o, w.frozen? ⟨g, o, none⟩ = false) ∧ (∀ j, j < s.c → (w.cell? ⟨g, off + j, none⟩).isSome = true) ∧
    ∀ (j : Nat) (q : List Batch.Ch), qs[j]? = some q → ∃ u : Sx, w.cell? ⟨g, off + j, none⟩ = some u.val ∧ Pers τ w (fun w => Batch.Sl w u.val q))
/-- What a thread holds, and its Batches. -/
structure Th where
  H : List Ed
  B : List Batch.Ch
  off : List (List Batch.Ch)
  ring : List (List Batch.Ch)
/-- What a Model is. -/
structure Ms where
  D : Nat → Nat → Int
  p : Nat
  room : Int
  T : List Tb.So
  th : List Th
  pool : List Batch.Ch
  staged : List Batch.Ch
  folded : List Batch.Ch
  shown : Nat → Int
  cl : Bool
structure ThAt (τ : Nat → Nat) (w : World) (i : Nat) (t : Tv) (x : Th) : Prop where
  hs : Pers τ w (fun w => Sl w t.h.val x.H)
  bs : Pers τ w (fun w => Batch.Sl w t.b.val x.B)
  off : QAt τ w (4 + 2 * i) t.o x.off
  ring : QAt τ w (5 + 2 * i) t.r x.ring
/-- The fronts that are shown. -/
def ShR (w : World) (a : Option Addr) (p : Nat) (F : Nat → Int) : Prop := ∃ g o, a = some ⟨g, o, none⟩ ∧ ∀ j, j < p → w.cell? ⟨g, o + j, none⟩ = some (.int .u64 (F j))
structure MdAt (τ : Nat → Nat) (w : World) (b : Nat) (c : Mc) (tv : List Tv) (s : Ms) : Prop where
  mc : McAt w b c
  tb : τ b = 1
  tz : ∀ k, τ k ≠ 0 → k < w.heap.size
  row : Rw.Own thK w 0 95 (.slice c.th c.n c.cth) tv
  tt : ∀ g, c.th = some g → τ g.block = 2
  nn : c.n = tv.length
  ln : tv.length = s.th.length
  thr : ∀ (i : Nat) t x, tv[i]? = some t → s.th[i]? = some x → ThAt τ w i t x
  paths : Pers τ w (fun w => Mat w 0 c.vp s.p s.D)
  tab : Pers τ w (fun w => Rw.Sl Tb.slK w c.vt s.T)
  pool : Pers τ w (fun w => Batch.Sl w c.pool s.pool)
  staged : Pers τ w (fun w => Batch.Sl w c.staged s.staged)
  folded : Pers τ w (fun w => Batch.Sl w c.folded s.folded)
  pp : c.p = s.p
  shown : Pers τ w (fun w => ShR w c.sh s.p s.shown)
  rm : c.room = s.room
  cl : c.cl = s.cl
section
variable {τ τ' : Nat → Nat} {w w' : World} {b i t : Nat} {c : Mc} {tv : List Tv} {s : Ms} {x : Th} {y : Tv} {q : Sx} {qs : List (List Batch.Ch)}
theorem QAt.step (h : QAt τ w t q qs) (ht : t ≠ 0) (s : StepM τ τ' w w') (hk : ∀ k, k < w.heap.size → τ k = t → w'.heap[k]? = w.heap[k]?) : QAt τ' w' t q qs := by
  obtain ⟨h1, h2, h3, h4⟩ := h
  refine ⟨h1, h2, h3, ?_⟩
  rcases h4 with h4 | ⟨g, off, e, h5, h6, h7, h8, h9⟩
  · exact .inl h4
  · have hb := hk g h6 h5
    exact .inr ⟨g, off, e, (s.ext g h6).trans h5, Nat.lt_of_lt_of_le h6 s.bel.size, fun o => (World.frozen?_of_block (w := w) hb).trans (h7 o), fun j hj => by rw [World.cell?_of_block (w := w) hb]; exact h8 j hj, fun j q hq => by
      obtain ⟨u, hu, hp⟩ := h9 j q hq
      exact ⟨u, (World.cell?_of_block (w := w) hb).trans hu, hp.size s⟩⟩
theorem ThAt.step (h : ThAt τ w i y x) (s : StepM τ τ' w w') (ho : ∀ k, k < w.heap.size → τ k = 4 + 2 * i → w'.heap[k]? = w.heap[k]?) (hr : ∀ k, k < w.heap.size → τ k = 5 + 2 * i → w'.heap[k]? = w.heap[k]?) : ThAt τ' w' i y x :=
  ⟨h.hs.size s, h.bs.size s, h.off.step (by omega) s ho, h.ring.step (by omega) s hr⟩
/-- Nothing of it was written. -/
theorem MdAt.step (h : MdAt τ w b c tv s) (st : StepM τ τ' w w') (hk : ∀ k, k < w.heap.size → τ k ≠ 0 → w'.heap[k]? = w.heap[k]?) (htz : ∀ k, τ' k ≠ 0 → k < w'.heap.size) : MdAt τ' w' b c tv s := by
  have hbl := h.mc.lt
  refine ⟨(hk b hbl (by rw [h.tb]; decide)).trans h.mc, (st.ext b hbl).trans h.tb, htz, own_blk h.row fun g hg => ?_, fun g hg => ?_, h.nn, h.ln, fun i t x h1 h2 => (h.thr i t x h1 h2).step st (fun k hk1 hk2 => hk k hk1 (by omega)) (fun k hk1 hk2 => hk k hk1 (by omega)), h.paths.size st, h.tab.size st, h.pool.size st, h.staged.size st, h.folded.size st, h.pp, h.shown.size st, h.rm, h.cl⟩
  · have hl := (own_has h.row hg).2
    cases hth : c.th with
    | none => rw [hth] at hg; simp [Value.ownBlock] at hg
    | some a =>
      rw [hth] at hg
      simp [Value.ownBlock] at hg
      have := h.tt a hth
      rw [hg] at this
      exact hk g hl (by omega)
  · have hl := (own_has h.row (g := g.block) (by rw [hg]; rfl)).2
    exact (st.ext _ hl).trans (h.tt g hg)
theorem MdAt.below (h : MdAt τ w b c tv s) (hb : Below w.heap.size w w') : MdAt τ w' b c tv s := h.step (StepM.below hb) (fun k hk _ => hb.block k hk) (fun k hk => Nat.lt_of_lt_of_le (h.tz k hk) hb.size)
theorem MdAt.cov (h : MdAt τ w b c tv s) (hb : Below w.heap.size w w') : MdAt (Md.cov τ w.heap.size w'.heap.size) w' b c tv s := h.step (StepM.cov hb) (fun k hk _ => hb.block k hk) (cov_tz h.tz hb.size)
theorem MdAt.sh (h : MdAt τ w b c tv s) : ShR w c.sh c.p s.shown := by rw [h.pp]; exact h.shown.out
end
end Go.Proofs.YtdllgeanmlmmfaaGreatDoor.Md
