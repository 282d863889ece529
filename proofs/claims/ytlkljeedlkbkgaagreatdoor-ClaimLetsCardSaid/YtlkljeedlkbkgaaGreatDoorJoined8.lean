/-
  WHAT PACKAGE stamp's CALLS ANSWER, AND THE DOCUMENT's OWN PACKAGE's: Plus, Reaches: a contract each, for every two or three numbers of 64 bits.
  PACKAGE claim, PLAIN MATHEMATICS: what may be changed by what is held.
  PACKAGE marchlandref04: Fix.
-/
import Derived.Test.YtlkljeedlkbkgaaGreatDoorRows
import Derived.WalkKit
import Derived.WalkLawsBesides
import Derived.WalkSpells
import Derived.Lib.Hide
import Derived.Outline
import Derived.Test.YtlkljeedlkbkgaaGreatDoorClMath
import Derived.Test.YtlkljeedlkbkgaaGreatDoorJoined7
import Derived.Test.YtlkljeedlkbkgaaGreatDoorJoined6
import Derived.Test.YtlkljeedlkbkgaaGreatDoorBatchSums
namespace Go.Proofs.YtlkljeedlkbkgaaGreatDoor.Stamp
open Go.RowKit
set_option linter.unusedVariables false

/-- t and s; the greatest number where there is no such time. -/
def plusF (a b : Int) : Int := if 18446744073709551615 - a ≤ b then 18446744073709551615 else a + b
def reachB (a b c : Int) : Bool := decide (plusF a b ≠ 18446744073709551615 ∧ plusF a b ≤ c)
def U (a : Int) : Prop := 0 ≤ a ∧ a ≤ 18446744073709551615

theorem ret_int {k : IntKind} {a b : Int} (h : a = b) : Ending.returned (.int k a) = .returned (.int k b) := by rw [h]
theorem plusF_U {a b : Int} (ha : U a) (hb : U b) : U (plusF a b) := by unfold U plusF at *; split <;> omega

theorem plus_any (a b : Int) (ha : U a) (hb : U b) (w : World) :
    Calls Tryz.prog 52 #[.int .u64 a, .int .u64 b] w fun e w' => e = .returned (.int .u64 (plusF a b)) ∧ w = w' := by
  obtain ⟨ha1, ha2⟩ := ha
  obtain ⟨hb1, hb2⟩ := hb
  by_cases h : 18446744073709551615 - a ≤ b
  · go_enter Tryz.func52, Tryz.ntmps52
    go_wp2
    go_ret
    exact ⟨ret_int (by unfold plusF; rw [if_pos h]), rfl⟩
  · go_enter Tryz.func52, Tryz.ntmps52
    go_wp2
    go_ret
    exact ⟨ret_int (by unfold plusF; rw [if_neg (by omega)]), rfl⟩

theorem refPlus_any (a b : Int) (ha : U a) (hb : U b) (w : World) :
    Calls Tryz.prog 113 #[.int .u64 a, .int .u64 b] w fun e w' => e = .returned (.int .u64 (plusF a b)) ∧ w = w' := by
  obtain ⟨ha1, ha2⟩ := ha
  obtain ⟨hb1, hb2⟩ := hb
  by_cases h : 18446744073709551615 - a ≤ b
  · go_enter Tryz.func113, Tryz.ntmps113
    go_wp2
    go_ret
    exact ⟨ret_int (by unfold plusF; rw [if_pos h]), rfl⟩
  · go_enter Tryz.func113, Tryz.ntmps113
    go_wp2
    go_ret
    exact ⟨ret_int (by unfold plusF; rw [if_neg (by omega)]), rfl⟩

theorem reaches_any (a b c : Int) (ha : U a) (hb : U b) (hc : U c) (w : World) :
    Calls Tryz.prog 138 #[.int .u64 a, .int .u64 b, .int .u64 c] w fun e w' => e = .returned (.bool (reachB a b c)) ∧ w = w' := by
  have hp := plusF_U ha hb
  obtain ⟨hp1, hp2⟩ := hp
  by_cases h1 : plusF a b = 18446744073709551615
  · have e1 : (plusF a b != 18446744073709551615) = false := by rw [bne_eq_false_iff_eq]; exact h1
    have hr0 : reachB a b c = false := by unfold reachB; exact decide_eq_false (fun h => h.1 h1)
    have hr := Lib.hid hr0
    clear h1 hr0
    go_enter Tryz.func138, Tryz.ntmps138
    go_wp2_with (go_at_call 52; refine (plus_any a b ha hb _).mono ?_; rintro e w' ⟨rfl, rfl⟩)
    go_ret
    exact ⟨by rw [hr.out]; rfl, rfl⟩
  · have e1 : (plusF a b != 18446744073709551615) = true := by rw [bne_iff_ne]; exact h1
    have hr0 : reachB a b c = decide (plusF a b ≤ c) := by unfold reachB; exact decide_eq_decide.2 ⟨fun h => h.2, fun h => ⟨h1, h⟩⟩
    have hr := Lib.hid hr0
    clear h1 hr0
    go_enter Tryz.func138, Tryz.ntmps138
    go_wp2_with (go_at_call 52; refine (plus_any a b ha hb _).mono ?_; rintro e w' ⟨rfl, rfl⟩)
    go_ret
    exact ⟨by rw [hr.out]; rfl, rfl⟩

theorem refReaches_any (a b c : Int) (ha : U a) (hb : U b) (hc : U c) (w : World) :
    Calls Tryz.prog 112 #[.int .u64 a, .int .u64 b, .int .u64 c] w fun e w' => e = .returned (.bool (reachB a b c)) ∧ w = w' := by
  have hp := plusF_U ha hb
  obtain ⟨hp1, hp2⟩ := hp
  by_cases h1 : plusF a b = 18446744073709551615
  · have e1 : (plusF a b != 18446744073709551615) = false := by rw [bne_eq_false_iff_eq]; exact h1
    have hr0 : reachB a b c = false := by unfold reachB; exact decide_eq_false (fun h => h.1 h1)
    have hr := Lib.hid hr0
    clear h1 hr0
    go_enter Tryz.func112, Tryz.ntmps112
    go_wp2_with (go_at_call 113; refine (refPlus_any a b ha hb _).mono ?_; rintro e w' ⟨rfl, rfl⟩)
    go_ret
    exact ⟨by rw [hr.out]; rfl, rfl⟩
  · have e1 : (plusF a b != 18446744073709551615) = true := by rw [bne_iff_ne]; exact h1
    have hr0 : reachB a b c = decide (plusF a b ≤ c) := by unfold reachB; exact decide_eq_decide.2 ⟨fun h => h.2, fun h => ⟨h1, h⟩⟩
    have hr := Lib.hid hr0
    clear h1 hr0
    go_enter Tryz.func112, Tryz.ntmps112
    go_wp2_with (go_at_call 113; refine (refPlus_any a b ha hb _).mono ?_; rintro e w' ⟨rfl, rfl⟩)
    go_ret
    exact ⟨by rw [hr.out]; rfl, rfl⟩

end Go.Proofs.YtlkljeedlkbkgaaGreatDoor.Stamp
namespace Go.Proofs.YtlkljeedlkbkgaaGreatDoor.Cl
open Go.RowKit Gr Batch
set_option linter.unusedVariables false

/-! ### all that is held: few of each -/
/-- What a thread may hold: each count at most 2^50. -/
structure HoldP (B : List Ch) : Prop where
  bag : BagP B
  low : ∀ x ∈ B, x.d ≤ 1125899906842624
theorem tot_hc {H : List Ed} (p t : Int) : 0 ≤ tot (H.map hc) p t ∧ tot (H.map hc) p t ≤ H.length := by
  have h := tot_pos (l := H.map hc) (fun x hx => by obtain ⟨y, _, rfl⟩ := List.mem_map.1 hx; exact (by decide : (0 : Int) ≤ 1)) p t
  have h2 := tot_bound (l := H.map hc) (B := 1) (fun x hx => by obtain ⟨y, _, rfl⟩ := List.mem_map.1 hx; exact (by decide : (-1 : Int) ≤ 1 ∧ (1 : Int) ≤ 1)) (by decide) p t
  rw [List.length_map] at h2
  omega
theorem HoldP.tot {B : List Ch} (h : HoldP B) (p t : Int) : 0 ≤ tot B p t ∧ tot B p t ≤ 1125899906842624 := by
  refine ⟨h.bag.tot0 p t, ?_⟩
  by_cases hk : ∃ x ∈ B, x.p = p ∧ x.t = t
  · obtain ⟨x, hx, hp, ht⟩ := hk
    rw [tot_key h.bag.right.2 hx hp ht]
    exact h.low x hx
  · rw [tot_none fun x hx e => hk ⟨x, hx, e⟩]
    decide
theorem all_tot {H : List Ed} {B : List Ch} (h : HoldP B) (hl : H.length ≤ 100000) (p t : Int) : 0 ≤ tot (B ++ H.map hc) p t ∧ tot (B ++ H.map hc) p t ≤ 1125899907000000 := by
  rw [tot_append]
  have h1 := h.tot p t
  have h2 := tot_hc (H := H) p t
  omega
theorem all_is {H : List Ed} {B : List Ch} (hH : ∀ x ∈ H, x.Wf) (hB : ∀ x ∈ B, x.Wf) : IsTab (allL H B) (B ++ H.map hc) := tab_is (all_wf0 hH hB)
/-- No count is nothing. -/
theorem all_pos {H : List Ed} {B : List Ch} (hH : ∀ x ∈ H, x.Wf) (hB : ∀ x ∈ B, x.Wf) (h : HoldP B) (hl : H.length ≤ 100000) : ∀ z ∈ allL H B, 1 ≤ z.d ∧ z.d ≤ 1125899907000000 ∧ z.d = Batch.tot (B ++ H.map hc) z.p z.t := by
  intro z hz
  obtain ⟨⟨x, hx, hk⟩, hd⟩ := ((all_is hH hB).2 z).1 hz
  have ht := all_tot h hl z.p z.t
  rw [wr_id (by omega) (by omega)] at hd
  refine ⟨?_, by omega, hd⟩
  have hpos : ∀ y ∈ B ++ H.map hc, 0 < y.d := fun y hy => by
    rcases List.mem_append.1 hy with hy | hy
    · exact h.bag.pos y hy
    · obtain ⟨v, _, rfl⟩ := List.mem_map.1 hy; exact (by decide : (0 : Int) < 1)
  have : ∀ l : List Ch, (∀ y ∈ l, 0 < y.d) → x ∈ l → 1 ≤ Batch.tot l z.p z.t := by
    intro l
    induction l with
    | nil => intro _ h; simp at h
    | cons y r ih =>
      intro hp hm
      have hr := tot_pos (l := r) (fun v hv => by have := hp v (by simp [hv]); omega) z.p z.t
      have hy := hp y (by simp)
      rw [show Batch.tot (y :: r) z.p z.t = Batch.tot ([y] ++ r) z.p z.t from rfl, tot_append]
      have h1 : Batch.tot [y] z.p z.t = if y.p = z.p ∧ y.t = z.t then y.d else 0 := by simp [Batch.tot]
      rw [h1]
      rcases List.mem_cons.1 hm with e | e
      · subst e
        rw [if_pos ⟨hk.1, hk.2⟩]
        omega
      · have := ih (fun v hv => hp v (by simp [hv])) e
        split <;> omega
  have := this _ hpos hx
  omega
theorem all_rise {H : List Ed} {B : List Ch} (hH : ∀ x ∈ H, x.Wf) (hB : ∀ x ∈ B, x.Wf) : (allL H B).Pairwise Lt := (all_is hH hB).1
theorem all_wf {H : List Ed} {B : List Ch} (hH : ∀ x ∈ H, x.Wf) (hB : ∀ x ∈ B, x.Wf) : ∀ z ∈ allL H B, z.Wf := tab_wf (all_wf0 hH hB)
theorem all_length {H : List Ed} {B : List Ch} : (allL H B).length ≤ B.length + H.length := by
  have := tab_length (B ++ H.map hc)
  rw [List.length_append, List.length_map] at this
  exact this
theorem hc_fit {x : Ed} {m : Nat} (hm : m ≤ 64) (h : 0 ≤ x.t ∧ x.t < m ∧ x.a ≠ 18446744073709551615) : Fit (hc x) := ⟨h.1, by show x.t < 64; omega, h.2.2⟩
/-- All that is held is a Bag. -/
theorem all_bag {H : List Ed} {B : List Ch} (hH : ∀ x ∈ H, x.Wf) (hB : ∀ x ∈ B, x.Wf) (h : HoldP B) (hl : H.length ≤ 100000) (hf : ∀ x ∈ H, Fit (hc x)) : BagP (allL H B) := by
  refine ⟨⟨fun z hz => ?_, all_rise hH hB⟩, fun z hz => by have := all_pos hH hB h hl z hz; omega⟩
  have hp := all_pos hH hB h hl z hz
  obtain ⟨⟨x, hx, hk⟩, _⟩ := ((all_is hH hB).2 z).1 hz
  have hfit : Fit x := by
    rcases List.mem_append.1 hx with hx | hx
    · exact h.bag.right.fit x hx
    · obtain ⟨y, hy, rfl⟩ := List.mem_map.1 hx; exact hf y hy
  refine ⟨wrong_of_fit (x := z) (by unfold Fit at *; rw [← hk.1, ← hk.2]; exact hfit) (by unfold overB; rw [decide_eq_false_iff_not]; omega), by omega⟩
/-- One more handle: a Batch of one, merged. -/
theorem all_step {H : List Ed} {B : List Ch} (hH : ∀ x ∈ H, x.Wf) (hB : ∀ x ∈ B, x.Wf) (h : HoldP B) {i : Nat} {x : Ed} (hx : H[i]? = some x) (hl : H.length ≤ 100000) :
    sumsE (allL (H.take i) B ++ [hc x]) = 0 ∧ sumsR (allL (H.take i) B ++ [hc x]) = allL (H.take (i + 1)) B := by
  have hHi : ∀ y ∈ H.take i, y.Wf := fun y hy => hH y (List.mem_of_mem_take hy)
  have hHs : ∀ y ∈ H.take (i + 1), y.Wf := fun y hy => hH y (List.mem_of_mem_take hy)
  have hxw := hc_wf (hH x (List.mem_of_getElem? hx))
  have hT := all_is hHi hB
  have hw : ∀ y ∈ allL (H.take i) B ++ [hc x], y.Wf := fun y hy => by
    rcases List.mem_append.1 hy with hy | hy
    · exact all_wf hHi hB y hy
    · simp at hy; subst hy; exact hxw
  have e : B ++ (H.take (i + 1)).map hc = (B ++ (H.take i).map hc) ++ [hc x] := by rw [Gr.take_succ' hx]; simp
  have hl1 : (H.take (i + 1)).length ≤ 100000 := by rw [List.length_take]; omega
  have hl0 : (H.take i).length ≤ 100000 := by rw [List.length_take]; omega
  have htot : ∀ p t, Batch.tot (allL (H.take i) B) p t = Batch.tot (B ++ (H.take i).map hc) p t := fun p t => by
    by_cases hk : ∃ z ∈ allL (H.take i) B, z.p = p ∧ z.t = t
    · obtain ⟨z, hz, rfl, rfl⟩ := hk
      rw [tot_one hT.1 hz]
      exact (all_pos hHi hB h hl0 z hz).2.2
    · rw [tot_none fun z hz e => hk ⟨z, hz, e⟩]
      refine (tot_none fun y hy e => hk ?_).symm
      exact ⟨⟨p, t, wr (Batch.tot (B ++ (H.take i).map hc) p t)⟩, (hT.2 _).2 ⟨⟨y, hy, e.1, e.2⟩, rfl⟩, rfl, rfl⟩
  have htot2 : ∀ p t, Batch.tot (allL (H.take i) B ++ [hc x]) p t = Batch.tot (B ++ (H.take (i + 1)).map hc) p t := fun p t => by
    rw [tot_append, htot, e, tot_append (B ++ (H.take i).map hc)]
  have ho : overK (allL (H.take i) B ++ [hc x]) = false := by
    cases ho : overK (allL (H.take i) B ++ [hc x])
    · rfl
    · obtain ⟨p, t, hpt⟩ := (overK_iff hw).1 ho
      rw [htot2] at hpt
      have := all_tot h hl1 p t
      rw [wr_id (by omega) (by omega)] at hpt
      unfold overB at hpt
      have := of_decide_eq_true hpt
      omega
  refine ⟨(sums_ok ho).1, (sums_ok ho).2.trans ?_⟩
  have hs : IsSum (allL (H.take (i + 1)) B) (B ++ (H.take (i + 1)).map hc) := by
    refine ⟨all_rise hHs hB, fun z => ?_⟩
    rw [(all_is hHs hB).2 z]
    refine ⟨fun hz => ⟨?_, hz.2⟩, fun hz => ⟨?_, hz.2⟩⟩
    · have := all_pos hHs hB h hl1 z (((all_is hHs hB).2 z).2 hz)
      omega
    · cases Classical.em (∃ y ∈ B ++ (H.take (i + 1)).map hc, Key y z) with
      | inl h => exact h
      | inr hn =>
        have := hz.2
        rw [tot_none fun y hy e => hn ⟨y, hy, e.1, e.2⟩, wr_zero] at this
        exact absurd this hz.1
  exact (sumL_is hw).one hs fun p t => by rw [htot2]
theorem all_nil {B : List Ch} (hB : ∀ x ∈ B, x.Wf) (h : BagP B) : allL [] B = B := by
  have e : B ++ ([] : List Ed).map hc = B := by simp
  have ht := all_is (H := []) (by simp) hB
  refine rising_ext ht.1 h.right.2 fun z => ?_
  rw [ht.2, e]
  constructor
  · rintro ⟨⟨x, hx, hk⟩, hd⟩
    have hxw := hB x hx
    rw [← hk.1, ← hk.2, tot_one h.right.2 hx, wr_id hxw.d0 hxw.d1] at hd
    obtain ⟨a, b, c⟩ := z
    obtain ⟨a', b', c'⟩ := x
    obtain ⟨h1, h2⟩ := hk
    simp only at h1 h2 hd
    subst h1 h2 hd
    exact hx
  · intro hz
    have hzw := hB z hz
    exact ⟨⟨z, hz, Key.refl z⟩, by rw [tot_one h.right.2 hz, wr_id hzw.d0 hzw.d1]⟩

/-! ### what lets a stamp be -/
/-- x, that is held, comes to be c. -/
def letB (M : Nat → Nat → Int) (m : Nat) (c x : Ch) : Bool := decide (0 ≤ x.p ∧ x.p < m ∧ Stamp.reachB x.t (M x.p.toNat c.p.toNat) c.t = true)
def letsB (M : Nat → Nat → Int) (m : Nat) (all : List Ch) (c : Ch) : Bool := all.any (letB M m c)
theorem letsB_iff {M : Nat → Nat → Int} {m : Nat} {all : List Ch} {c : Ch} : letsB M m all c = true ↔ ∃ x ∈ all, letB M m c x = true := List.any_eq_true
theorem letsB_same {M M' : Nat → Nat → Int} {m : Nat} {all : List Ch} {c : Ch} (hc : c.p.toNat < m) (h : ∀ i j, i < m → j < m → M i j = M' i j) : letsB M m all c = letsB M' m all c := by
  unfold letsB
  congr 1
  funext x
  unfold letB
  by_cases hx : 0 ≤ x.p ∧ x.p < m
  · rw [h x.p.toNat c.p.toNat (by omega) hc]
  · rw [decide_eq_false (fun e => hx ⟨e.1, e.2.1⟩), decide_eq_false (fun e => hx ⟨e.1, e.2.1⟩)]
/-- What is wrong with a Change of stamps. -/
def upE (B all : List Ch) (M : Nat → Nat → Int) (m : Nat) (c : Ch) : Int :=
  if (m : Int) ≤ c.p then 2 else if 0 < c.d ∧ letsB M m all c = false ∨ tot B c.p c.t + c.d < 0 then 5 else if 1125899906842624 < tot B c.p c.t + c.d then 10 else 0
theorem upE_same {B all : List Ch} {M M' : Nat → Nat → Int} {m : Nat} {c : Ch} (h0 : 0 ≤ c.p) (h : ∀ i j, i < m → j < m → M i j = M' i j) : upE B all M m c = upE B all M' m c := by
  unfold upE
  by_cases hc : (m : Int) ≤ c.p
  · rw [if_pos hc, if_pos hc]
  · rw [letsB_same (by omega) h]
end Go.Proofs.YtlkljeedlkbkgaaGreatDoor.Cl
namespace Go.Proofs.YtlkljeedlkbkgaaGreatDoor.Batch
open Go.RowKit Go.Lib
set_option linter.unusedVariables false

theorem fixB_wrap (p t d : Int) : fixB ⟨p, t, d⟩ = ⟨p, t, wrap64 (1 + wrap64 ((IntKind.u64.wrap d).tmod 5))⟩ := by
  have h := fixB_d ⟨p, t, d⟩
  rw [fixB_mk] at *
  simp only at h
  rw [wrap64_wr, wrap64_wr, ← wr_i64 ((IntKind.u64.wrap d).tmod 5), wr_id (by omega) (by omega)]

set_option maxRecDepth 1000000 in
set_option maxHeartbeats 4000000 in
theorem bagfix_any {w : World} {v : Value} {l : List Ch} (hv : Rd w v l) :
    Calls Tryz.prog 23 #[v] w fun e w' => ∃ v', e = .returned v' ∧ Own w' w.heap.size 67 v' (bagFixL l) ∧ Below w.heap.size w w' := by
  have hwf := hv.wf
  obtain ⟨ao, cap, rfl, hlc, hcm, _, hcell⟩ := hv
  obtain ⟨i0, hi, hz0, hz1, hz2⟩ := info_parts infoRf2
  have HC := Lib.hid hcell
  have HWF := Lib.hid hwf
  have hlen : l.length ≤ 9223372036854775807 := by omega
  clear hwf hcell hlc hcm
  go_enter Tryz.func23, Tryz.ntmps23
  go_wp2
  go_loopg [3, 4] 13 (fun k o t wr => ∃ i : Nat, i + k = 13 ∧ i ≤ 12 ∧ i ≤ l.length ∧ t = .int .i64 i ∧ wr.ownsRow w.heap.size 67 3 o i (cellsL ((l.take i).map fixB)) ∧ Below w.heap.size w wr)
  case atStart => exact ⟨0, by omega, by omega, by omega, rfl, World.ownsRow_nil _ _ _ _, Below.refl _ _⟩
  case round =>
    obtain ⟨i, hik, hi12, hil, rfl, hown, hbw⟩ := hrel
    have HIK := Lib.hid hik
    clear hik
    by_cases hend : i < l.length ∧ i < 12
    · obtain ⟨hlt1, hlt2⟩ := hend
      obtain ⟨x, hx, hxm⟩ := at_of hlt1
      have hne : l ≠ [] := by intro e; rw [e] at hlt1; simp at hlt1
      obtain ⟨b, off, hao, hcc⟩ := HC.out.resolve_left hne
      have q := hcc i x hx
      have hbl := q.lt
      obtain ⟨c0, c1, c2⟩ := q.below hbw hbl
      have hxw := HWF.out x hxm
      obtain ⟨p, t, d⟩ := x
      simp only at c0 c1 c2
      have HX := Lib.hid hx
      have HI := Lib.hid hlt1
      have HI2 := Lib.hid hlt2
      subst hao
      have HBL := Lib.hid (show b < w.heap.size from hbl)
      have HFX := Lib.hid (fixB_wrap p t d)
      clear hx hxm hne hcc q hbl HC hxw
      have hbase : w.heap.size ≤ wr.heap.size := hbw.size
      have hi0' : (0 : Int) ≤ (i : Int) := Int.natCast_nonneg _
      have hi1 : (i : Int) < (l.length : Int) := by omega
      have hi3 : (i : Int) < 12 := by omega
      have hbl2 : b < wr.heap.size := by have := HBL.out; omega
      go_wp2_with (at_builtin; refine wpList_append_own _ rfl _ _ 27 rfl w.heap.size 67 i0 (.agg #[.int .i64 0, .int .u64 0, .int .i64 0]) 3 24 Tryz.underlying27 hi hz0 hz1 hz2 rfl (by decide) _ _ _ rfl (World.ownsRow.alloc (World.ownsRow.alloc hown _) _) ⟨wr.heap.size + 1, 0, none⟩ 1 1 [.int .i64 p, .int .u64 t, .int .i64 (wrap64 (1 + wrap64 ((IntKind.u64.wrap d).tmod 5)))] rfl rfl (by simpa using news3' (wr.alloc (.cells #[.int .i64 p, .int .u64 t, .int .i64 (wrap64 (1 + wrap64 ((IntKind.u64.wrap d).tmod 5)))] 67)) p t (wrap64 (1 + wrap64 ((IntKind.u64.wrap d).tmod 5))) 67) ?c2 ?c3 ?c4 ?c5 ?_)
      case c2 => intro u hu; simp at hu; rcases hu with rfl | rfl | rfl <;> rfl
      case c3 => unfold maxLen; omega
      case c4 => omega
      case c5 => simp; omega
      intro v2 w2 hown1 hgrow _
      have hb1 : Below w.heap.size w w2 := ((hbw.alloc hbase _).alloc (by simp; omega) _).grown hgrow (by simp; omega) (fun k e => (hown.lt k e).1)
      have HO := Lib.hid hown1
      have HB1 := Lib.hid hb1
      clear hown hown1 hgrow hbw hb1 c0 c1 c2
      go_wp2
      go_roundg (gk - 1)
      case measure => have := HIK.out; have := HI2.out; omega
      case rel =>
        refine ⟨i + 1, by have := HIK.out; have := HI2.out; omega, by have := HI2.out; omega, by have := HI.out; omega, by go_num, ?_, HB1.out⟩
        have e1 : l.take (i + 1) = l.take i ++ [⟨p, t, d⟩] := by rw [List.take_add_one, HX.out]; rfl
        rw [e1, List.map_append, List.map_singleton, cellsL_snoc, HFX.out, List.map_take]
        exact HO.out
    · have hin : l.take i = l.take 12 := by
        by_cases h : i < l.length
        · obtain rfl : i = 12 := by omega
          rfl
        · rw [take_all (by omega), take_all (by omega)]
      have hown2 : Own wr w.heap.size 67 u3 ((l.take 12).map fixB) := by
        unfold Own
        rw [← hin, List.length_map, List.length_take, show min i l.length = i by omega]
        exact hown
      have hwf2 : ∀ x ∈ (l.take 12).map fixB, x.Wf := bagFix_wf HWF.out
      have HFL := Lib.hid (show bagFixL l = fixL ((l.take 12).map fixB) from rfl)
      generalize (l.take 12).map fixB = L at hown2 hwf2 HFL
      have HS := Lib.hid (fix_any (hown2.rd hwf2))
      have HB := Lib.hid hbw
      have hbs : w.heap.size ≤ wr.heap.size := hbw.size
      obtain ⟨ao3, cap3, rfl, _⟩ := hown2.form'
      by_cases hlt : i < l.length
      case' pos =>
        have hj0 : (i : Int) < (l.length : Int) := by omega
        have hj1 : ¬ ((i : Int) < 12) := by omega
      case' neg => have hj0 : ¬ ((i : Int) < (l.length : Int)) := by omega
      all_goals
        clear hown2 hwf2 hown hin hend hbw hlt
        go_wp2_with fail
        go_at_call 60
        refine HS.out.mono ?_
        rintro e w1 ⟨v1, rfl, hown1, hb1⟩
        have HO := Lib.hid (hown1.mono hbs)
        have HB1 := Lib.hid (HB.out.trans (hb1.mono hbs))
        clear hown1 hb1
        go_wp2_with fail
        go_ret
        exact ⟨_, rfl, by rw [HFL.out]; exact HO.out, HB1.out⟩
end Go.Proofs.YtlkljeedlkbkgaaGreatDoor.Batch
