/-
  PACKAGE marchlandref03, PLAIN MATHEMATICS: each Change is put where it belongs, as the document's answer does it: looked for, else laid at the end and moved ahead.
  PACKAGE marchlandref03: within, before.
  PACKAGE marchlandref03: sums.
  DERIVED: THE SHELF's CONTRACTS AT THIS DUMP, IN PLAIN WORDS (tools/lay-plain.mjs out of 'TryzShelfS.lean', which tools/lay-shelf.mjs wrote): THE SAME DECLARATIONS UNDER THE SAME NAMES: 'import', 'namespace', 'open', 'def', 'theorem' AND NOTHING ELSE: no command of the shelf's: FOR A HAND-IN. Each laying: the table of numbers ('.._ren') and one theorem, a field a fact of the dump's own or the kernel's comparison; each contract: ONE APPLICATION.
-/
import Derived.Test.YtdllgeanmlmmfaaGreatDoorJoined4
import Derived.Test.YtdllgeanmlmmfaaGreatDoorJoined2
import Derived.Deep.LoopGhost
import Derived.Deep.QuietTactic
import Derived.BigQuiet
import Derived.BigRegion
import Derived.OwnWalk
import Derived.IntWalk
import Derived.Outline
import Derived.Shelf.SlSortCmp.WholeK
import Derived.Shelf.SlSortCmp.NoneTotal
import Derived.Shelf.SlSortCmp.Whole1
import Derived.Test.YtdllgeanmlmmfaaGreatDoorProg
namespace Go.Proofs.YtdllgeanmlmmfaaGreatDoor.Batch
set_option linter.unusedVariables false

theorem add_found {l : List Ch} {x y : Ch} (h : l.Pairwise Lt) {j : Nat} (hy : l[j]? = some y) (hk : Key y x) : add x l = l.set j ⟨y.p, y.t, wr (y.d + x.d)⟩ := by
  induction l generalizing j with
  | nil => simp at hy
  | cons z r ih =>
    rw [List.pairwise_cons] at h
    unfold add
    cases j with
    | zero =>
      simp at hy
      subst hy
      rw [if_neg (fun hl => hl.not_key' hk), if_pos hk.symm]
      rfl
    | succ k =>
      have hyr : r[k]? = some y := by simpa using hy
      have hzx : Lt z x := (h.1 y (List.mem_of_getElem? hyr)).key_right hk
      rw [if_neg hzx.asymm, if_neg hzx.not_key', ih h.2 hyr]
      rfl
theorem add_insert {l : List Ch} {x : Ch} {k : Nat} (hk : k ≤ l.length) (hd : ∀ y ∈ l.drop k, Lt x y) (ht : ∀ y ∈ l.take k, Lt y x) : add x l = l.take k ++ x :: l.drop k := by
  induction l generalizing k with
  | nil => simp at hk; subst hk; rfl
  | cons z r ih =>
    cases k with
    | zero =>
      have := hd z (by simp)
      unfold add
      rw [if_pos this]
      rfl
    | succ m =>
      have hz := ht z (by simp)
      unfold add
      rw [if_neg hz.asymm, if_neg hz.not_key', ih (by simpa using hk) (fun y hy => hd y (by simpa using hy)) (fun y hy => ht y (by simp [hy]))]
      rfl

/-- Looked for up to k. -/
def Sch (A : List Ch) (x : Ch) (k : Nat) (f : Int) : Prop := (f = -1 ∧ ∀ (j : Nat) (y : Ch), j < k → A[j]? = some y → ¬ Key y x) ∨ (∃ (j : Nat) (y : Ch), j < k ∧ f = j ∧ A[j]? = some y ∧ Key y x)
theorem Sch.start (A : List Ch) (x : Ch) : Sch A x 0 (-1) := .inl ⟨rfl, fun j y h => by omega⟩
theorem Sch.hit {A : List Ch} {x y : Ch} {k : Nat} {f : Int} (h : Sch A x k f) (hy : A[k]? = some y) (hk : Key y x) : Sch A x (k + 1) (k : Int) := .inr ⟨k, y, by omega, rfl, hy, hk⟩
theorem Sch.miss {A : List Ch} {x y : Ch} {k : Nat} {f : Int} (h : Sch A x k f) (hy : A[k]? = some y) (hk : ¬ Key y x) : Sch A x (k + 1) f := by
  rcases h with ⟨e, h⟩ | ⟨j, z, hj, e, hz, hzx⟩
  · refine .inl ⟨e, fun j z hj hz => ?_⟩
    by_cases hjk : j = k
    · subst hjk
      rw [hy] at hz
      obtain rfl := Option.some.inj hz
      exact hk
    · exact h j z (by omega) hz
  · exact .inr ⟨j, z, by omega, e, hz, hzx⟩
theorem Sch.end {A : List Ch} {x : Ch} {k : Nat} {f : Int} (h : Sch A x k f) (hk : A.length ≤ k) : (f = -1 ∧ ∀ y ∈ A, ¬ Key y x) ∨ (∃ (j : Nat) (y : Ch), j < A.length ∧ f = j ∧ A[j]? = some y ∧ Key y x) := by
  rcases h with ⟨e, h⟩ | ⟨j, z, hj, e, hz, hzx⟩
  · refine .inl ⟨e, fun y hy => ?_⟩
    obtain ⟨j, hj⟩ := List.mem_iff_getElem?.1 hy
    exact h j y (by have := (List.getElem?_eq_some_iff.1 hj).1; omega) hj
  · exact .inr ⟨j, z, (List.getElem?_eq_some_iff.1 hz).1, e, hz, hzx⟩

/-- Moved ahead down to k. -/
def Ins (A : List Ch) (x : Ch) (k : Nat) (L : List Ch) : Prop := L = A.take k ++ x :: A.drop k ∧ k ≤ A.length ∧ ∀ y ∈ A.drop k, Lt x y
theorem Ins.start (A : List Ch) (x : Ch) : Ins A x A.length (A ++ [x]) := ⟨by rw [List.take_length, List.drop_length], Nat.le_refl _, fun y hy => by simp at hy⟩
theorem Ins.len {A : List Ch} {x : Ch} {k : Nat} {L : List Ch} (h : Ins A x k L) : L.length = A.length + 1 := by
  obtain ⟨rfl, hk, _⟩ := h
  simp
  omega
theorem Ins.here {A : List Ch} {x : Ch} {k : Nat} {L : List Ch} (h : Ins A x k L) : L[k]? = some x := by
  obtain ⟨rfl, hk, _⟩ := h
  rw [List.getElem?_append_right (by simp; omega), List.length_take, show k - min k A.length = 0 by omega]
  rfl
theorem Ins.ahead {A : List Ch} {x : Ch} {m : Nat} {L : List Ch} (h : Ins A x (m + 1) L) : ∃ y, A[m]? = some y ∧ L[m]? = some y := by
  obtain ⟨rfl, hk, _⟩ := h
  have hm : m < A.length := by omega
  refine ⟨A[m], List.getElem?_eq_getElem hm, ?_⟩
  rw [List.getElem?_append_left (by simp; omega), List.getElem?_take_of_lt (by omega)]
  exact List.getElem?_eq_getElem hm
theorem Ins.swap {A : List Ch} {x y : Ch} {m : Nat} {L : List Ch} (h : Ins A x (m + 1) L) (hy : A[m]? = some y) (hl : Lt x y) : Ins A x m ((L.set m x).set (m + 1) y) := by
  obtain ⟨rfl, hk, hd⟩ := h
  have hm : m < A.length := by omega
  have e1 : A.take (m + 1) = A.take m ++ [y] := take_succ' hy
  have e2 : A.drop m = y :: A.drop (m + 1) := by
    rw [List.drop_eq_getElem_cons hm]
    rw [List.getElem?_eq_getElem hm] at hy
    rw [Option.some.inj hy]
  refine ⟨?_, by omega, fun z hz => ?_⟩
  · rw [e1, e2, List.append_assoc, List.set_append_right _ _ (by simp; omega)]
    simp only [List.length_take, show m - min m A.length = 0 by omega, List.singleton_append, List.set_cons_zero]
    rw [List.set_append_right _ _ (by simp; omega)]
    simp only [List.length_take, show m + 1 - min m A.length = 1 by omega, List.set_cons_succ, List.set_cons_zero]
  · rw [e2] at hz
    rcases List.mem_cons.1 hz with rfl | hz
    · exact hl
    · exact hd z hz
theorem Ins.done0 {A : List Ch} {x : Ch} {L : List Ch} (h : Ins A x 0 L) : L = add x A := by
  obtain ⟨rfl, hk, hd⟩ := h
  exact (add_insert hk hd (fun y hy => by simp at hy)).symm
theorem Ins.done {A : List Ch} {x y : Ch} {m : Nat} {L : List Ch} (hr : A.Pairwise Lt) (hno : ∀ y ∈ A, ¬ Key y x) (h : Ins A x (m + 1) L) (hy : A[m]? = some y) (hl : ¬ Lt x y) : L = add x A := by
  obtain ⟨rfl, hk, hd⟩ := h
  refine (add_insert hk hd (fun z hz => ?_)).symm
  have hyx : Lt y x := (three x y).elim (fun h => absurd h hl) fun h => h.elim (fun h => absurd h.symm (hno y (List.mem_of_getElem? hy))) id
  rw [take_succ' hy] at hz
  rcases List.mem_append.1 hz with hz | hz
  · obtain ⟨j, hj, hzj⟩ := mem_take hz
    obtain ⟨h1, e1⟩ := List.getElem?_eq_some_iff.1 hzj
    obtain ⟨h2, e2⟩ := List.getElem?_eq_some_iff.1 hy
    have := (List.pairwise_iff_getElem.1 hr) j m h1 h2 hj
    rw [e1, e2] at this
    exact this.trans hyx
  · simp at hz
    subst hz
    exact hyx

theorem tab_take {l : List Ch} {i : Nat} {x : Ch} (h : l[i]? = some x) : tab (l.take (i + 1)) = add x (tab (l.take i)) := by rw [take_succ' h, tab_snoc]
theorem tab_rising (l : List Ch) : (tab l).Pairwise Lt := by
  have go : ∀ (r a : List Ch), a.Pairwise Lt → (r.foldl (fun a x => add x a) a).Pairwise Lt := by
    intro r
    induction r with
    | nil => intro a h; exact h
    | cons x r ih => intro a h; exact ih _ (add_rising h)
  exact go l [] List.Pairwise.nil
theorem add_wf {x : Ch} {l : List Ch} (h : ∀ y ∈ l, y.Wf) (hx : x.Wf) : ∀ y ∈ add x l, y.Wf := by
  induction l with
  | nil => intro y hy; simp [add] at hy; subst hy; exact hx
  | cons z r ih =>
    have hz := h z (by simp)
    have hr := fun y hy => h y (List.mem_cons_of_mem z hy)
    intro y hy
    unfold add at hy
    split at hy
    · rcases List.mem_cons.1 hy with rfl | hy
      · exact hx
      · exact h y hy
    · split at hy
      · rcases List.mem_cons.1 hy with rfl | hy
        · exact ⟨hz.p0, hz.p1, hz.t0, hz.t1, (wr_range _).1, (wr_range _).2⟩
        · exact hr y hy
      · rcases List.mem_cons.1 hy with rfl | hy
        · exact hz
        · exact ih hr y hy
theorem tab_wf {l : List Ch} (h : ∀ x ∈ l, x.Wf) : ∀ y ∈ tab l, y.Wf := by
  have go : ∀ (r a : List Ch), (∀ x ∈ r, x.Wf) → (∀ x ∈ a, x.Wf) → ∀ y ∈ r.foldl (fun a x => add x a) a, y.Wf := by
    intro r
    induction r with
    | nil => intro a _ h; exact h
    | cons x r ih => intro a hr ha; exact ih _ (fun y hy => hr y (by simp [hy])) (add_wf ha (hr x (by simp)))
  exact go l [] h (by simp)

/-- What is kept of the first i of T. -/
def Kept (T : List Ch) (i : Nat) (O : List Ch) : Prop := O = (T.take i).filter nzB ∧ ∀ y ∈ T.take i, overB y.d = false
theorem Kept.start (T : List Ch) : Kept T 0 [] := ⟨by simp, by simp⟩
theorem Kept.len {T O : List Ch} {i : Nat} (h : Kept T i O) : O.length ≤ i := by
  rw [h.1]
  exact Nat.le_trans (List.length_filter_le _ _) (by rw [List.length_take]; omega)
theorem Kept.step {T O : List Ch} {i : Nat} {x : Ch} (h : Kept T i O) (hx : T[i]? = some x) (ho : overB x.d = false) (h0 : x.d ≠ 0) : Kept T (i + 1) (O ++ [x]) := by
  refine ⟨?_, fun y hy => ?_⟩
  · rw [take_succ' hx, List.filter_append, ← h.1]
    rw [List.filter_cons, if_pos (show nzB x = true from decide_eq_true h0)]
    rfl
  · rw [take_succ' hx] at hy
    rcases List.mem_append.1 hy with hy | hy
    · exact h.2 y hy
    · simp at hy; subst hy; exact ho
theorem Kept.skip {T O : List Ch} {i : Nat} {x : Ch} (h : Kept T i O) (hx : T[i]? = some x) (h0 : x.d = 0) : Kept T (i + 1) O := by
  refine ⟨?_, fun y hy => ?_⟩
  · rw [take_succ' hx, List.filter_append, ← h.1, List.filter_cons, if_neg (by unfold nzB; simp [h0])]
    simp
  · rw [take_succ' hx] at hy
    rcases List.mem_append.1 hy with hy | hy
    · exact h.2 y hy
    · simp at hy; subst hy; rw [h0]; rfl
theorem Kept.end {l O : List Ch} {i : Nat} (h : Kept (tab l) i O) (hi : (tab l).length ≤ i) : O = sumL l ∧ overK l = false := by
  obtain ⟨h1, h2⟩ := h
  rw [take_all hi] at h1 h2
  refine ⟨h1, ?_⟩
  unfold overK
  cases e : (tab l).any fun x => overB x.d
  · rfl
  · obtain ⟨x, hx, ho⟩ := List.any_eq_true.1 e
    rw [h2 x hx] at ho
    exact absurd ho (by decide)
theorem over_at {l : List Ch} {i : Nat} {x : Ch} (hx : (tab l)[i]? = some x) (ho : overB x.d = true) : overK l = true := by
  unfold overK
  rw [List.any_eq_true]
  exact ⟨x, List.mem_of_getElem? hx, ho⟩
end Go.Proofs.YtdllgeanmlmmfaaGreatDoor.Batch
namespace Go.Proofs.YtdllgeanmlmmfaaGreatDoor.Batch
open Go.RowKit
set_option linter.unusedVariables false

def ltB (x y : Ch) : Bool := decide (Lt x y)
theorem ltB_true {x y : Ch} (h : Lt x y) : ltB x y = true := decide_eq_true h
theorem ltB_false {x y : Ch} (h : ¬ Lt x y) : ltB x y = false := decide_eq_false h
end Go.Proofs.YtdllgeanmlmmfaaGreatDoor.Batch
namespace Go.Proofs.YtdllgeanmlmmfaaGreatDoor.Batch
open Go.RowKit Go.Sort
set_option linter.unusedVariables false

theorem Own.form' {w : World} {base : Nat} {T : TypeId} {v : Value} {l : List Ch} (h : Own w base T v l) : ∃ (ao : Option Addr) (cap : Nat), v = .slice ao l.length cap ∧ (l = [] ∨ ∃ g, ao = some ⟨g, 0, none⟩ ∧ base ≤ g ∧ g < w.heap.size) := by
  rcases h.form with ⟨rfl, rfl⟩ | ⟨g, cap, rfl, h1, h2, _⟩
  · exact ⟨none, 0, rfl, .inl rfl⟩
  · exact ⟨_, cap, rfl, .inr ⟨g, rfl, h1, h2⟩⟩
theorem Own.drew1 {w : World} {base : Nat} {T : TypeId} {v : Value} {l : List Ch} (h : Own w base T v l) : Own w.drew base T v l := h
theorem wrap64_wr' (n : Int) : wrap64 n = Batch.wr n := by unfold wrap64 Batch.wr; rfl
theorem ret_b {v : Value} {a b : Bool} (h : a = b) : Ending.returned (.tuple #[v, .bool a]) = Ending.returned (.tuple #[v, .bool b]) := by rw [h]
theorem news3' (W : World) (p t d : Int) (T : TypeId) : ∀ j u, ([Value.int .i64 p, .int .u64 t, .int .i64 d])[j]? = some u → (W.alloc (.cells #[.int .i64 p, .int .u64 t, .int .i64 d] T)).cell? ((⟨W.heap.size, 0, none⟩ : Addr).add j) = some u := by
  intro j u hj
  match j, hj with
  | 0, hj => simp at hj; subst hj; simp [Addr.add]
  | 1, hj => simp at hj; subst hj; simp [Addr.add]
  | 2, hj => simp at hj; subst hj; simp [Addr.add]

end Go.Proofs.YtdllgeanmlmmfaaGreatDoor.Batch
namespace Go.Proofs
open Go.Shelf
def Tryz.sortCh_ren : Go.Shelf.Ren := ⟨fun | 6 => 131 | 15 => 111 | 14 => 110 | 28 => 141 | 29 => 142 | 20 => 133 | 21 => 134 | 22 => 135 | 23 => 136 | 24 => 137 | 25 => 138 | 26 => 139 | 27 => 140 | 46 => 157 | 47 => 158 | 48 => 159 | 49 => 160 | 50 => 161 | 57 => 176 | n => n, fun | 22 => 51 | 24 => 103 | 25 => 159 | 3 => 3 | 39 => 207 | 0 => 0 | 53 => 236 | 55 => 50 | 4 => 4 | 46 => 230 | 45 => 229 | 50 => 195 | 5 => 5 | 9 => 9 | 66 => 253 | 70 => 257 | 76 => 268 | 77 => 269 | n => n, fun | n => n⟩
theorem Tryz.sortCh : Go.Proofs.SlLaysF0.n6 Tryz.prog Tryz.sortCh_ren := {
  mixed := by kernel_rfl
  f6 := ⟨Tryz.f131.name, by decide, Tryz.func131.trans (congrArg some (by kernel_rfl))⟩
  f14 := ⟨Tryz.f110.name, by decide, Tryz.func110.trans (congrArg some (by kernel_rfl))⟩
  f15 := Tryz.func111.trans (congrArg some (by kernel_rfl))
  f20 := ⟨Tryz.f133.name, by decide, Tryz.func133.trans (congrArg some (by kernel_rfl))⟩
  f21 := ⟨Tryz.f134.name, by decide, Tryz.func134.trans (congrArg some (by kernel_rfl))⟩
  f22 := ⟨Tryz.f135.name, by decide, Tryz.func135.trans (congrArg some (by kernel_rfl))⟩
  f23 := ⟨Tryz.f136.name, by decide, Tryz.func136.trans (congrArg some (by kernel_rfl))⟩
  f24 := ⟨Tryz.f137.name, by decide, Tryz.func137.trans (congrArg some (by kernel_rfl))⟩
  f25 := ⟨Tryz.f138.name, by decide, Tryz.func138.trans (congrArg some (by kernel_rfl))⟩
  f26 := ⟨Tryz.f139.name, by decide, Tryz.func139.trans (congrArg some (by kernel_rfl))⟩
  f27 := ⟨Tryz.f140.name, by decide, Tryz.func140.trans (congrArg some (by kernel_rfl))⟩
  f28 := Tryz.func141.trans (congrArg some (by kernel_rfl))
  f29 := Tryz.func142.trans (congrArg some (by kernel_rfl))
  f46 := ⟨Tryz.f157.name, by decide, Tryz.func157.trans (congrArg some (by kernel_rfl))⟩
  f47 := Tryz.func158.trans (congrArg some (by kernel_rfl))
  f48 := Tryz.func159.trans (congrArg some (by kernel_rfl))
  f49 := ⟨Tryz.f160.name, by decide, Tryz.func160.trans (congrArg some (by kernel_rfl))⟩
  f50 := ⟨Tryz.f161.name, by decide, Tryz.func161.trans (congrArg some (by kernel_rfl))⟩
  f57 := ⟨Tryz.f176.name, by decide, Tryz.func176.trans (congrArg some (by kernel_rfl))⟩
  t0 := Tryz.underlying0
  a0 := Tryz.isAgg0
  z0 := Tryz.sizeOf0
  v0 := Tryz.zeroValue0
  t3 := Tryz.underlying3
  a3 := Tryz.isAgg3
  z3 := Tryz.sizeOf3
  v3 := Tryz.zeroValue3
  t4 := Tryz.underlying4
  a4 := Tryz.isAgg4
  z4 := Tryz.sizeOf4
  v4 := Tryz.zeroValue4
  t5 := Tryz.underlying5
  a5 := Tryz.isAgg5
  z5 := Tryz.sizeOf5
  v5 := Tryz.zeroValue5
  t9 := Tryz.underlying9
  a9 := Tryz.isAgg9
  z9 := Tryz.sizeOf9
  v9 := Tryz.zeroValue9
  t22 := Tryz.underlying51
  a22 := Tryz.isAgg51
  z22 := Tryz.sizeOf51
  v22 := Tryz.zeroValue51
  t25 := Tryz.underlying159
  a25 := Tryz.isAgg159
  z25 := Tryz.sizeOf159
  v25 := Tryz.zeroValue159
  t39 := Tryz.underlying207
  a39 := Tryz.isAgg207
  z39 := Tryz.sizeOf207
  v39 := Tryz.zeroValue207
  t45 := Tryz.underlying229
  a45 := Tryz.isAgg229
  z45 := Tryz.sizeOf229
  v45 := Tryz.zeroValue229
  t46 := Tryz.underlying230
  a46 := Tryz.isAgg230
  z46 := Tryz.sizeOf230
  v46 := Tryz.zeroValue230
  t50 := Tryz.underlying195
  a50 := Tryz.isAgg195
  z50 := Tryz.sizeOf195
  v50 := Tryz.zeroValue195
  t53 := Tryz.underlying236
  a53 := Tryz.isAgg236
  z53 := Tryz.sizeOf236
  v53 := Tryz.zeroValue236
  t55 := Tryz.underlying50
  a55 := Tryz.isAgg50
  z55 := Tryz.sizeOf50
  v55 := Tryz.zeroValue50
  t66 := Tryz.underlying253
  a66 := Tryz.isAgg253
  z66 := Tryz.sizeOf253
  v66 := Tryz.zeroValue253
  t70 := Tryz.underlying257
  a70 := Tryz.isAgg257
  z70 := Tryz.sizeOf257
  v70 := Tryz.zeroValue257
  t76 := Tryz.underlying268
  a76 := Tryz.isAgg268
  z76 := Tryz.sizeOf268
  v76 := Tryz.zeroValue268
  t77 := Tryz.underlying269
  a77 := Tryz.isAgg269
  z77 := Tryz.sizeOf269
  v77 := Tryz.zeroValue269 }
def Tryz.sortI_ren : Go.Shelf.Ren := ⟨fun | 6 => 117 | 15 => 111 | 14 => 149 | 28 => 141 | 29 => 142 | 20 => 166 | 21 => 167 | 22 => 168 | 23 => 169 | 24 => 170 | 25 => 171 | 26 => 172 | 27 => 173 | 46 => 179 | 47 => 158 | 48 => 159 | 49 => 180 | 50 => 181 | 57 => 183 | n => n, fun | 22 => 23 | 24 => 3 | 25 => 209 | 3 => 3 | 39 => 207 | 0 => 0 | 53 => 236 | 55 => 50 | 4 => 4 | 46 => 230 | 45 => 229 | 50 => 195 | 5 => 5 | 9 => 9 | 66 => 253 | 70 => 257 | 76 => 268 | 77 => 269 | n => n, fun | n => n⟩
theorem Tryz.sortI : Go.Proofs.SlLaysF.n6 Tryz.prog Tryz.sortI_ren := {
  mixed := by kernel_rfl
  f6 := ⟨Tryz.f117.name, by decide, Tryz.func117.trans (congrArg some (by kernel_rfl))⟩
  f14 := ⟨Tryz.f149.name, by decide, Tryz.func149.trans (congrArg some (by kernel_rfl))⟩
  f15 := Tryz.func111.trans (congrArg some (by kernel_rfl))
  f20 := ⟨Tryz.f166.name, by decide, Tryz.func166.trans (congrArg some (by kernel_rfl))⟩
  f21 := ⟨Tryz.f167.name, by decide, Tryz.func167.trans (congrArg some (by kernel_rfl))⟩
  f22 := ⟨Tryz.f168.name, by decide, Tryz.func168.trans (congrArg some (by kernel_rfl))⟩
  f23 := ⟨Tryz.f169.name, by decide, Tryz.func169.trans (congrArg some (by kernel_rfl))⟩
  f24 := ⟨Tryz.f170.name, by decide, Tryz.func170.trans (congrArg some (by kernel_rfl))⟩
  f25 := ⟨Tryz.f171.name, by decide, Tryz.func171.trans (congrArg some (by kernel_rfl))⟩
  f26 := ⟨Tryz.f172.name, by decide, Tryz.func172.trans (congrArg some (by kernel_rfl))⟩
  f27 := ⟨Tryz.f173.name, by decide, Tryz.func173.trans (congrArg some (by kernel_rfl))⟩
  f28 := Tryz.func141.trans (congrArg some (by kernel_rfl))
  f29 := Tryz.func142.trans (congrArg some (by kernel_rfl))
  f46 := ⟨Tryz.f179.name, by decide, Tryz.func179.trans (congrArg some (by kernel_rfl))⟩
  f47 := Tryz.func158.trans (congrArg some (by kernel_rfl))
  f48 := Tryz.func159.trans (congrArg some (by kernel_rfl))
  f49 := ⟨Tryz.f180.name, by decide, Tryz.func180.trans (congrArg some (by kernel_rfl))⟩
  f50 := ⟨Tryz.f181.name, by decide, Tryz.func181.trans (congrArg some (by kernel_rfl))⟩
  f57 := ⟨Tryz.f183.name, by decide, Tryz.func183.trans (congrArg some (by kernel_rfl))⟩
  t0 := Tryz.underlying0
  a0 := Tryz.isAgg0
  z0 := Tryz.sizeOf0
  v0 := Tryz.zeroValue0
  t3 := Tryz.underlying3
  a3 := Tryz.isAgg3
  z3 := Tryz.sizeOf3
  v3 := Tryz.zeroValue3
  t4 := Tryz.underlying4
  a4 := Tryz.isAgg4
  z4 := Tryz.sizeOf4
  v4 := Tryz.zeroValue4
  t5 := Tryz.underlying5
  a5 := Tryz.isAgg5
  z5 := Tryz.sizeOf5
  v5 := Tryz.zeroValue5
  t9 := Tryz.underlying9
  a9 := Tryz.isAgg9
  z9 := Tryz.sizeOf9
  v9 := Tryz.zeroValue9
  t22 := Tryz.underlying23
  a22 := Tryz.isAgg23
  z22 := Tryz.sizeOf23
  v22 := Tryz.zeroValue23
  a24 := Tryz.isAgg3
  z24 := Tryz.sizeOf3
  t25 := Tryz.underlying209
  a25 := Tryz.isAgg209
  z25 := Tryz.sizeOf209
  v25 := Tryz.zeroValue209
  t39 := Tryz.underlying207
  a39 := Tryz.isAgg207
  z39 := Tryz.sizeOf207
  v39 := Tryz.zeroValue207
  t45 := Tryz.underlying229
  a45 := Tryz.isAgg229
  z45 := Tryz.sizeOf229
  v45 := Tryz.zeroValue229
  t46 := Tryz.underlying230
  a46 := Tryz.isAgg230
  z46 := Tryz.sizeOf230
  v46 := Tryz.zeroValue230
  t50 := Tryz.underlying195
  a50 := Tryz.isAgg195
  z50 := Tryz.sizeOf195
  v50 := Tryz.zeroValue195
  t53 := Tryz.underlying236
  a53 := Tryz.isAgg236
  z53 := Tryz.sizeOf236
  v53 := Tryz.zeroValue236
  t55 := Tryz.underlying50
  a55 := Tryz.isAgg50
  z55 := Tryz.sizeOf50
  v55 := Tryz.zeroValue50
  t66 := Tryz.underlying253
  a66 := Tryz.isAgg253
  z66 := Tryz.sizeOf253
  v66 := Tryz.zeroValue253
  t70 := Tryz.underlying257
  a70 := Tryz.isAgg257
  z70 := Tryz.sizeOf257
  v70 := Tryz.zeroValue257
  t76 := Tryz.underlying268
  a76 := Tryz.isAgg268
  z76 := Tryz.sizeOf268
  v76 := Tryz.zeroValue268
  t77 := Tryz.underlying269
  a77 := Tryz.isAgg269
  z77 := Tryz.sizeOf269
  v77 := Tryz.zeroValue269 }
end Go.Proofs
