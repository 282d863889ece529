/-
  PACKAGE batch: the library's sort and its copy, at Changes in memory of the call's own.
  PACKAGE batch: the library's Clone and Equal at Changes.
  PACKAGE batch: the library's Equal at Changes; Same.
  THE LAWS' OWN To AND From: the same Changes in the other package's words, in memory of the call's own.
-/
import Derived.Test.YtdllgeanmlmmfaaGreatDoorJoined3
import Derived.Test.YtdllgeanmlmmfaaGreatDoorShelf
import Derived.Test.YtdllgeanmlmmfaaGreatDoorJoined4
import Derived.Test.YtdllgeanmlmmfaaGreatDoorBatchSumsMath
import Derived.Laws.StructEq
import Derived.Shelf.SlicesE.Equal
import Derived.LoopTactic
import Derived.StillTactics
import Derived.Deep.RegionHeld3
import Derived.Deep.AppendLies
import Derived.Deep.LoopGhost
import Derived.OwnWalk
namespace Go.Proofs.YtdllgeanmlmmfaaGreatDoor.Batch
open Go.RowKit Go.Sort Go.Shelf Go.Lib
set_option linter.unusedVariables false

theorem ltOrd (x y : Ch) : ltOf ordI x y = decide (Lt x y) := by
  unfold ltOf
  rw [Bool.eq_iff_iff, decide_eq_true_iff, decide_eq_true_iff]
  exact ordI_neg
theorem swoOrd : SWO (ltOf ordI) where
  irrefl x := by rw [ltOrd]; exact decide_eq_false Lt.irrefl
  trans x y z h1 h2 := by rw [ltOrd] at *; exact decide_eq_true ((of_decide_eq_true h1).trans (of_decide_eq_true h2))
  ntrans x y z h1 h2 := by
    rw [ltOrd] at *
    have g1 := of_decide_eq_false h1
    have g2 := of_decide_eq_false h2
    exact decide_eq_false (by unfold Lt at *; omega)
theorem cmpLays (blk off size : Nat) (w : World) : CmpLays Tryz.prog 108 #[] Ch.cells 3 ordI blk off size w :=
  fun _ _ _ _ x y => compare_any x y _

theorem cells_flat (d : Array Ch) : (flatK Ch.cells 3 d).toList = cellsL d.toList := by
  apply List.ext_getElem?
  intro t
  by_cases ht : t < d.size * 3
  · have h1 : (flatK Ch.cells 3 d).toList[t]? = some (Ch.cells d[t / 3]!)[t % 3]! := by
      rw [Array.getElem?_toList, ← get_flatK Ch.cells 3 d t ht, Array.getElem?_eq_getElem (by simpa using ht), getElem!_pos _ t (by simpa using ht)]
    have hi : t / 3 < d.size := by omega
    have h2 := cellsL_at (l := d.toList) (i := t / 3) (x := d[t / 3]!) (by rw [Array.getElem?_toList, Array.getElem?_eq_getElem hi, getElem!_pos d _ hi]) (t % 3) (Nat.mod_lt _ (by omega))
    rw [show t / 3 * 3 + t % 3 = t by omega] at h2
    rw [h1, h2]
    have h3 : t % 3 < (Ch.cells d[t / 3]!).length := Nat.mod_lt t (by decide)
    rw [List.getElem?_eq_getElem h3, getElem!_pos (Ch.cells d[t / 3]!) (t % 3) h3]
  · rw [List.getElem?_eq_none (by simp; omega), List.getElem?_eq_none (by rw [cellsL_length]; simp; omega)]
theorem put_take (F cur : Array Value) (h : F.size ≤ cur.size) : (putCells id 0 F cur).toList.take F.size = F.toList := by
  apply List.ext_getElem?
  intro t
  by_cases ht : t < F.size
  · rw [List.getElem?_take_of_lt ht, Array.getElem?_toList]
    simp only [putCells, Array.getElem?_mapIdx]
    rw [Array.getElem?_eq_getElem (xs := cur) (show t < cur.size by omega), Option.map_some, if_pos ⟨Nat.zero_le _, by omega⟩, Array.getElem?_toList, Array.getElem?_eq_getElem (xs := F) ht, Nat.sub_zero, getElem!_pos F t ht]
    rfl
  · rw [List.getElem?_eq_none (by simp; omega), List.getElem?_eq_none (by simp; omega)]
theorem own_holds {w : World} {base g cap : Nat} {T : TypeId} {l : List Ch} (h : Own w base T (.slice (some ⟨g, 0, none⟩) l.length cap) l) : HoldsK Ch.cells 3 w g 0 l.toArray := by
  intro j hj
  rw [size_flatK, List.size_toArray] at hj
  have hi : j / 3 < l.length := by omega
  have hx : l[j / 3]? = some l[j / 3] := List.getElem?_eq_getElem hi
  have h3 := h.at hx
  rw [get_flatK _ _ _ _ (by simpa using hj)]
  have e : l.toArray[j / 3]! = l[j / 3] := by rw [getElem!_pos _ _ (by simpa using hi)]; simp
  rw [e]
  refine ⟨?_, h.free _⟩
  rw [Nat.zero_add]
  rcases (show j % 3 = 0 ∨ j % 3 = 1 ∨ j % 3 = 2 by omega) with h0 | h0 | h0
  · rw [h0]
    have := h3.1
    rw [show j / 3 * 3 = j by omega] at this
    exact this
  · rw [h0]
    have := h3.2.1
    rw [show j / 3 * 3 + 1 = j by omega] at this
    exact this
  · rw [h0]
    have := h3.2.2
    rw [show j / 3 * 3 + 2 = j by omega] at this
    exact this
theorem sort_own {w : World} {base g cap : Nat} {T : TypeId} {l : List Ch} (h : Own w base T (.slice (some ⟨g, 0, none⟩) l.length cap) l) (n : Nat) (d' : Array Ch) (os : Array Obj) (hd : d'.size = l.length) :
    Own (sortWorldK Ch.cells 3 w g 0 n d' os) base T (.slice (some ⟨g, 0, none⟩) l.length cap) d'.toList := by
  rcases h.2 with ⟨hv, _⟩ | ⟨g', cap', cur, hv, hb, hg, hn, hc, hs, ht⟩
  · simp at hv
  · simp at hv
    obtain ⟨rfl, rfl⟩ := hv
    have hlt := (Array.getElem?_eq_some_iff.1 hg).1
    refine ⟨by rw [cellsL_length], .inr ⟨g, cap, putCells id 0 (flatK Ch.cells 3 d') cur, by simp [hd], hb, ?_, by simp [hd]; exact hn, hc, by simp [putCells, hs], ?_⟩⟩
    · show (grow (mapBlock (Sort.ahead w n) g (putCells id 0 (flatK Ch.cells 3 d'))) os).heap[g]? = _
      rw [Go.Sort.heap_grow_old _ _ (by simpa [mapBlock] using hlt)]
      simp only [mapBlock, heap_ahead, Array.getElem?_modify, if_true, hg, Option.map_some]
      rfl
    · have e : d'.toList.length * 3 = (flatK Ch.cells 3 d').size := by simp
      rw [e, put_take _ _ (by rw [size_flatK, hs, hd]; omega), cells_flat]
theorem sort_below {w : World} {B g : Nat} (hg : B ≤ g) (n : Nat) (d' : Array Ch) (os : Array Obj) (hB : B ≤ w.heap.size) : Below B w (sortWorldK Ch.cells 3 w g 0 n d' os) := by
  refine ⟨rfl, rfl, rfl, ?_, fun k hk => ?_⟩
  · exact size_sortWorldK_c _ _ _ _ _ _ _ _
  · show (grow (mapBlock (Sort.ahead w n) g (putCells id 0 (flatK Ch.cells 3 d'))) os).heap[k]? = _
    rw [Go.Sort.heap_grow_old _ _ (by simp [mapBlock]; omega)]
    simp only [mapBlock, heap_ahead, Array.getElem?_modify]
    rw [if_neg (by omega)]

theorem sorted_of {d : Array Ch} (h : SortedIn (ltOf ordI) 0 d.size d) : Sorted d.toList := by
  unfold Sorted
  rw [List.pairwise_iff_getElem]
  intro i j hi hj hij
  have := h i j (Nat.zero_le _) hij (by simpa using hj)
  rw [ltOrd] at this
  have hi' : i < d.size := by simpa using hi
  have hj' : j < d.size := by simpa using hj
  rw [getElem!_pos d i hi', getElem!_pos d j hj'] at this
  simpa using of_decide_eq_false this

theorem sort_any {w : World} {B : Nat} {T : TypeId} {v : Value} {l : List Ch} (h : Own w B T v l) (hB : B ≤ w.heap.size) (hl : l.length ≤ 1000) :
    Calls Tryz.prog 131 #[v, .func (.func 108) #[] #[]] w fun e w' => e = .returned (.tuple #[]) ∧ ∃ l' : List Ch, l'.Perm l ∧ Sorted l' ∧ Own w' B T v l' ∧ Below B w w' := by
  rcases h.form with ⟨rfl, rfl⟩ | ⟨g, cap, rfl, hb, hlt, _, _⟩
  · exact (AnyF.slices_SortFunc_none Tryz.sortCh none 0 (.func (.func 108) #[] #[]) w).mono fun e w' ⟨he, hw⟩ => ⟨he, [], List.Perm.refl _, List.Pairwise.nil, by rw [hw]; exact h, by rw [hw]; exact Below.refl _ _⟩
  · have eg : ∀ args w, (callFunc 108 args).run Tryz.prog w = .ok (.enter 108 args) w := enters_of Tryz.func108 (by kernel_rfl) rfl
    have hcon := AnyQ.slices_SortFunc Tryz.sortCh 3 Tryz.isAgg103 Tryz.sizeOf103 Ch.cells (fun _ => rfl) (fun x v hv => by simp [Ch.cells] at hv; rcases hv with rfl | rfl | rfl <;> rfl) ordI swoOrd 108 #[] g 0 cap l.toArray w eg (cmpLays g 0 l.toArray.size w) (own_holds h) hlt (by simp; omega)
    rw [List.size_toArray] at hcon
    refine hcon.mono fun e w' ⟨he, d', n, os, hp, hs, hw⟩ => ⟨he, d'.toList, ?_, ?_, ?_, ?_⟩
    · have hsz : d'.size = l.length := by simpa using hp.1
      have := hp.2.2
      rw [← List.size_toArray, Array.extract_size] at this
      have e2 : d'.extract 0 l.toArray.size = d' := by rw [List.size_toArray, ← hsz, Array.extract_size]
      rw [e2] at this
      simpa using this
    · have hsz : d'.size = l.length := by simpa using hp.1
      rw [← hsz] at hs
      exact sorted_of hs
    · rw [hw]; exact sort_own h n d' os (by simpa using hp.1)
    · rw [hw]; exact sort_below hb n d' os hB
end Go.Proofs.YtdllgeanmlmmfaaGreatDoor.Batch
namespace Go.Proofs.YtdllgeanmlmmfaaGreatDoor.Batch
open Go.RowKit Go.Shelf Go.Lib
set_option linter.unusedVariables false

theorem infoCh : (Tryz.prog.info? 103).map (fun i => (i.zero, i.size, i.bytes)) = some (some (.agg #[.int .i64 0, .int .u64 0, .int .i64 0]), 3, 24) := by kernel_rfl
theorem clone_any {w : World} {v : Value} {l : List Ch} (h : Sl w v l) (hl : l.length ≤ 100000) :
    Calls Tryz.prog 130 #[v] w fun e w' => ∃ v', e = .returned v' ∧ Own w' w.heap.size 103 v' l ∧ Below w.heap.size w w' := by
  obtain ⟨ao, cap, rfl, h1, _⟩ := h
  obtain ⟨i0, hi, hz0, hz1, hz2⟩ := info_parts infoCh
  rcases h1 with ⟨rfl, rfl⟩ | ⟨b, off, rfl, h1⟩
  · exact (AnyE.slices_Clone_nil Tryz.cloneCh 0 cap w).mono fun e w' ⟨he, hw⟩ => ⟨_, he, by rw [hw]; exact Own.nil _ _ _, by rw [hw]; exact Below.refl _ _⟩
  · exact (AnyE.slices_Clone Tryz.cloneCh i0 (.agg #[.int .i64 0, .int .u64 0, .int .i64 0]) 3 24 hi hz0 hz1 hz2 rfl (by omega) Tryz.sizeOf103 b off l.length cap (cellsL l) w (cellsL_length l) (by unfold maxLen; omega) (by omega) (cells_of_at h1) (cellsL_one l)).mono
      fun e w' ⟨v', he, ho, _, hb⟩ => ⟨v', he, ho, hb⟩
theorem cloneB_any {w : World} {v : Value} {l : List Ch} (h : Sl w v l) (hl : l.length ≤ 100000) :
    Calls Tryz.prog 43 #[v] w fun e w' => ∃ v', e = .returned v' ∧ Own w' w.heap.size 103 v' l ∧ Below w.heap.size w w' := by
  obtain ⟨ao, cap, rfl, h1, _⟩ := h
  obtain ⟨i0, hi, hz0, hz1, hz2⟩ := info_parts infoCh
  rcases h1 with ⟨rfl, rfl⟩ | ⟨b, off, rfl, h1⟩
  · exact (AnyE.slices_Clone_nil Tryz.cloneB 0 cap w).mono fun e w' ⟨he, hw⟩ => ⟨_, he, by rw [hw]; exact Own.nil _ _ _, by rw [hw]; exact Below.refl _ _⟩
  · exact (AnyE.slices_Clone Tryz.cloneB i0 (.agg #[.int .i64 0, .int .u64 0, .int .i64 0]) 3 24 hi hz0 hz1 hz2 rfl (by omega) Tryz.sizeOf103 b off l.length cap (cellsL l) w (cellsL_length l) (by unfold maxLen; omega) (by omega) (cells_of_at h1) (cellsL_one l)).mono
      fun e w' ⟨v', he, ho, _, hb⟩ => ⟨v', he, ho, hb⟩

def eqCh (x y : Ch) : Bool := x.p == y.p && x.t == y.t && x.d == y.d
theorem eqCh_iff (x y : Ch) : eqCh x y = true ↔ x = y := by
  obtain ⟨a, b, c⟩ := x
  obtain ⟨a', b', c'⟩ := y
  unfold eqCh
  simp only [Bool.and_eq_true, beq_iff_eq, Ch.mk.injEq, and_assoc]
theorem neqCh : NeqAt Tryz.prog 103 (fun x : Ch => .agg (Ch.cells x).toArray) eqCh := by
  refine ⟨fun x y w => ?_, GuardAt.agg _ (by kernel_rfl)⟩
  have u3 := Tryz.underlying3
  have a3 := Tryz.isAgg3
  have z3 := Tryz.sizeOf3
  have u2 := Tryz.underlying2
  have a2 := Tryz.isAgg2
  have z2 := Tryz.sizeOf2
  have u42 := Tryz.underlying50
  have a42 := Tryz.isAgg50
  have z42 := Tryz.sizeOf50
  have hS : Tryz.prog.underlying 103 = some (.struct (Tryz.prog.fieldsOf 103)) := by kernel_rfl
  have hp : Tryz.prog.stoodInHeld 103 = false := by kernel_rfl
  simp only [Ch.cells]
  rw [run_neq_struct, show (10000 : Nat) = 9999 + 1 from rfl, run_equalIn_agg w 9999 103 _ _ hS hp]
  simp only [Program.fieldsOf, Tryz.underlying103]
  go_simp
  unfold eqCh
  by_cases h1 : x.p = y.p <;> by_cases h2 : x.t = y.t <;> by_cases h3 : x.d = y.d <;> simp [h1, h2, h3]
end Go.Proofs.YtdllgeanmlmmfaaGreatDoor.Batch
namespace Go.Proofs.YtdllgeanmlmmfaaGreatDoor.Batch
open Go.RowKit Go.Shelf Go.Lib
set_option linter.unusedVariables false

def sameB (a b : List Ch) : Bool := decide (a.length = b.length) && (List.range a.length).all fun i => eqCh a[i]! b[i]!
theorem eqCh_refl (x : Ch) : eqCh x x = true := (eqCh_iff x x).2 rfl
theorem allEq_iff : ∀ (a b : List Ch), Lib.allEq eqCh a b = true ↔ a = b
  | [], [] => by simp [Lib.allEq]
  | [], y :: b => by simp [Lib.allEq]
  | x :: a, [] => by simp [Lib.allEq]
  | x :: a, y :: b => by simp [Lib.allEq, eqCh_iff, allEq_iff a b]
noncomputable def eqL (a b : List Ch) : Bool := Lib.allEq eqCh a b
theorem eqL_iff (a b : List Ch) : eqL a b = true ↔ a = b := allEq_iff a b
theorem eqL_self (a : List Ch) : eqL a a = true := (eqL_iff a a).2 rfl
theorem eqL_false {a b : List Ch} (h : a ≠ b) : eqL a b = false := by
  cases e : eqL a b
  · rfl
  · exact absurd ((eqL_iff a b).1 e) h

end Go.Proofs.YtdllgeanmlmmfaaGreatDoor.Batch
namespace Go.Proofs.YtdllgeanmlmmfaaGreatDoor.Batch
open Go.RowKit
set_option linter.unusedVariables false

end Go.Proofs.YtdllgeanmlmmfaaGreatDoor.Batch
