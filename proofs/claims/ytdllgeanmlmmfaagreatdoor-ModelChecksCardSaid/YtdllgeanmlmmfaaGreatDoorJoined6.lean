/-
  PACKAGE batch: the library's sort and its copy, at Changes in memory of the call's own.
  PACKAGE batch: the library's Clone and Equal at Changes.
  PACKAGE batch: the library's Equal at Changes; Same.
  THE LAWS' OWN To AND From: the same Changes in the other package's words, in memory of the call's own.
  PACKAGE batch: sums: neighbours of one Port and Time added up, in memory of the call's own.
-/
import Derived.Test.YtdllgeanmlmmfaaGreatDoorJoined4
import Derived.Test.YtdllgeanmlmmfaaGreatDoorShelf
import Derived.Test.YtdllgeanmlmmfaaGreatDoorJoined5
import Derived.Laws.StructEq
import Derived.Shelf.SlicesE.Equal
import Derived.LoopTactic
import Derived.StillTactics
import Derived.Deep.RegionHeld3
import Derived.Deep.AppendLies
import Derived.Deep.LoopGhost
import Derived.OwnWalk
import Derived.BigRegion
import Derived.RegionTactic
namespace Go.Proofs.YtdllgeanmlmmfaaGreatDoor.Batch
open Go.RowKit Go.Sort Go.Shelf Go.Lib
set_option linter.unusedVariables false

theorem ltOrd (x y : Ch) : ltOf ordI x y = decide (Lt x y) := by
  unfold ltOf
  rw [Bool.eq_iff_iff, decide_eq_true_iff, decide_eq_true_iff]
  exact ordI_neg
theorem swoOrd : SWO (ltOf ordI) where
  irrefl x := by rw [ltOrd]; exact decide_eq_false Lt.irrefl
  trans x y z h1 h2 := by rw [ltOrd] at *; exact decide_eq_true ((of_decide_eq_true h1).trans (of_decide_eq_true h2))
  ntrans x y z h1 h2 := by
    rw [ltOrd] at *
    have g1 := of_decide_eq_false h1
    have g2 := of_decide_eq_false h2
    exact decide_eq_false (by unfold Lt at *; omega)
theorem cmpLays (blk off size : Nat) (w : World) : CmpLays Tryz.prog 108 #[] Ch.cells 3 ordI blk off size w :=
  fun _ _ _ _ x y => compare_any x y _

theorem cells_flat (d : Array Ch) : (flatK Ch.cells 3 d).toList = cellsL d.toList := by
  apply List.ext_getElem?
  intro t
  by_cases ht : t < d.size * 3
  · have h1 : (flatK Ch.cells 3 d).toList[t]? = some (Ch.cells d[t / 3]!)[t % 3]! := by
      rw [Array.getElem?_toList, ← get_flatK Ch.cells 3 d t ht, Array.getElem?_eq_getElem (by simpa using ht), getElem!_pos _ t (by simpa using ht)]
    have hi : t / 3 < d.size := by omega
    have h2 := cellsL_at (l := d.toList) (i := t / 3) (x := d[t / 3]!) (by rw [Array.getElem?_toList, Array.getElem?_eq_getElem hi, getElem!_pos d _ hi]) (t % 3) (Nat.mod_lt _ (by omega))
    rw [show t / 3 * 3 + t % 3 = t by omega] at h2
    rw [h1, h2]
    have h3 : t % 3 < (Ch.cells d[t / 3]!).length := Nat.mod_lt t (by decide)
    rw [List.getElem?_eq_getElem h3, getElem!_pos (Ch.cells d[t / 3]!) (t % 3) h3]
  · rw [List.getElem?_eq_none (by simp; omega), List.getElem?_eq_none (by rw [cellsL_length]; simp; omega)]
theorem put_take (F cur : Array Value) (h : F.size ≤ cur.size) : (putCells id 0 F cur).toList.take F.size = F.toList := by
  apply List.ext_getElem?
  intro t
  by_cases ht : t < F.size
  · rw [List.getElem?_take_of_lt ht, Array.getElem?_toList]
    simp only [putCells, Array.getElem?_mapIdx]
    rw [Array.getElem?_eq_getElem (xs := cur) (show t < cur.size by omega), Option.map_some, if_pos ⟨Nat.zero_le _, by omega⟩, Array.getElem?_toList, Array.getElem?_eq_getElem (xs := F) ht, Nat.sub_zero, getElem!_pos F t ht]
    rfl
  · rw [List.getElem?_eq_none (by simp; omega), List.getElem?_eq_none (by simp; omega)]
theorem own_holds {w : World} {base g cap : Nat} {T : TypeId} {l : List Ch} (h : Own w base T (.slice (some ⟨g, 0, none⟩) l.length cap) l) : HoldsK Ch.cells 3 w g 0 l.toArray := by
  intro j hj
  rw [size_flatK, List.size_toArray] at hj
  have hi : j / 3 < l.length := by omega
  have hx : l[j / 3]? = some l[j / 3] := List.getElem?_eq_getElem hi
  have h3 := h.at hx
  rw [get_flatK _ _ _ _ (by simpa using hj)]
  have e : l.toArray[j / 3]! = l[j / 3] := by rw [getElem!_pos _ _ (by simpa using hi)]; simp
  rw [e]
  refine ⟨?_, h.free _⟩
  rw [Nat.zero_add]
  rcases (show j % 3 = 0 ∨ j % 3 = 1 ∨ j % 3 = 2 by omega) with h0 | h0 | h0
  · rw [h0]
    have := h3.1
    rw [show j / 3 * 3 = j by omega] at this
    exact this
  · rw [h0]
    have := h3.2.1
    rw [show j / 3 * 3 + 1 = j by omega] at this
    exact this
  · rw [h0]
    have := h3.2.2
    rw [show j / 3 * 3 + 2 = j by omega] at this
    exact this
theorem sort_own {w : World} {base g cap : Nat} {T : TypeId} {l : List Ch} (h : Own w base T (.slice (some ⟨g, 0, none⟩) l.length cap) l) (n : Nat) (d' : Array Ch) (os : Array Obj) (hd : d'.size = l.length) :
    Own (sortWorldK Ch.cells 3 w g 0 n d' os) base T (.slice (some ⟨g, 0, none⟩) l.length cap) d'.toList := by
  rcases h.2 with ⟨hv, _⟩ | ⟨g', cap', cur, hv, hb, hg, hn, hc, hs, ht⟩
  · simp at hv
  · simp at hv
    obtain ⟨rfl, rfl⟩ := hv
    have hlt := (Array.getElem?_eq_some_iff.1 hg).1
    refine ⟨by rw [cellsL_length], .inr ⟨g, cap, putCells id 0 (flatK Ch.cells 3 d') cur, by simp [hd], hb, ?_, by simp [hd]; exact hn, hc, by simp [putCells, hs], ?_⟩⟩
    · show (grow (mapBlock (Sort.ahead w n) g (putCells id 0 (flatK Ch.cells 3 d'))) os).heap[g]? = _
      rw [Go.Sort.heap_grow_old _ _ (by simpa [mapBlock] using hlt)]
      simp only [mapBlock, heap_ahead, Array.getElem?_modify, if_true, hg, Option.map_some]
      rfl
    · have e : d'.toList.length * 3 = (flatK Ch.cells 3 d').size := by simp
      rw [e, put_take _ _ (by rw [size_flatK, hs, hd]; omega), cells_flat]
theorem sort_below {w : World} {B g : Nat} (hg : B ≤ g) (n : Nat) (d' : Array Ch) (os : Array Obj) (hB : B ≤ w.heap.size) : Below B w (sortWorldK Ch.cells 3 w g 0 n d' os) := by
  refine ⟨rfl, rfl, rfl, ?_, fun k hk => ?_⟩
  · exact size_sortWorldK_c _ _ _ _ _ _ _ _
  · show (grow (mapBlock (Sort.ahead w n) g (putCells id 0 (flatK Ch.cells 3 d'))) os).heap[k]? = _
    rw [Go.Sort.heap_grow_old _ _ (by simp [mapBlock]; omega)]
    simp only [mapBlock, heap_ahead, Array.getElem?_modify]
    rw [if_neg (by omega)]

theorem sorted_of {d : Array Ch} (h : SortedIn (ltOf ordI) 0 d.size d) : Sorted d.toList := by
  unfold Sorted
  rw [List.pairwise_iff_getElem]
  intro i j hi hj hij
  have := h i j (Nat.zero_le _) hij (by simpa using hj)
  rw [ltOrd] at this
  have hi' : i < d.size := by simpa using hi
  have hj' : j < d.size := by simpa using hj
  rw [getElem!_pos d i hi', getElem!_pos d j hj'] at this
  simpa using of_decide_eq_false this

theorem sort_any {w : World} {B : Nat} {T : TypeId} {v : Value} {l : List Ch} (h : Own w B T v l) (hB : B ≤ w.heap.size) (hl : l.length ≤ 1000) :
    Calls Tryz.prog 131 #[v, .func (.func 108) #[] #[]] w fun e w' => e = .returned (.tuple #[]) ∧ ∃ l' : List Ch, l'.Perm l ∧ Sorted l' ∧ Own w' B T v l' ∧ Below B w w' := by
  rcases h.form with ⟨rfl, rfl⟩ | ⟨g, cap, rfl, hb, hlt, _, _⟩
  · exact (AnyF.slices_SortFunc_none Tryz.sortCh none 0 (.func (.func 108) #[] #[]) w).mono fun e w' ⟨he, hw⟩ => ⟨he, [], List.Perm.refl _, List.Pairwise.nil, by rw [hw]; exact h, by rw [hw]; exact Below.refl _ _⟩
  · have eg : ∀ args w, (callFunc 108 args).run Tryz.prog w = .ok (.enter 108 args) w := enters_of Tryz.func108 (by kernel_rfl) rfl
    have hcon := AnyQ.slices_SortFunc Tryz.sortCh 3 Tryz.isAgg103 Tryz.sizeOf103 Ch.cells (fun _ => rfl) (fun x v hv => by simp [Ch.cells] at hv; rcases hv with rfl | rfl | rfl <;> rfl) ordI swoOrd 108 #[] g 0 cap l.toArray w eg (cmpLays g 0 l.toArray.size w) (own_holds h) hlt (by simp; omega)
    rw [List.size_toArray] at hcon
    refine hcon.mono fun e w' ⟨he, d', n, os, hp, hs, hw⟩ => ⟨he, d'.toList, ?_, ?_, ?_, ?_⟩
    · have hsz : d'.size = l.length := by simpa using hp.1
      have := hp.2.2
      rw [← List.size_toArray, Array.extract_size] at this
      have e2 : d'.extract 0 l.toArray.size = d' := by rw [List.size_toArray, ← hsz, Array.extract_size]
      rw [e2] at this
      simpa using this
    · have hsz : d'.size = l.length := by simpa using hp.1
      rw [← hsz] at hs
      exact sorted_of hs
    · rw [hw]; exact sort_own h n d' os (by simpa using hp.1)
    · rw [hw]; exact sort_below hb n d' os hB
end Go.Proofs.YtdllgeanmlmmfaaGreatDoor.Batch
namespace Go.Proofs.YtdllgeanmlmmfaaGreatDoor.Batch
open Go.RowKit Go.Shelf Go.Lib
set_option linter.unusedVariables false

theorem infoCh : (Tryz.prog.info? 103).map (fun i => (i.zero, i.size, i.bytes)) = some (some (.agg #[.int .i64 0, .int .u64 0, .int .i64 0]), 3, 24) := by kernel_rfl
theorem clone_any {w : World} {v : Value} {l : List Ch} (h : Sl w v l) (hl : l.length ≤ 100000) :
    Calls Tryz.prog 130 #[v] w fun e w' => ∃ v', e = .returned v' ∧ Own w' w.heap.size 103 v' l ∧ Below w.heap.size w w' := by
  obtain ⟨ao, cap, rfl, h1, _⟩ := h
  obtain ⟨i0, hi, hz0, hz1, hz2⟩ := info_parts infoCh
  rcases h1 with ⟨rfl, rfl⟩ | ⟨b, off, rfl, h1⟩
  · exact (AnyE.slices_Clone_nil Tryz.cloneCh 0 cap w).mono fun e w' ⟨he, hw⟩ => ⟨_, he, by rw [hw]; exact Own.nil _ _ _, by rw [hw]; exact Below.refl _ _⟩
  · exact (AnyE.slices_Clone Tryz.cloneCh i0 (.agg #[.int .i64 0, .int .u64 0, .int .i64 0]) 3 24 hi hz0 hz1 hz2 rfl (by omega) Tryz.sizeOf103 b off l.length cap (cellsL l) w (cellsL_length l) (by unfold maxLen; omega) (by omega) (cells_of_at h1) (cellsL_one l)).mono
      fun e w' ⟨v', he, ho, _, hb⟩ => ⟨v', he, ho, hb⟩
theorem cloneB_any {w : World} {v : Value} {l : List Ch} (h : Sl w v l) (hl : l.length ≤ 100000) :
    Calls Tryz.prog 43 #[v] w fun e w' => ∃ v', e = .returned v' ∧ Own w' w.heap.size 103 v' l ∧ Below w.heap.size w w' := by
  obtain ⟨ao, cap, rfl, h1, _⟩ := h
  obtain ⟨i0, hi, hz0, hz1, hz2⟩ := info_parts infoCh
  rcases h1 with ⟨rfl, rfl⟩ | ⟨b, off, rfl, h1⟩
  · exact (AnyE.slices_Clone_nil Tryz.cloneB 0 cap w).mono fun e w' ⟨he, hw⟩ => ⟨_, he, by rw [hw]; exact Own.nil _ _ _, by rw [hw]; exact Below.refl _ _⟩
  · exact (AnyE.slices_Clone Tryz.cloneB i0 (.agg #[.int .i64 0, .int .u64 0, .int .i64 0]) 3 24 hi hz0 hz1 hz2 rfl (by omega) Tryz.sizeOf103 b off l.length cap (cellsL l) w (cellsL_length l) (by unfold maxLen; omega) (by omega) (cells_of_at h1) (cellsL_one l)).mono
      fun e w' ⟨v', he, ho, _, hb⟩ => ⟨v', he, ho, hb⟩

def eqCh (x y : Ch) : Bool := x.p == y.p && x.t == y.t && x.d == y.d
theorem eqCh_iff (x y : Ch) : eqCh x y = true ↔ x = y := by
  obtain ⟨a, b, c⟩ := x
  obtain ⟨a', b', c'⟩ := y
  unfold eqCh
  simp only [Bool.and_eq_true, beq_iff_eq, Ch.mk.injEq, and_assoc]
theorem neqCh : NeqAt Tryz.prog 103 (fun x : Ch => .agg (Ch.cells x).toArray) eqCh := by
  refine ⟨fun x y w => ?_, GuardAt.agg _ (by kernel_rfl)⟩
  have u3 := Tryz.underlying3
  have a3 := Tryz.isAgg3
  have z3 := Tryz.sizeOf3
  have u2 := Tryz.underlying2
  have a2 := Tryz.isAgg2
  have z2 := Tryz.sizeOf2
  have u42 := Tryz.underlying50
  have a42 := Tryz.isAgg50
  have z42 := Tryz.sizeOf50
  have hS : Tryz.prog.underlying 103 = some (.struct (Tryz.prog.fieldsOf 103)) := by kernel_rfl
  have hp : Tryz.prog.stoodInHeld 103 = false := by kernel_rfl
  simp only [Ch.cells]
  rw [run_neq_struct, show (10000 : Nat) = 9999 + 1 from rfl, run_equalIn_agg w 9999 103 _ _ hS hp]
  simp only [Program.fieldsOf, Tryz.underlying103]
  go_simp
  unfold eqCh
  by_cases h1 : x.p = y.p <;> by_cases h2 : x.t = y.t <;> by_cases h3 : x.d = y.d <;> simp [h1, h2, h3]
end Go.Proofs.YtdllgeanmlmmfaaGreatDoor.Batch
namespace Go.Proofs.YtdllgeanmlmmfaaGreatDoor.Batch
open Go.RowKit Go.Shelf Go.Lib
set_option linter.unusedVariables false

def sameB (a b : List Ch) : Bool := decide (a.length = b.length) && (List.range a.length).all fun i => eqCh a[i]! b[i]!
theorem eqCh_refl (x : Ch) : eqCh x x = true := (eqCh_iff x x).2 rfl
theorem allEq_iff : ∀ (a b : List Ch), Lib.allEq eqCh a b = true ↔ a = b
  | [], [] => by simp [Lib.allEq]
  | [], y :: b => by simp [Lib.allEq]
  | x :: a, [] => by simp [Lib.allEq]
  | x :: a, y :: b => by simp [Lib.allEq, eqCh_iff, allEq_iff a b]
noncomputable def eqL (a b : List Ch) : Bool := Lib.allEq eqCh a b
theorem eqL_iff (a b : List Ch) : eqL a b = true ↔ a = b := allEq_iff a b
theorem eqL_self (a : List Ch) : eqL a a = true := (eqL_iff a a).2 rfl
theorem eqL_false {a b : List Ch} (h : a ≠ b) : eqL a b = false := by
  cases e : eqL a b
  · rfl
  · exact absurd ((eqL_iff a b).1 e) h

end Go.Proofs.YtdllgeanmlmmfaaGreatDoor.Batch
namespace Go.Proofs.YtdllgeanmlmmfaaGreatDoor.Batch
open Go.RowKit
set_option linter.unusedVariables false

end Go.Proofs.YtdllgeanmlmmfaaGreatDoor.Batch
namespace Go.Proofs.YtdllgeanmlmmfaaGreatDoor.Batch
open Go.RowKit Go.Sort
set_option linter.unusedVariables false

theorem below_grow (w : World) (q : Nat) (os : Array Obj) : Below w.heap.size w (grow (w.drewN q) os) :=
  ⟨rfl, rfl, rfl, by simp [grow, World.drewN], fun k hk => Go.Sort.heap_grow_old (w.drewN q) os hk⟩
theorem cmpB_any (x y : Ch) (w : World) : Calls Tryz.prog 108 #[x.agg, y.agg] w fun e w' => e = .returned (.int .i64 (ordI x y)) ∧ Below w.heap.size w w' :=
  (compare_any x y w).mono fun e w' ⟨he, q, os, hw⟩ => ⟨he, by rw [hw]; exact below_grow _ _ _⟩
theorem eqZ_true {x y : Ch} (h : Key x y) : (ordI x y == 0) = true := by rw [beq_iff_eq]; exact ordI_zero.2 h
theorem eqZ_false {x y : Ch} (h : ¬ Key x y) : (ordI x y == 0) = false := by rw [beq_eq_false_iff_ne]; exact fun e => h (ordI_zero.1 e)
theorem Own.below2 {w w' : World} {B base : Nat} {T : TypeId} {v : Value} {l : List Ch} (h : Own w base T v l) (hw : Below B w w') (hB : w.heap.size ≤ B) : Own w' base T v l := h.below (hw.mono hB)
theorem one_cells {w : World} {G : Nat} {p t d : Int} {T : TypeId} (h : w.heap[G]? = some (.cells #[.int .i64 p, .int .u64 t, .int .i64 d] T (0, 0))) : w.cell? ⟨G, 0, none⟩ = some (.int .i64 p) ∧ w.cell? ⟨G, 1, none⟩ = some (.int .u64 t) ∧ w.cell? ⟨G, 2, none⟩ = some (.int .i64 d) ∧ ∀ o, w.frozen? ⟨G, o, none⟩ = false := by
  refine ⟨?_, ?_, ?_, fun o => ?_⟩ <;> simp [World.cell?, World.frozen?, h]
theorem one_setD {w : World} {G : Nat} {p t d d' : Int} {T : TypeId} (h : w.heap[G]? = some (.cells #[.int .i64 p, .int .u64 t, .int .i64 d] T (0, 0))) : (w.setCell ⟨G, 2, none⟩ (.int .i64 d')).heap[G]? = some (.cells #[.int .i64 p, .int .u64 t, .int .i64 d'] T (0, 0)) :=
  heap_setCell_same w G 2 _ T _ h

theorem wrap64_wr (n : Int) : wrap64 n = Batch.wr n := by unfold wrap64 Batch.wr; rfl
theorem news3 (W : World) (p t d : Int) (T : TypeId) : ∀ j u, ([Value.int .i64 p, .int .u64 t, .int .i64 d])[j]? = some u → (W.alloc (.cells #[.int .i64 p, .int .u64 t, .int .i64 d] T)).cell? ((⟨W.heap.size, 0, none⟩ : Addr).add j) = some u := by
  intro j u hj
  match j, hj with
  | 0, hj => simp at hj; subst hj; simp [Addr.add]
  | 1, hj => simp at hj; subst hj; simp [Addr.add]
  | 2, hj => simp at hj; subst hj; simp [Addr.add]
theorem ret_two {v : Value} {n m : Int} (h : n = m) : Ending.returned (.tuple #[v, .int .i64 n]) = Ending.returned (.tuple #[v, .int .i64 m]) := by rw [h]

set_option maxRecDepth 1000000 in
set_option maxHeartbeats 16000000 in
theorem sums_any {w : World} {v : Value} {l : List Ch} (hv : Rd w v l) (hs : Sorted l) (hl : l.length ≤ 100000) :
    Calls Tryz.prog 76 #[v] w fun e w' => ∃ v' : Value, (e = .returned (.tuple #[v', .int .i64 (sumsE l)])) ∧ Own w' w.heap.size 103 v' (sumsR l) ∧ Below w.heap.size w w' := by
  have hwf := hv.wf
  obtain ⟨ao, cap, rfl, hlc, hcm, _, hcell⟩ := hv
  obtain ⟨i0, hi, hz0, hz1, hz2⟩ := info_parts infoCh
  have HC := Lib.hid hcell
  have HL := Lib.hid hl
  have HS := Lib.hid hs
  have HWF := Lib.hid hwf
  have hlen : l.length ≤ 9223372036854775807 := by omega
  clear hwf hcell hlc hcm hl hs
  go_enter Tryz.func76, Tryz.ntmps76
  go_wp2
  go_loopg [4, 5] l.length (fun k o t wr => ∃ (i : Nat) (R : List Ch), i + k = l.length ∧ t = .int .i64 i ∧ Inv l R i ∧ Own wr w.heap.size 103 o R ∧ Below w.heap.size w wr)
  case atStart => exact ⟨0, [], by omega, rfl, Inv.start l, Own.nil _ _ _, Below.refl _ _⟩
  case round =>
    obtain ⟨i, R, hik, rfl, hinv, hown, hbw⟩ := hrel
    have HIK := Lib.hid hik
    have HINV := Lib.hid hinv
    have HOWN := Lib.hid hown
    have HBW := Lib.hid hbw
    have hRl := hinv.length HWF.out
    clear hinv hown hbw
    by_cases hlt1 : i < l.length
    · obtain ⟨x0, hx, hxm⟩ := at_of hlt1
      have hne : l ≠ [] := by intro e; rw [e] at hlt1; simp at hlt1
      obtain ⟨b, off, hao, hcc⟩ := HC.out.resolve_left hne
      subst hao
      have q := hcc i x0 hx
      have hbl := q.lt
      obtain ⟨c0, c1, c2⟩ := q.below HBW.out hbl
      have HX := Lib.hid hx
      have hwx := HWF.out x0 hxm
      have HG := Lib.hid (Grp.start HINV.out hx hwx)
      have HWX := Lib.hid hwx
      obtain ⟨p, t, d⟩ := x0
      simp only at c0 c1 c2 HG
      have HLT := Lib.hid hlt1
      have HBL := Lib.hid (show b < w.heap.size from hbl)
      have HCC := Lib.hid hcc
      have hi0' : (0 : Int) ≤ (i : Int) := Int.natCast_nonneg _
      have hi1 : (i : Int) < (l.length : Int) := by omega
      clear hx hxm hne hcc q hbl HC hik hwx
      go_wp2_with fail
      obtain ⟨wo, rfl⟩ : ∃ wo : World, wo = wr := ⟨_, rfl⟩
      go_loopg [5] (l.length - (i + 1)) (fun k2 tt wr => ∃ (j : Nat) (D : Int), j + k2 = l.length ∧ tt = .int .i64 j ∧ Grp l i j ⟨p, t, d⟩ D ∧ Below wo.heap.size wo wr ∧ wr.heap[wo.heap.size]? = some (.cells #[.int .i64 p, .int .u64 t, .int .i64 D] 103 (0, 0)))
      case atStart => exact ⟨i + 1, d, by have := HLT.out; omega, by go_num, HG.out, (Below.refl _ _).alloc (Nat.le_refl _) _, heap_alloc_new wo _⟩
      case round =>
        obtain ⟨j, D, hjk, rfl, hgrp, hb2, hblk⟩ := hrel
        have HJK := Lib.hid hjk
        have HGRP := Lib.hid hgrp
        have HB2 := Lib.hid hb2
        have HBLK := Lib.hid hblk
        obtain ⟨s0, s1, s2, sf⟩ := one_cells hblk
        have sf2 := sf 2
        have hj0 : (0 : Int) ≤ (j : Int) := Int.natCast_nonneg _
        have hjl : j ≤ l.length := by omega
        have hGlt : wo.heap.size < wr.heap.size := (Array.getElem?_eq_some_iff.1 hblk).1
        clear hgrp hb2 hblk sf hjk
        by_cases hlt2 : j < l.length
        · obtain ⟨y, hy, hym⟩ := at_of hlt2
          have q := (HCC.out j y hy).below HBW.out HBL.out
          obtain ⟨k0, k1, k2⟩ := q.below HB2.out q.lt
          have HY := Lib.hid hy
          have hblo : b < wo.heap.size := q.lt
          have hj1 : (j : Int) < (l.length : Int) := by omega
          have hne : b ≠ wo.heap.size := by omega
          by_cases hkey : Key ⟨p, t, d⟩ y
          · have hz : (ordI ⟨p, t, D⟩ y == 0) = true := eqZ_true hkey
            have HKEY := Lib.hid hkey
            obtain ⟨yp, yt, yd⟩ := y
            simp only at k0 k1 k2
            clear hy hym q hkey
            go_wp2_with fail
            go_region_held3 (fun w' => w'.cell? ⟨wo.heap.size, 0, none⟩ = some (.int .i64 p) ∧ w'.cell? ⟨wo.heap.size, 1, none⟩ = some (.int .u64 t) ∧ w'.cell? ⟨wo.heap.size, 2, none⟩ = some (.int .i64 D) ∧ w'.cell? ⟨b, off + j * 3, none⟩ = some (.int .i64 yp) ∧ w'.cell? ⟨b, off + j * 3 + 1, none⟩ = some (.int .u64 yt) ∧ w'.cell? ⟨b, off + j * 3 + 2, none⟩ = some (.int .i64 yd))
              (first
                | go_keep
                | (go_split_ands
                   refine ⟨?_, ?_, ?_, ?_, ?_, ?_⟩ <;> (rw [hcb.cell (by simp; omega)]; assumption)))
              ((go_at_call 108; refine (cmpB_any ⟨p, t, D⟩ ⟨yp, yt, yd⟩ _).mono ?_; rintro e w1 ⟨rfl, hcb⟩))
            have hb1 : Below wr.heap.size wr w1 := ((Below.refl _ _).drew).trans hcb
            have HB1 := Lib.hid hb1
            have HBLK1 := Lib.hid ((hb1.block wo.heap.size hGlt).trans HBLK.out)
            obtain ⟨s0, s1, s2, sf⟩ := one_cells HBLK1.out
            have sf2 := sf 2
            have k2 := (hb1.cell (p := ⟨b, off + j * 3 + 2, none⟩) (show b < wr.heap.size by omega)).trans k2
            clear hcb hb1 sf k0 k1 hz
            go_wp2_with fail
            go_region
            go_wp2
            go_roundg (l.length - (j + 1))
            case measure => have := HJK.out; omega
            case rel =>
              refine ⟨j + 1, Batch.wr (D + yd), by have := HJK.out; omega, by go_num, HGRP.out.step HY.out HKEY.out, ?_, ?_⟩
              rotate_left 1
              · rw [wrap64_wr]
                exact one_setD HBLK1.out
              exact ((HB2.out.trans (HB1.out.mono (Nat.le_of_lt hGlt))).setCell (Nat.le_refl _) _).drew
          · have hz : (ordI ⟨p, t, D⟩ y == 0) = false := eqZ_false hkey
            have hend : Ended l j ⟨p, t, d⟩ := HGRP.out.ended HS.out HX.out HY.out hkey
            have HEND := Lib.hid hend
            obtain ⟨yp, yt, yd⟩ := y
            simp only at k0 k1 k2
            clear hy hym q hkey hend
            go_wp2_with fail
            go_region_held3 (fun w' => w'.cell? ⟨wo.heap.size, 0, none⟩ = some (.int .i64 p) ∧ w'.cell? ⟨wo.heap.size, 1, none⟩ = some (.int .u64 t) ∧ w'.cell? ⟨wo.heap.size, 2, none⟩ = some (.int .i64 D) ∧ w'.cell? ⟨b, off + j * 3, none⟩ = some (.int .i64 yp) ∧ w'.cell? ⟨b, off + j * 3 + 1, none⟩ = some (.int .u64 yt) ∧ w'.cell? ⟨b, off + j * 3 + 2, none⟩ = some (.int .i64 yd))
              (first
                | go_keep
                | (go_split_ands
                   refine ⟨?_, ?_, ?_, ?_, ?_, ?_⟩ <;> (rw [hcb.cell (by simp; omega)]; assumption)))
              ((go_at_call 108; refine (cmpB_any ⟨p, t, D⟩ ⟨yp, yt, yd⟩ _).mono ?_; rintro e w1 ⟨rfl, hcb⟩))
            have hb1 : Below wr.heap.size wr w1 := ((Below.refl _ _).drew).trans hcb
            have HB1 := Lib.hid hb1
            have HBLK1 := Lib.hid ((hb1.block wo.heap.size hGlt).trans HBLK.out)
            obtain ⟨s0, s1, s2, sf⟩ := one_cells HBLK1.out
            have hend := HEND.out
            clear hcb hb1 sf k0 k1 k2 hz
            have HE := Lib.hid hend
            have hbo : Below w.heap.size w w1 := HBW.out.trans ((HB2.out.trans (HB1.out.mono (Nat.le_of_lt hGlt))).mono HBW.out.size)
            have HBO := Lib.hid hbo
            have hownv : Own w1 w.heap.size 103 u4 R := HOWN.out.below (HB2.out.trans (HB1.out.mono (Nat.le_of_lt hGlt)))
            have HOV := Lib.hid hownv
            clear hend hbo hownv
            cases ho : overB D
            · by_cases hd0 : D = 0
              · have hd : (D != 0) = false := by rw [hd0]; rfl
                have HNEW := Lib.hid (HINV.out.drop HS.out HGRP.out HX.out HE.out ho hd0)
                clear hd0
                go_wp2_with (go_at_call 109; refine (over_any D _).mono ?_; rintro e w' ⟨rfl, rfl⟩)
                go_roundg (l.length - j)
                case measure => have := HIK.out; have := HGRP.out.1; have := HJK.out; omega
                case rel => exact ⟨j, R, by have := HJK.out; omega, rfl, HNEW.out, HOV.out, HBO.out⟩
              · have hd : (D != 0) = true := by rw [bne_iff_ne]; exact hd0
                have HNEW := Lib.hid (HINV.out.snoc HS.out HGRP.out HX.out HE.out ho hd0)
                have hown := HOV.out
                have hb00 : w.heap.size ≤ w1.heap.size := HBO.out.size
                clear hd0
                go_wp2_with (first
                  | (go_at_call 109; refine (over_any D _).mono ?_; rintro e w' ⟨rfl, rfl⟩)
                  | (at_builtin; refine wpList_append_own _ rfl _ _ 54 rfl w.heap.size 103 i0 (.agg #[.int .i64 0, .int .u64 0, .int .i64 0]) 3 24 Tryz.underlying54 hi hz0 hz1 hz2 rfl (by decide) _ _ _ rfl (World.ownsRow.alloc hown _) ⟨w1.heap.size, 0, none⟩ 1 1 [.int .i64 p, .int .u64 t, .int .i64 D] rfl rfl (news3 _ _ _ _ _) ?c2 ?c3 ?c4 ?c5 ?_))
                case c2 => intro u hu; simp at hu; rcases hu with rfl | rfl | rfl <;> rfl
                case c3 => unfold maxLen; have := HL.out; omega
                case c4 => have := HL.out; omega
                case c5 => simp; omega
                intro v2 w2 hown' hgrow _
                have hb3 : Below w.heap.size w w2 := (HBO.out.alloc hb00 _).grown hgrow (by simp; omega) (fun k e => (hown.lt k e).1)
                have HO := Lib.hid hown'
                have HB3 := Lib.hid hb3
                clear hown hown' hgrow hb3
                go_wp2
                go_roundg (l.length - j)
                case measure => have := HIK.out; have := HGRP.out.1; have := HJK.out; omega
                case rel =>
                  refine ⟨j, R ++ [⟨p, t, D⟩], by have := HJK.out; omega, rfl, HNEW.out, ?_, HB3.out⟩
                  unfold Own
                  rw [List.length_append, cellsL_snoc]
                  exact HO.out
            · have HOK := Lib.hid (HGRP.out.over HWF.out HS.out HE.out ho)
              have HR := Lib.hid (sums_over HOK.out)
              go_wp2_with (go_at_call 109; refine (over_any D _).mono ?_; rintro e w' ⟨rfl, rfl⟩)
              go_ret2
              refine ⟨_, ret_two HR.out.1.symm, ?_, HBO.out⟩
              rw [HR.out.2]
              exact Own.nil _ _ _
        · have hj2 : decide ((j : Int) < (l.length : Int)) = false := decide_eq_false (by omega)
          have hend : Ended l j ⟨p, t, d⟩ := fun y hy => by have := (List.getElem?_eq_some_iff.1 hy).1; omega
          have HEND := Lib.hid hend
          clear hend
          go_wp2_with fail
          go_quiet (fail)
          have hend := HEND.out
          have HE := Lib.hid hend
          have hbo : Below w.heap.size w wr := HBW.out.trans (HB2.out.mono HBW.out.size)
          have HBO := Lib.hid hbo
          have hownv : Own wr w.heap.size 103 u4 R := HOWN.out.below HB2.out
          have HOV := Lib.hid hownv
          clear hend hbo hownv
          cases ho : overB D
          · by_cases hd0 : D = 0
            · have hd : (D != 0) = false := by rw [hd0]; rfl
              have HNEW := Lib.hid (HINV.out.drop HS.out HGRP.out HX.out HE.out ho hd0)
              clear hd0
              go_wp2_with (go_at_call 109; refine (over_any D _).mono ?_; rintro e w' ⟨rfl, rfl⟩)
              go_roundg (l.length - j)
              case measure => have := HIK.out; have := HGRP.out.1; have := HJK.out; omega
              case rel => exact ⟨j, R, by have := HJK.out; omega, rfl, HNEW.out, HOV.out.draw _, below_drewN HBO.out _⟩
            · have hd : (D != 0) = true := by rw [bne_iff_ne]; exact hd0
              have HNEW := Lib.hid (HINV.out.snoc HS.out HGRP.out HX.out HE.out ho hd0)
              have hown := HOV.out
              have hb00 : w.heap.size ≤ wr.heap.size := HBO.out.size
              clear hd0
              go_wp2_with (first
                | (go_at_call 109; refine (over_any D _).mono ?_; rintro e w' ⟨rfl, rfl⟩)
                | (at_builtin; refine wpList_append_own _ rfl _ _ 54 rfl w.heap.size 103 i0 (.agg #[.int .i64 0, .int .u64 0, .int .i64 0]) 3 24 Tryz.underlying54 hi hz0 hz1 hz2 rfl (by decide) _ _ _ rfl (World.ownsRow.alloc hown _) ⟨wr.heap.size, 0, none⟩ 1 1 [.int .i64 p, .int .u64 t, .int .i64 D] rfl rfl (news3 _ _ _ _ _) ?c2 ?c3 ?c4 ?c5 ?_))
              case c2 => intro u hu; simp at hu; rcases hu with rfl | rfl | rfl <;> rfl
              case c3 => unfold maxLen; have := HL.out; omega
              case c4 => have := HL.out; omega
              case c5 => simp; omega
              intro v2 w2 hown' hgrow _
              have hb3 : Below w.heap.size w w2 := ((below_drewN HBO.out _).alloc (by simpa using hb00) _).grown hgrow (by simp; omega) (fun k e => (hown.lt k e).1)
              have HO := Lib.hid hown'
              have HB3 := Lib.hid hb3
              clear hown hown' hgrow hb3
              go_wp2
              go_roundg (l.length - j)
              case measure => have := HIK.out; have := HGRP.out.1; have := HJK.out; omega
              case rel =>
                refine ⟨j, R ++ [⟨p, t, D⟩], by have := HJK.out; omega, rfl, HNEW.out, ?_, HB3.out⟩
                unfold Own
                rw [List.length_append, cellsL_snoc]
                exact HO.out
          · have HOK := Lib.hid (HGRP.out.over HWF.out HS.out HE.out ho)
            have HR := Lib.hid (sums_over HOK.out)
            go_wp2_with (go_at_call 109; refine (over_any D _).mono ?_; rintro e w' ⟨rfl, rfl⟩)
            go_ret2
            refine ⟨_, ret_two HR.out.1.symm, ?_, below_drewN HBO.out _⟩
            rw [HR.out.2]
            exact Own.nil _ _ _
    · have hin : l.length ≤ i := by omega
      have HD := Lib.hid (HINV.out.done HWF.out hin)
      have HR := Lib.hid (sums_ok HD.out.2)
      clear hik hin
      go_wp2_with fail
      go_ret2
      refine ⟨_, ret_two HR.out.1.symm, ?_, HBW.out⟩
      rw [HR.out.2, ← HD.out.1]
      exact HOWN.out
end Go.Proofs.YtdllgeanmlmmfaaGreatDoor.Batch
