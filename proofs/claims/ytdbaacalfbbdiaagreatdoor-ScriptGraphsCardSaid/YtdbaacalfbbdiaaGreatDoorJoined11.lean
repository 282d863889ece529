/-
  PACKAGE marchlandref03: within, before.
  PACKAGE marchlandref03: sums.
  PACKAGE batch: the library's Clone and Equal at Changes.
  PACKAGE batch: the library's Equal at Changes; Same.
  THE LAWS' OWN To AND From: the same Changes in the other package's words, in memory of the call's own.
-/
import Derived.Test.YtdbaacalfbbdiaaGreatDoorJoined10
import Derived.Test.YtdbaacalfbbdiaaGreatDoorBatchRefMath
import Derived.Test.YtdbaacalfbbdiaaGreatDoorJoined5
import Derived.Deep.LoopGhost
import Derived.Deep.QuietTactic
import Derived.BigQuiet
import Derived.BigRegion
import Derived.OwnWalk
import Derived.IntWalk
import Derived.Outline
import Derived.Test.YtdbaacalfbbdiaaGreatDoorShelf
import Derived.Laws.StructEq
import Derived.Shelf.SlicesE.Equal
import Derived.LoopTactic
import Derived.StillTactics
import Derived.Deep.RegionHeld3
import Derived.Deep.AppendLies
namespace Go.Proofs.YtdbaacalfbbdiaaGreatDoor.Batch
open Go.RowKit
set_option linter.unusedVariables false

def ltB (x y : Ch) : Bool := decide (Lt x y)
theorem ltB_true {x y : Ch} (h : Lt x y) : ltB x y = true := decide_eq_true h
theorem ltB_false {x y : Ch} (h : ¬ Lt x y) : ltB x y = false := decide_eq_false h
end Go.Proofs.YtdbaacalfbbdiaaGreatDoor.Batch
namespace Go.Proofs.YtdbaacalfbbdiaaGreatDoor.Batch
open Go.RowKit Go.Sort
set_option linter.unusedVariables false

theorem infoRf2 : (Tryz.prog.info? 117).map (fun i => (i.zero, i.size, i.bytes)) = some (some (.agg #[.int .i64 0, .int .u64 0, .int .i64 0]), 3, 24) := by kernel_rfl
theorem Own.form' {w : World} {base : Nat} {T : TypeId} {v : Value} {l : List Ch} (h : Own w base T v l) : ∃ (ao : Option Addr) (cap : Nat), v = .slice ao l.length cap ∧ (l = [] ∨ ∃ g, ao = some ⟨g, 0, none⟩ ∧ base ≤ g ∧ g < w.heap.size) := by
  rcases h.form with ⟨rfl, rfl⟩ | ⟨g, cap, rfl, h1, h2, _⟩
  · exact ⟨none, 0, rfl, .inl rfl⟩
  · exact ⟨_, cap, rfl, .inr ⟨g, rfl, h1, h2⟩⟩
theorem Own.drew1 {w : World} {base : Nat} {T : TypeId} {v : Value} {l : List Ch} (h : Own w base T v l) : Own w.drew base T v l := h
theorem wrap64_wr' (n : Int) : wrap64 n = Batch.wr n := by unfold wrap64 Batch.wr; rfl
theorem ret_b {v : Value} {a b : Bool} (h : a = b) : Ending.returned (.tuple #[v, .bool a]) = Ending.returned (.tuple #[v, .bool b]) := by rw [h]
theorem news3' (W : World) (p t d : Int) (T : TypeId) : ∀ j u, ([Value.int .i64 p, .int .u64 t, .int .i64 d])[j]? = some u → (W.alloc (.cells #[.int .i64 p, .int .u64 t, .int .i64 d] T)).cell? ((⟨W.heap.size, 0, none⟩ : Addr).add j) = some u := by
  intro j u hj
  match j, hj with
  | 0, hj => simp at hj; subst hj; simp [Addr.add]
  | 1, hj => simp at hj; subst hj; simp [Addr.add]
  | 2, hj => simp at hj; subst hj; simp [Addr.add]

end Go.Proofs.YtdbaacalfbbdiaaGreatDoor.Batch
namespace Go.Proofs.YtdbaacalfbbdiaaGreatDoor.Batch
open Go.RowKit Go.Shelf Go.Lib
set_option linter.unusedVariables false

theorem infoCh : (Tryz.prog.info? 68).map (fun i => (i.zero, i.size, i.bytes)) = some (some (.agg #[.int .i64 0, .int .u64 0, .int .i64 0]), 3, 24) := by kernel_rfl
theorem infoRf : (Tryz.prog.info? 117).map (fun i => (i.zero, i.size, i.bytes)) = some (some (.agg #[.int .i64 0, .int .u64 0, .int .i64 0]), 3, 24) := by kernel_rfl
def eqCh (x y : Ch) : Bool := x.p == y.p && x.t == y.t && x.d == y.d
theorem eqCh_iff (x y : Ch) : eqCh x y = true ↔ x = y := by
  obtain ⟨a, b, c⟩ := x
  obtain ⟨a', b', c'⟩ := y
  unfold eqCh
  simp only [Bool.and_eq_true, beq_iff_eq, Ch.mk.injEq, and_assoc]
theorem neqCh : NeqAt Tryz.prog 68 (fun x : Ch => .agg (Ch.cells x).toArray) eqCh := by
  refine ⟨fun x y w => ?_, GuardAt.agg _ (by kernel_rfl)⟩
  have u3 := Tryz.underlying3
  have a3 := Tryz.isAgg3
  have z3 := Tryz.sizeOf3
  have u2 := Tryz.underlying2
  have a2 := Tryz.isAgg2
  have z2 := Tryz.sizeOf2
  have u42 := Tryz.underlying22
  have a42 := Tryz.isAgg22
  have z42 := Tryz.sizeOf22
  have hS : Tryz.prog.underlying 68 = some (.struct (Tryz.prog.fieldsOf 68)) := by kernel_rfl
  have hp : Tryz.prog.stoodInHeld 68 = false := by kernel_rfl
  simp only [Ch.cells]
  rw [run_neq_struct, show (10000 : Nat) = 9999 + 1 from rfl, run_equalIn_agg w 9999 68 _ _ hS hp]
  simp only [Program.fieldsOf, Tryz.underlying68]
  go_simp
  unfold eqCh
  by_cases h1 : x.p = y.p <;> by_cases h2 : x.t = y.t <;> by_cases h3 : x.d = y.d <;> simp [h1, h2, h3]
end Go.Proofs.YtdbaacalfbbdiaaGreatDoor.Batch
namespace Go.Proofs.YtdbaacalfbbdiaaGreatDoor.Batch
open Go.RowKit Go.Shelf Go.Lib
set_option linter.unusedVariables false

def sameB (a b : List Ch) : Bool := decide (a.length = b.length) && (List.range a.length).all fun i => eqCh a[i]! b[i]!
theorem eqCh_refl (x : Ch) : eqCh x x = true := (eqCh_iff x x).2 rfl
theorem allEq_iff : ∀ (a b : List Ch), Lib.allEq eqCh a b = true ↔ a = b
  | [], [] => by simp [Lib.allEq]
  | [], y :: b => by simp [Lib.allEq]
  | x :: a, [] => by simp [Lib.allEq]
  | x :: a, y :: b => by simp [Lib.allEq, eqCh_iff, allEq_iff a b]
noncomputable def eqL (a b : List Ch) : Bool := Lib.allEq eqCh a b
theorem eqL_iff (a b : List Ch) : eqL a b = true ↔ a = b := allEq_iff a b
theorem eqL_self (a : List Ch) : eqL a a = true := (eqL_iff a a).2 rfl
theorem eqL_false {a b : List Ch} (h : a ≠ b) : eqL a b = false := by
  cases e : eqL a b
  · rfl
  · exact absurd ((eqL_iff a b).1 e) h

end Go.Proofs.YtdbaacalfbbdiaaGreatDoor.Batch
namespace Go.Proofs.YtdbaacalfbbdiaaGreatDoor.Batch
open Go.RowKit
set_option linter.unusedVariables false

set_option maxRecDepth 1000000 in
set_option maxHeartbeats 4000000 in
theorem to_any {w : World} {v : Value} {l : List Ch} (hv : Rd w v l) (hl : l.length ≤ 100000) :
    Calls Tryz.prog 34 #[v] w fun e w' => ∃ v', e = .returned v' ∧ Own w' w.heap.size 68 v' l ∧ Below w.heap.size w w' := by
  obtain ⟨ao, cap, rfl, hlc, hcm, hwf, hcell⟩ := hv
  obtain ⟨i0, hi, hz0, hz1, hz2⟩ := info_parts infoCh
  have HC := Lib.hid hcell
  have HL := Lib.hid hl
  have hlen : l.length ≤ 9223372036854775807 := by omega
  clear hwf hcell hlc hcm hl
  go_enter Tryz.func34, Tryz.ntmps34
  go_wp2
  go_loopg [3, 4] (l.length + 1) (fun k o t wr => ∃ i : Nat, i + k = l.length + 1 ∧ i ≤ l.length ∧ t = .int .i64 i ∧ wr.ownsRow w.heap.size 68 3 o i (cellsL (l.take i)) ∧ Below w.heap.size w wr)
  case atStart => exact ⟨0, by omega, by omega, rfl, World.ownsRow_nil _ _ _ _, Below.refl _ _⟩
  case round =>
    obtain ⟨i, hik, hil, rfl, hown, hbw⟩ := hrel
    have HIK := Lib.hid hik
    clear hik
    by_cases hlt1 : i < l.length
    · obtain ⟨x, hx, _⟩ := at_of hlt1
      have hne : l ≠ [] := by intro e; rw [e] at hlt1; simp at hlt1
      obtain ⟨b, off, hao, hcc⟩ := HC.out.resolve_left hne
      have q := hcc i x hx
      have hbl := q.lt
      obtain ⟨c0, c1, c2⟩ := q.below hbw hbl
      obtain ⟨p, t, d⟩ := x
      simp only at c0 c1 c2
      have HX := Lib.hid hx
      have HI := Lib.hid hlt1
      subst hao
      have HBL := Lib.hid (show b < w.heap.size from hbl)
      clear hx hne hcc q hbl HC
      have hbase : w.heap.size ≤ wr.heap.size := hbw.size
      have hi0' : (0 : Int) ≤ (i : Int) := Int.natCast_nonneg _
      have hi1 : (i : Int) < (l.length : Int) := by omega
      have ag : u3.ownBlock ≠ some b := fun e => by have := (hown.lt b e).1; have := HBL.out; omega
      have hbl2 : b < wr.heap.size := by have := HBL.out; omega
      go_wp2_with fail
      go_region_held3 (fun w' => w'.cell? ⟨b, off + i * 3, none⟩ = some (.int .i64 p) ∧ w'.cell? ⟨b, off + i * 3 + 1, none⟩ = some (.int .u64 t) ∧ w'.cell? ⟨b, off + i * 3 + 2, none⟩ = some (.int .i64 d))
        (first
          | go_keep
          | (go_split_ands
             refine ⟨?_, ?_, ?_⟩
             · (rw [hgrow.cell_far _ (by simp; omega) (Ne.symm ag)]; assumption)
             · (rw [hgrow.cell_far _ (by simp; omega) (Ne.symm ag)]; assumption)
             · (rw [hgrow.cell_far _ (by simp; omega) (Ne.symm ag)]; assumption)))
        ((refine step_append_lies _ (by rfl) _ _ _ (by rfl) w.heap.size 68 i0 _ 3 24 Tryz.underlying27 hi hz0 hz1 hz2 rfl (by omega) u3 i (cellsL (l.take i)) (by rfl) ((hown.alloc _).drew)
            ⟨wr.heap.size, 0, none⟩ 1 1 [.int .i64 p, .int .u64 t, .int .i64 d] (by rfl) (by rfl) (World.news_of_block (cs := #[.int .i64 p, .int .u64 t, .int .i64 d]) (t := 68) (fr := (0, 0)) (heap_alloc_new wr _)) (by simp [Value.oneCell'])
            (by omega) (by unfold maxLen; omega) (by have := HL.out; omega) (by simp; omega) (wr.heap.size + 1) (by simp) ?_; intro gg cap1 w1 hown1 hgrow hat hlt))
      have hb1 : Below w.heap.size w w1 := ((hbw.alloc hbase _).drew).grown hgrow (by simp; omega) (fun k e => (hown.lt k e).1)
      have HO := Lib.hid hown1
      have HB1 := Lib.hid hb1
      clear hown hown1 hgrow hat hlt hbw hb1 c0 c1 c2 ag
      go_wp2
      go_roundg (l.length - i)
      case measure => have := HIK.out; have := HI.out; omega
      case rel =>
        refine ⟨i + 1, by have := HIK.out; have := HI.out; omega, by have := HI.out; omega, by go_num, ?_, HB1.out⟩
        have e1 : l.take (i + 1) = l.take i ++ [⟨p, t, d⟩] := by rw [List.take_add_one, HX.out]; rfl
        rw [e1, cellsL_snoc]
        exact HO.out
    · have hin : i = l.length := by omega
      have hown2 : Own wr w.heap.size 68 u3 l := by
        have h := hown
        rw [hin, List.take_length] at h
        exact h
      have HO := Lib.hid hown2
      clear hown hown2 hin
      go_wp2
      go_ret
      exact ⟨_, rfl, HO.out, hbw⟩
set_option maxRecDepth 1000000 in
set_option maxHeartbeats 4000000 in
theorem from_any {w : World} {v : Value} {l : List Ch} (hv : Rd w v l) (hl : l.length ≤ 100000) :
    Calls Tryz.prog 36 #[v] w fun e w' => ∃ v', e = .returned v' ∧ Own w' w.heap.size 117 v' l ∧ Below w.heap.size w w' := by
  obtain ⟨ao, cap, rfl, hlc, hcm, hwf, hcell⟩ := hv
  obtain ⟨i0, hi, hz0, hz1, hz2⟩ := info_parts infoRf
  have HC := Lib.hid hcell
  have HL := Lib.hid hl
  have hlen : l.length ≤ 9223372036854775807 := by omega
  clear hwf hcell hlc hcm hl
  go_enter Tryz.func36, Tryz.ntmps36
  go_wp2
  go_loopg [3, 4] (l.length + 1) (fun k o t wr => ∃ i : Nat, i + k = l.length + 1 ∧ i ≤ l.length ∧ t = .int .i64 i ∧ wr.ownsRow w.heap.size 117 3 o i (cellsL (l.take i)) ∧ Below w.heap.size w wr)
  case atStart => exact ⟨0, by omega, by omega, rfl, World.ownsRow_nil _ _ _ _, Below.refl _ _⟩
  case round =>
    obtain ⟨i, hik, hil, rfl, hown, hbw⟩ := hrel
    have HIK := Lib.hid hik
    clear hik
    by_cases hlt1 : i < l.length
    · obtain ⟨x, hx, _⟩ := at_of hlt1
      have hne : l ≠ [] := by intro e; rw [e] at hlt1; simp at hlt1
      obtain ⟨b, off, hao, hcc⟩ := HC.out.resolve_left hne
      have q := hcc i x hx
      have hbl := q.lt
      obtain ⟨c0, c1, c2⟩ := q.below hbw hbl
      obtain ⟨p, t, d⟩ := x
      simp only at c0 c1 c2
      have HX := Lib.hid hx
      have HI := Lib.hid hlt1
      subst hao
      have HBL := Lib.hid (show b < w.heap.size from hbl)
      clear hx hne hcc q hbl HC
      have hbase : w.heap.size ≤ wr.heap.size := hbw.size
      have hi0' : (0 : Int) ≤ (i : Int) := Int.natCast_nonneg _
      have hi1 : (i : Int) < (l.length : Int) := by omega
      have ag : u3.ownBlock ≠ some b := fun e => by have := (hown.lt b e).1; have := HBL.out; omega
      have hbl2 : b < wr.heap.size := by have := HBL.out; omega
      go_wp2_with fail
      go_region_held3 (fun w' => w'.cell? ⟨b, off + i * 3, none⟩ = some (.int .i64 p) ∧ w'.cell? ⟨b, off + i * 3 + 1, none⟩ = some (.int .u64 t) ∧ w'.cell? ⟨b, off + i * 3 + 2, none⟩ = some (.int .i64 d))
        (first
          | go_keep
          | (go_split_ands
             refine ⟨?_, ?_, ?_⟩
             · (rw [hgrow.cell_far _ (by simp; omega) (Ne.symm ag)]; assumption)
             · (rw [hgrow.cell_far _ (by simp; omega) (Ne.symm ag)]; assumption)
             · (rw [hgrow.cell_far _ (by simp; omega) (Ne.symm ag)]; assumption)))
        ((refine step_append_lies _ (by rfl) _ _ _ (by rfl) w.heap.size 117 i0 _ 3 24 Tryz.underlying23 hi hz0 hz1 hz2 rfl (by omega) u3 i (cellsL (l.take i)) (by rfl) ((hown.alloc _).drew)
            ⟨wr.heap.size, 0, none⟩ 1 1 [.int .i64 p, .int .u64 t, .int .i64 d] (by rfl) (by rfl) (World.news_of_block (cs := #[.int .i64 p, .int .u64 t, .int .i64 d]) (t := 117) (fr := (0, 0)) (heap_alloc_new wr _)) (by simp [Value.oneCell'])
            (by omega) (by unfold maxLen; omega) (by have := HL.out; omega) (by simp; omega) (wr.heap.size + 1) (by simp) ?_; intro gg cap1 w1 hown1 hgrow hat hlt))
      have hb1 : Below w.heap.size w w1 := ((hbw.alloc hbase _).drew).grown hgrow (by simp; omega) (fun k e => (hown.lt k e).1)
      have HO := Lib.hid hown1
      have HB1 := Lib.hid hb1
      clear hown hown1 hgrow hat hlt hbw hb1 c0 c1 c2 ag
      go_wp2
      go_roundg (l.length - i)
      case measure => have := HIK.out; have := HI.out; omega
      case rel =>
        refine ⟨i + 1, by have := HIK.out; have := HI.out; omega, by have := HI.out; omega, by go_num, ?_, HB1.out⟩
        have e1 : l.take (i + 1) = l.take i ++ [⟨p, t, d⟩] := by rw [List.take_add_one, HX.out]; rfl
        rw [e1, cellsL_snoc]
        exact HO.out
    · have hin : i = l.length := by omega
      have hown2 : Own wr w.heap.size 117 u3 l := by
        have h := hown
        rw [hin, List.take_length] at h
        exact h
      have HO := Lib.hid hown2
      clear hown hown2 hin
      go_wp2
      go_ret
      exact ⟨_, rfl, HO.out, hbw⟩
end Go.Proofs.YtdbaacalfbbdiaaGreatDoor.Batch
