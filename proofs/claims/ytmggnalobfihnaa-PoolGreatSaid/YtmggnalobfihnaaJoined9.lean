/-
  PACKAGE batch: the library's Equal at Changes; Same.
  THE LAWS' OWN To AND From: the same Changes in the other package's words, in memory of the call's own.
-/
import Derived.Test.YtmggnalobfihnaaJoined5
import Derived.LoopTactic
import Derived.StillTactics
import Derived.Deep.RegionHeld3
import Derived.Deep.AppendLies
import Derived.Deep.LoopGhost
import Derived.OwnWalk
namespace Go.Proofs.Ytmggnalobfihnaa.Batch
open Go.RowKit Go.Shelf Go.Lib
set_option linter.unusedVariables false

def sameB (a b : List Ch) : Bool := decide (a.length = b.length) && (List.range a.length).all fun i => eqCh a[i]! b[i]!
theorem eqCh_refl (x : Ch) : eqCh x x = true := (eqCh_iff x x).2 rfl
theorem allEq_iff : ∀ (a b : List Ch), Lib.allEq eqCh a b = true ↔ a = b
  | [], [] => by simp [Lib.allEq]
  | [], y :: b => by simp [Lib.allEq]
  | x :: a, [] => by simp [Lib.allEq]
  | x :: a, y :: b => by simp [Lib.allEq, eqCh_iff, allEq_iff a b]
noncomputable def eqL (a b : List Ch) : Bool := Lib.allEq eqCh a b
theorem eqL_iff (a b : List Ch) : eqL a b = true ↔ a = b := allEq_iff a b
theorem eqL_self (a : List Ch) : eqL a a = true := (eqL_iff a a).2 rfl
theorem eqL_false {a b : List Ch} (h : a ≠ b) : eqL a b = false := by
  cases e : eqL a b
  · rfl
  · exact absurd ((eqL_iff a b).1 e) h

end Go.Proofs.Ytmggnalobfihnaa.Batch
namespace Go.Proofs.Ytmggnalobfihnaa.Batch
open Go.RowKit
set_option linter.unusedVariables false

set_option maxRecDepth 1000000 in
set_option maxHeartbeats 4000000 in
theorem to_any {w : World} {v : Value} {l : List Ch} (hv : Rd w v l) (hl : l.length ≤ 100000) :
    Calls Try.prog 10 #[v] w fun e w' => ∃ v', e = .returned v' ∧ Own w' w.heap.size 58 v' l ∧ Below w.heap.size w w' := by
  obtain ⟨ao, cap, rfl, hlc, hcm, hwf, hcell⟩ := hv
  obtain ⟨i0, hi, hz0, hz1, hz2⟩ := info_parts infoCh
  have HC := Lib.hid hcell
  have HL := Lib.hid hl
  have hlen : l.length ≤ 9223372036854775807 := by omega
  clear hwf hcell hlc hcm hl
  go_enter Try.func10, Try.ntmps10
  go_wp2
  go_loopg [3, 4] (l.length + 1) (fun k o t wr => ∃ i : Nat, i + k = l.length + 1 ∧ i ≤ l.length ∧ t = .int .i64 i ∧ wr.ownsRow w.heap.size 58 3 o i (cellsL (l.take i)) ∧ Below w.heap.size w wr)
  case atStart => exact ⟨0, by omega, by omega, rfl, World.ownsRow_nil _ _ _ _, Below.refl _ _⟩
  case round =>
    obtain ⟨i, hik, hil, rfl, hown, hbw⟩ := hrel
    have HIK := Lib.hid hik
    clear hik
    by_cases hlt1 : i < l.length
    · obtain ⟨x, hx, _⟩ := at_of hlt1
      have hne : l ≠ [] := by intro e; rw [e] at hlt1; simp at hlt1
      obtain ⟨b, off, hao, hcc⟩ := HC.out.resolve_left hne
      have q := hcc i x hx
      have hbl := q.lt
      obtain ⟨c0, c1, c2⟩ := q.below hbw hbl
      obtain ⟨p, t, d⟩ := x
      simp only at c0 c1 c2
      have HX := Lib.hid hx
      have HI := Lib.hid hlt1
      subst hao
      have HBL := Lib.hid (show b < w.heap.size from hbl)
      clear hx hne hcc q hbl HC
      have hbase : w.heap.size ≤ wr.heap.size := hbw.size
      have hi0' : (0 : Int) ≤ (i : Int) := Int.natCast_nonneg _
      have hi1 : (i : Int) < (l.length : Int) := by omega
      have ag : u3.ownBlock ≠ some b := fun e => by have := (hown.lt b e).1; have := HBL.out; omega
      have hbl2 : b < wr.heap.size := by have := HBL.out; omega
      go_wp2_with fail
      go_region_held3 (fun w' => w'.cell? ⟨b, off + i * 3, none⟩ = some (.int .i64 p) ∧ w'.cell? ⟨b, off + i * 3 + 1, none⟩ = some (.int .u64 t) ∧ w'.cell? ⟨b, off + i * 3 + 2, none⟩ = some (.int .i64 d))
        (first
          | go_keep
          | (go_split_ands
             refine ⟨?_, ?_, ?_⟩
             · (rw [hgrow.cell_far _ (by simp; omega) (Ne.symm ag)]; assumption)
             · (rw [hgrow.cell_far _ (by simp; omega) (Ne.symm ag)]; assumption)
             · (rw [hgrow.cell_far _ (by simp; omega) (Ne.symm ag)]; assumption)))
        ((refine step_append_lies _ (by rfl) _ _ _ (by rfl) w.heap.size 58 i0 _ 3 24 Try.underlying42 hi hz0 hz1 hz2 rfl (by omega) u3 i (cellsL (l.take i)) (by rfl) ((hown.alloc _).drew)
            ⟨wr.heap.size, 0, none⟩ 1 1 [.int .i64 p, .int .u64 t, .int .i64 d] (by rfl) (by rfl) (World.news_of_block (cs := #[.int .i64 p, .int .u64 t, .int .i64 d]) (t := 58) (fr := (0, 0)) (heap_alloc_new wr _)) (by simp [Value.oneCell'])
            (by omega) (by unfold maxLen; omega) (by have := HL.out; omega) (by simp; omega) (wr.heap.size + 1) (by simp) ?_; intro gg cap1 w1 hown1 hgrow hat hlt))
      have hb1 : Below w.heap.size w w1 := ((hbw.alloc hbase _).drew).grown hgrow (by simp; omega) (fun k e => (hown.lt k e).1)
      have HO := Lib.hid hown1
      have HB1 := Lib.hid hb1
      clear hown hown1 hgrow hat hlt hbw hb1 c0 c1 c2 ag
      go_wp2
      go_roundg (l.length - i)
      case measure => have := HIK.out; have := HI.out; omega
      case rel =>
        refine ⟨i + 1, by have := HIK.out; have := HI.out; omega, by have := HI.out; omega, by go_num, ?_, HB1.out⟩
        have e1 : l.take (i + 1) = l.take i ++ [⟨p, t, d⟩] := by rw [List.take_add_one, HX.out]; rfl
        rw [e1, cellsL_snoc]
        exact HO.out
    · have hin : i = l.length := by omega
      have hown2 : Own wr w.heap.size 58 u3 l := by
        have h := hown
        rw [hin, List.take_length] at h
        exact h
      have HO := Lib.hid hown2
      clear hown hown2 hin
      go_wp2
      go_ret
      exact ⟨_, rfl, HO.out, hbw⟩
set_option maxRecDepth 1000000 in
set_option maxHeartbeats 4000000 in
theorem from_any {w : World} {v : Value} {l : List Ch} (hv : Rd w v l) (hl : l.length ≤ 100000) :
    Calls Try.prog 19 #[v] w fun e w' => ∃ v', e = .returned v' ∧ Own w' w.heap.size 78 v' l ∧ Below w.heap.size w w' := by
  obtain ⟨ao, cap, rfl, hlc, hcm, hwf, hcell⟩ := hv
  obtain ⟨i0, hi, hz0, hz1, hz2⟩ := info_parts infoRf
  have HC := Lib.hid hcell
  have HL := Lib.hid hl
  have hlen : l.length ≤ 9223372036854775807 := by omega
  clear hwf hcell hlc hcm hl
  go_enter Try.func19, Try.ntmps19
  go_wp2
  go_loopg [3, 4] (l.length + 1) (fun k o t wr => ∃ i : Nat, i + k = l.length + 1 ∧ i ≤ l.length ∧ t = .int .i64 i ∧ wr.ownsRow w.heap.size 78 3 o i (cellsL (l.take i)) ∧ Below w.heap.size w wr)
  case atStart => exact ⟨0, by omega, by omega, rfl, World.ownsRow_nil _ _ _ _, Below.refl _ _⟩
  case round =>
    obtain ⟨i, hik, hil, rfl, hown, hbw⟩ := hrel
    have HIK := Lib.hid hik
    clear hik
    by_cases hlt1 : i < l.length
    · obtain ⟨x, hx, _⟩ := at_of hlt1
      have hne : l ≠ [] := by intro e; rw [e] at hlt1; simp at hlt1
      obtain ⟨b, off, hao, hcc⟩ := HC.out.resolve_left hne
      have q := hcc i x hx
      have hbl := q.lt
      obtain ⟨c0, c1, c2⟩ := q.below hbw hbl
      obtain ⟨p, t, d⟩ := x
      simp only at c0 c1 c2
      have HX := Lib.hid hx
      have HI := Lib.hid hlt1
      subst hao
      have HBL := Lib.hid (show b < w.heap.size from hbl)
      clear hx hne hcc q hbl HC
      have hbase : w.heap.size ≤ wr.heap.size := hbw.size
      have hi0' : (0 : Int) ≤ (i : Int) := Int.natCast_nonneg _
      have hi1 : (i : Int) < (l.length : Int) := by omega
      have ag : u3.ownBlock ≠ some b := fun e => by have := (hown.lt b e).1; have := HBL.out; omega
      have hbl2 : b < wr.heap.size := by have := HBL.out; omega
      go_wp2_with fail
      go_region_held3 (fun w' => w'.cell? ⟨b, off + i * 3, none⟩ = some (.int .i64 p) ∧ w'.cell? ⟨b, off + i * 3 + 1, none⟩ = some (.int .u64 t) ∧ w'.cell? ⟨b, off + i * 3 + 2, none⟩ = some (.int .i64 d))
        (first
          | go_keep
          | (go_split_ands
             refine ⟨?_, ?_, ?_⟩
             · (rw [hgrow.cell_far _ (by simp; omega) (Ne.symm ag)]; assumption)
             · (rw [hgrow.cell_far _ (by simp; omega) (Ne.symm ag)]; assumption)
             · (rw [hgrow.cell_far _ (by simp; omega) (Ne.symm ag)]; assumption)))
        ((refine step_append_lies _ (by rfl) _ _ _ (by rfl) w.heap.size 78 i0 _ 3 24 Try.underlying32 hi hz0 hz1 hz2 rfl (by omega) u3 i (cellsL (l.take i)) (by rfl) ((hown.alloc _).drew)
            ⟨wr.heap.size, 0, none⟩ 1 1 [.int .i64 p, .int .u64 t, .int .i64 d] (by rfl) (by rfl) (World.news_of_block (cs := #[.int .i64 p, .int .u64 t, .int .i64 d]) (t := 78) (fr := (0, 0)) (heap_alloc_new wr _)) (by simp [Value.oneCell'])
            (by omega) (by unfold maxLen; omega) (by have := HL.out; omega) (by simp; omega) (wr.heap.size + 1) (by simp) ?_; intro gg cap1 w1 hown1 hgrow hat hlt))
      have hb1 : Below w.heap.size w w1 := ((hbw.alloc hbase _).drew).grown hgrow (by simp; omega) (fun k e => (hown.lt k e).1)
      have HO := Lib.hid hown1
      have HB1 := Lib.hid hb1
      clear hown hown1 hgrow hat hlt hbw hb1 c0 c1 c2 ag
      go_wp2
      go_roundg (l.length - i)
      case measure => have := HIK.out; have := HI.out; omega
      case rel =>
        refine ⟨i + 1, by have := HIK.out; have := HI.out; omega, by have := HI.out; omega, by go_num, ?_, HB1.out⟩
        have e1 : l.take (i + 1) = l.take i ++ [⟨p, t, d⟩] := by rw [List.take_add_one, HX.out]; rfl
        rw [e1, cellsL_snoc]
        exact HO.out
    · have hin : i = l.length := by omega
      have hown2 : Own wr w.heap.size 78 u3 l := by
        have h := hown
        rw [hin, List.take_length] at h
        exact h
      have HO := Lib.hid hown2
      clear hown hown2 hin
      go_wp2
      go_ret
      exact ⟨_, rfl, HO.out, hbw⟩
end Go.Proofs.Ytmggnalobfihnaa.Batch
