/-
  PACKAGE fault's Text, walked: what it answers of nil, and of a chain of at most twelve short places.
  PACKAGE fault's At, and the laws' own look whether an error is told at its places.
  THE LAWS' OWN CUT: at most twelve places, at most twenty letters of each: in memory of the call's own.
  THE LAWS' OWN CHAIN: an error of a kind at places, the outer ones ahead.
  THE DOCUMENT's OWN ANSWER IN WORDS: a number below 0 too; the words of the kinds; places and kind in words.
-/
import Derived.Test.YtdbaacalfbbdiaaGreatDoorJoined13
import Derived.StillTactics
import Derived.Deep.RegionHeld3
import Derived.Deep.AppendLies
import Derived.StillTailTactics
namespace Go.Proofs.YtdbaacalfbbdiaaGreatDoor.Fault
open Go.RowKit
set_option linter.unusedVariables false
set_option linter.unusedSimpArgs false

/-- The end of Text: the kind's word behind the places. -/
theorem plCells_at (l : List Pl) (i : Nat) (s : ByteArray) (n : Int) (h : l[i]? = some (s, n)) : (plCells l)[i * 2]? = some (.string s) ∧ (plCells l)[i * 2 + 1]? = some (.int .i64 n) := by
  induction l generalizing i with
  | nil => simp at h
  | cons x r ih =>
    cases i with
    | zero => simp at h; subst h; exact ⟨rfl, rfl⟩
    | succ i =>
      have h' : r[i]? = some (s, n) := by simpa using h
      obtain ⟨a, b⟩ := ih i h'
      have e : plCells (x :: r) = .string x.1 :: .int .i64 x.2 :: plCells r := rfl
      rw [e, show (i + 1) * 2 = i * 2 + 2 by omega, show i * 2 + 2 + 1 = (i * 2 + 1) + 2 by omega]
      exact ⟨by simpa using a, by simpa using b⟩

theorem keep_pl {b k : Nat} {w w' : World} {cs : Array Value} (h : Bld.Keeps b w w') (hk : k ≠ b) (hw : w.heap[k]? = some (.cells cs 130 (0, 0))) : w'.heap[k]? = some (.cells cs 130 (0, 0)) :=
  h.2 k _ hk hw (fun cur fz e => by injection e with _ h2 _; revert h2; decide)
theorem heap_below {k : Nat} {w w' : World} {o : Obj} (h : Below w.heap.size w w') (hw : w.heap[k]? = some o) : w'.heap[k]? = some o := by
  have hk : k < w.heap.size := by
    rcases Nat.lt_or_ge k w.heap.size with h1 | h1
    · exact h1
    · rw [Array.getElem?_eq_none h1] at hw; cases hw
  rw [h.block k hk]; exact hw
theorem cur_at {cur : Array Value} {l : List Pl} (h : cur.toList.take (l.length * 2) = plCells l) {j : Nat} {v : Value} (hv : (plCells l)[j]? = some v) (hj : j < l.length * 2) : cur[j]? = some v := by
  rw [← h, List.getElem?_take_of_lt hj] at hv
  rw [← Array.getElem?_toList]; exact hv

end Go.Proofs.YtdbaacalfbbdiaaGreatDoor.Fault
namespace Go.Proofs.YtdbaacalfbbdiaaGreatDoor.Fault
open Go.RowKit
set_option linter.unusedVariables false

theorem at_nil (s : ByteArray) (n : Int) (w : World) : Calls Tryz.prog 49 #[.nilIface, .string s, .int .i64 n] w fun e w' => e = .returned .nilIface ∧ w' = w := by
  go_enter Tryz.func49, Tryz.ntmps49
  go_wp2
  go_ret
  exact ⟨rfl, rfl⟩
abbrev placedO (v : Value) (s : ByteArray) (n : Int) : Obj := .cells #[v, .string s, .int .i64 n] 132
theorem at_some (u : TypeId) (x : Value) (s : ByteArray) (n : Int) (w : World) : Calls Tryz.prog 49 #[.iface u x, .string s, .int .i64 n] w fun e w' => e = .returned (placedV w.heap.size) ∧ w' = w.alloc (placedO (.iface u x) s n) := by
  go_enter Tryz.func49, Tryz.ntmps49
  go_wp2
  go_ret
  exact ⟨rfl, rfl⟩
theorem toldText : ((⟨(textL [({ data := #[101, 100, 103, 101] }, 3), ({ data := #[116, 111] }, 9)] 2).toArray⟩ : ByteArray).toList == [101, 100, 103, 101, 32, 51, 58, 32, 116, 111, 32, 57, 58, 32, 112, 111, 114, 116]) = true := by
  rw [Lib.toList_data]
  simp [textL, placesL, placeL, Lib.itoa, Lib.decDigits, wordS, wordL]

end Go.Proofs.YtdbaacalfbbdiaaGreatDoor.Fault
namespace Go.Proofs.YtdbaacalfbbdiaaGreatDoor.Fault
open Go.RowKit
set_option linter.unusedVariables false

/-- A slice of places that came in, as it reads. -/
def Reads (w : World) (v : Value) (l : List Pl) : Prop := ∃ (ao : Option Addr) (cap : Nat), v = .slice ao l.length cap ∧ l.length ≤ 9223372036854775807 ∧ (∀ x ∈ l, x.1.size ≤ 9223372036854775807 ∧ -9223372036854775808 ≤ x.2 ∧ x.2 ≤ 9223372036854775807) ∧
  (l = [] ∨ ∃ b off, ao = some ⟨b, off, none⟩ ∧ ∀ i s n, l[i]? = some (s, n) → w.cell? ⟨b, off + i * 2, none⟩ = some (.string s) ∧ w.cell? ⟨b, off + i * 2 + 1, none⟩ = some (.int .i64 n))
def cutS (s : ByteArray) : ByteArray := s.extract 0 (min s.size 20)
def fewL (l : List Pl) : List Pl := (l.take 12).map fun x => (cutS x.1, x.2)
theorem fewL_at {l : List Pl} {i : Nat} {s : ByteArray} {n : Int} (h : l[i]? = some (s, n)) (hi : i < 12) : (fewL l).take (i + 1) = (fewL l).take i ++ [(cutS s, n)] := by
  rw [List.take_add_one]
  congr 1
  unfold fewL
  rw [List.getElem?_map, List.getElem?_take_of_lt hi, h]
  rfl
theorem fewL_length (l : List Pl) : (fewL l).length = min 12 l.length := by unfold fewL; simp
theorem infoRP : (Tryz.prog.info? 124).map (fun i => (i.zero, i.size, i.bytes)) = some (some (.agg #[.string ⟨#[]⟩, .int .i64 0]), 2, 24) := by kernel_rfl

theorem cut_facts (s : ByteArray) (hs : s.size ≤ 9223372036854775807) : ∃ m : Int, (∀ (ts : Array TypeId) (t : TypeId) (w : World), (Builtin.min_ ts t #[.int .i64 s.size, .int .i64 20]).run Tryz.prog w = .ok (.int .i64 m) w) ∧
    ∀ w, (Instr.slice 9 (.string s) none (some (.int .i64 m)) none).run Tryz.prog w = .ok (.string (cutS s)) w := by
  refine ⟨if (20 : Int) < s.size then 20 else s.size, fun ts t w => run_min_int2 w ts t .i64 .i64 _ _, fun w => ?_⟩
  have hm : (if (20 : Int) < s.size then (20 : Int) else s.size).toNat = min s.size 20 := by split <;> omega
  rw [run_slice_string_h (t := 9) (P := Tryz.prog) (s := s) (w := w) Tryz.underlying9 .i64 _ (by split <;> omega) (by split <;> omega), hm]
  rfl

end Go.Proofs.YtdbaacalfbbdiaaGreatDoor.Fault
namespace Go.Proofs.YtdbaacalfbbdiaaGreatDoor.Fault
open Go.RowKit
set_option linter.unusedVariables false

theorem Reads.below {w w' : World} {v : Value} {l : List Pl} (h : Reads w v l) (hb : Below w.heap.size w w') : Reads w' v l := by
  obtain ⟨ao, cap, h1, h2, h3, h4⟩ := h
  refine ⟨ao, cap, h1, h2, h3, ?_⟩
  rcases h4 with h4 | ⟨b, off, h5, h6⟩
  · exact .inl h4
  · refine .inr ⟨b, off, h5, fun i s n hx => ?_⟩
    obtain ⟨q0, q1⟩ := h6 i s n hx
    exact ⟨(hb.cell (p := ⟨b, off + i * 2, none⟩) (Lib.lt_of_cell q0)).trans q0, (hb.cell (p := ⟨b, off + i * 2 + 1, none⟩) (Lib.lt_of_cell q1)).trans q1⟩
theorem reads_own {w : World} {B : Nat} {T : TypeId} {v : Value} {l : List Pl} (h : w.ownsRow B T 2 v l.length (plCells l)) (hl : l.length ≤ 1000) (hs : ∀ x ∈ l, Small x) : Reads w v l := by
  have hok : ∀ x ∈ l, x.1.size ≤ 9223372036854775807 ∧ -9223372036854775808 ≤ x.2 ∧ x.2 ≤ 9223372036854775807 := fun x hx => ⟨by have := (hs x hx).1; omega, (hs x hx).2⟩
  rcases h.2 with ⟨hv, h0⟩ | ⟨g, cap, cur, hv, hB, hg, hle, hcap, hsz, hcur⟩
  · exact ⟨none, 0, by rw [hv, h0], by omega, hok, .inl (List.eq_nil_of_length_eq_zero h0)⟩
  · refine ⟨some ⟨g, 0, none⟩, cap, hv, by omega, hok, .inr ⟨g, 0, rfl, fun i s n hx => ?_⟩⟩
    have hi : i < l.length := (List.getElem?_eq_some_iff.1 hx).1
    obtain ⟨p0, p1⟩ := plCells_at l i s n hx
    rw [Nat.zero_add, Lib.cell_of_heap hg, Lib.cell_of_heap hg]
    exact ⟨cur_at hcur p0 (by omega), cur_at hcur p1 (by omega)⟩

end Go.Proofs.YtdbaacalfbbdiaaGreatDoor.Fault
namespace Go.Proofs.YtdbaacalfbbdiaaGreatDoor.Fault
open Go.RowKit
set_option linter.unusedVariables false

def itoaS (n : Int) : ByteArray := ⟨(Lib.itoa n).toArray⟩
theorem itoaS_neg {n : Int} (h : n < 0) : itoaS n = ({ data := #[45] } : ByteArray) ++ Stamp.numS (-(n + 1) + 1) := by
  unfold itoaS Lib.itoa Stamp.numS
  rw [if_pos h, show (-(n + 1) + 1).toNat = n.natAbs by omega]
  apply ByteArray.ext
  simp
theorem itoaS_pos {n : Int} (h : ¬ n < 0) : itoaS n = Stamp.numS n := by unfold itoaS Lib.itoa Stamp.numS; rw [if_neg h]
theorem itoaS_size {n : Int} (h0 : -9223372036854775808 ≤ n) (h1 : n ≤ 9223372036854775807) : (itoaS n).size ≤ 21 := by
  have := itoa_length n h0 h1
  show (Lib.itoa n).toArray.size ≤ 21
  rw [List.size_toArray]; exact this

theorem num_any (n : Int) (h0 : -9223372036854775808 ≤ n) (h1 : n ≤ 9223372036854775807) (w : World) :
    Calls Tryz.prog 38 #[.int .i64 n] w fun e w' => e = .returned (.string (itoaS n)) ∧ ∃ m, w' = w.drewN m := by
  by_cases hn : n < 0
  · have HR := Lib.hid (itoaS_neg hn)
    have hu : Stamp.U (-(n + 1) + 1) := by unfold Stamp.U; omega
    have HC := Lib.hid (Stamp.refNum_any (-(n + 1) + 1).toNat (-(n + 1) + 1) w (by omega) hu)
    have hsz := Stamp.numS_size hu
    go_enter Tryz.func38, Tryz.ntmps38
    go_wp2_with fail
    go_at_call 65
    refine HC.out.mono ?_
    rintro e w' ⟨rfl, m, rfl⟩
    go_wp2_with fail
    go_ret
    exact ⟨by rw [HR.out]; rfl, m, rfl⟩
  · have HR := Lib.hid (itoaS_pos hn)
    have hu : Stamp.U n := by unfold Stamp.U; omega
    have HC := Lib.hid (Stamp.refNum_any n.toNat n w (by omega) hu)
    have hn0 : 0 ≤ n := by omega
    go_enter Tryz.func38, Tryz.ntmps38
    go_wp2_with fail
    go_at_call 65
    refine HC.out.mono ?_
    rintro e w' ⟨rfl, m, rfl⟩
    go_wp2_with fail
    go_ret
    exact ⟨by rw [HR.out]; rfl, m, rfl⟩

end Go.Proofs.YtdbaacalfbbdiaaGreatDoor.Fault
