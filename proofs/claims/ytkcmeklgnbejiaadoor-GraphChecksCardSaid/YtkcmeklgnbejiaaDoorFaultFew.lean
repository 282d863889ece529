
/-
  THE LAWS' OWN CUT: at most twelve places, at most twenty letters of each: in memory of the call's own.
-/
import Derived.Test.YtkcmeklgnbejiaaDoorFaultAt
import Derived.StillTactics
import Derived.Deep.RegionHeld3
import Derived.Deep.AppendLies
namespace Go.Proofs.YtkcmeklgnbejiaaDoor.Fault
open Go.RowKit
set_option linter.unusedVariables false

/-- A slice of places that came in, as it reads. -/
def Reads (w : World) (v : Value) (l : List Pl) : Prop := ∃ (ao : Option Addr) (cap : Nat), v = .slice ao l.length cap ∧ l.length ≤ 9223372036854775807 ∧ (∀ x ∈ l, x.1.size ≤ 9223372036854775807 ∧ -9223372036854775808 ≤ x.2 ∧ x.2 ≤ 9223372036854775807) ∧
  (l = [] ∨ ∃ b off, ao = some ⟨b, off, none⟩ ∧ ∀ i s n, l[i]? = some (s, n) → w.cell? ⟨b, off + i * 2, none⟩ = some (.string s) ∧ w.cell? ⟨b, off + i * 2 + 1, none⟩ = some (.int .i64 n))
def cutS (s : ByteArray) : ByteArray := s.extract 0 (min s.size 20)
def fewL (l : List Pl) : List Pl := (l.take 12).map fun x => (cutS x.1, x.2)
theorem fewL_at {l : List Pl} {i : Nat} {s : ByteArray} {n : Int} (h : l[i]? = some (s, n)) (hi : i < 12) : (fewL l).take (i + 1) = (fewL l).take i ++ [(cutS s, n)] := by
  rw [List.take_add_one]
  congr 1
  unfold fewL
  rw [List.getElem?_map, List.getElem?_take_of_lt hi, h]
  rfl
theorem fewL_length (l : List Pl) : (fewL l).length = min 12 l.length := by unfold fewL; simp
theorem infoRP : (Tryd.prog.info? 77).map (fun i => (i.zero, i.size, i.bytes)) = some (some (.agg #[.string ⟨#[]⟩, .int .i64 0]), 2, 24) := by kernel_rfl

theorem cut_facts (s : ByteArray) (hs : s.size ≤ 9223372036854775807) : ∃ m : Int, (∀ (ts : Array TypeId) (t : TypeId) (w : World), (Builtin.min_ ts t #[.int .i64 s.size, .int .i64 20]).run Tryd.prog w = .ok (.int .i64 m) w) ∧
    ∀ w, (Instr.slice 9 (.string s) none (some (.int .i64 m)) none).run Tryd.prog w = .ok (.string (cutS s)) w := by
  refine ⟨if (20 : Int) < s.size then 20 else s.size, fun ts t w => run_min_int2 w ts t .i64 .i64 _ _, fun w => ?_⟩
  have hm : (if (20 : Int) < s.size then (20 : Int) else s.size).toNat = min s.size 20 := by split <;> omega
  rw [run_slice_string_h (t := 9) (P := Tryd.prog) (s := s) (w := w) Tryd.underlying9 .i64 _ (by split <;> omega) (by split <;> omega), hm]
  rfl

end Go.Proofs.YtkcmeklgnbejiaaDoor.Fault
