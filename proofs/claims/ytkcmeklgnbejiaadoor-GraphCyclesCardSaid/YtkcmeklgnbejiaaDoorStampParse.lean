
/-
  PACKAGE stamp's Parse: what it answers, at every string that a slice of bytes may hold: the one number whose Text it is, or the error.
-/
import Derived.Test.YtkcmeklgnbejiaaDoorStampText
import Derived.Lib.AtoiErrMem
import Derived.Lib.ParseIntBMem
namespace Go.Proofs.YtkcmeklgnbejiaaDoor.Stamp
open Go.RowKit Go.Sort Go.Lib
set_option linter.unusedVariables false

theorem tab_below {w w' : World} (h : Tab w) (hb : Below w.heap.size w w') : Tab w' :=
  var?_below hb (show Tryd.prog.globalNamed "internal/strconv.uint64pow10" = some 1 by kernel_rfl) (by
    unfold Tab Lib.TabIs at h
    have := World.var?_cell (show Tryd.prog.globalNamed "internal/strconv.uint64pow10" = some 1 by kernel_rfl) h 0
    exact Lib.lt_of_cell (v := .int .u64 1) (by simpa [Lib.pow10Tab] using this)) h
/-- The time of a text, where it is one's. -/
def parseE (s : ByteArray) : Option Nat :=
  if s = neverS then some 18446744073709551615
  else match Lib.parseUintB 64 s.data.toList with
    | .ok u => if textS u = s then some u else none
    | _ => none
def pv (s : ByteArray) : Int := ((parseE s).getD 0 : Nat)
def pe (s : ByteArray) : Int := if (parseE s).isSome then 0 else 13

theorem never_eq (s : ByteArray) : (s.toList == [110, 101, 118, 101, 114]) = decide (s = neverS) := by
  rw [Bool.eq_iff_iff, beq_iff_eq, decide_eq_true_eq, Lib.toList_data]
  constructor
  · intro h; apply ByteArray.ext; apply Array.ext'; exact h
  · rintro rfl; rfl
theorem parseUintM_le (M : Nat) : ∀ (l : List UInt8) (acc u : Nat), acc ≤ M → Lib.parseUintM M acc l = .ok u → u ≤ M
  | [], acc, u, ha, h => by simp only [Lib.parseUintM, Lib.NumEnd.ok.injEq] at h; omega
  | c :: r, acc, u, ha, h => by
    simp only [Lib.parseUintM] at h
    split at h
    · split at h
      · cases h
      · split at h
        · cases h
        · exact parseUintM_le M r _ u (by omega) h
    · cases h
theorem parseUintB_le {l : List UInt8} {u : Nat} (h : Lib.parseUintB 64 l = .ok u) : u ≤ 18446744073709551615 := by
  unfold Lib.parseUintB at h
  split at h
  · cases h
  · exact parseUintM_le _ l 0 u (Nat.zero_le _) h

end Go.Proofs.YtkcmeklgnbejiaaDoor.Stamp
