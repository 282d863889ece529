
/-
  THE DECIMAL TEXT OF A NUMBER OF 64 BITS: the library's FormatUint at base 10, package stamp's Text, and the document's own Num and Text: a contract each.
-/
import Derived.Test.YtkcmeklgnbejiaaDoorStamp
import Derived.Test.YtkcmeklgnbejiaaDoorShelf
import Derived.Lib.ItoaMem
import Derived.Lib.AppendIntMem
import Derived.Lib.Walk
import Derived.BigCall
import Derived.BigGuard
import Derived.Deep.RegionWith
import Derived.Deep.QuietTactic
import Derived.BigQuiet
namespace Go.Proofs.YtkcmeklgnbejiaaDoor.Stamp
open Go.RowKit Go.Sort Go.Lib
set_option linter.unusedVariables false

theorem holds_zero0 (w : World) (T : TypeId) (nd : Nat) (hs : nd ≤ 24) : Holds (fun (b : UInt8) => Value.int .u8 (b.toNat : Int)) (w.alloc (.cells zeros24 T)) w.heap.size 0 (Array.replicate nd (0 : UInt8)) := fun j hj => by
  have hj' : j < nd := by simpa using hj
  refine ⟨?_, World.frozen?_alloc_new _ _ _ _⟩
  rw [Nat.zero_add, World.cell?_alloc_new, zeros24_at _ (by omega), getElem!_pos _ j hj]
  simp
theorem fin0 (w : World) (o : Obj) (dk : Array UInt8) (k : Nat) : ∃ os, (putRow (fun (b : UInt8) => Value.int .u8 (b.toNat : Int)) (w.alloc o) w.heap.size 0 dk).drewN k = grow (w.drewN k) os := by
  rw [alloc_eq_grow]
  obtain ⟨os', _, e⟩ := putRow_grow_new (fun (b : UInt8) => Value.int .u8 (b.toNat : Int)) w #[o] w.heap.size 0 dk (Nat.le_refl _)
  exact ⟨os', by rw [e]; rfl⟩

/-- The table of the powers of ten, as the library reads it. -/
def Tab (w : World) : Prop := Lib.TabIs Tryd.prog w "internal/strconv.uint64pow10" .u64 Lib.pow10Tab

/-- The decimal text, as a string. -/
def numS (n : Int) : ByteArray := ⟨(Lib.decDigits n.toNat).toArray⟩
def neverS : ByteArray := { data := #[110, 101, 118, 101, 114] }
def textS (n : Int) : ByteArray := if n = 18446744073709551615 then neverS else numS n

theorem nDigits_le (u : Nat) (hu : u < 18446744073709551616) : Lib.nDigits u ≤ 20 := by
  by_cases h : 1 ≤ u
  · have := Lib.numDigits_eq u h hu; split at this <;> omega
  · obtain rfl : u = 0 := by omega
    rw [Lib.nDigits_small (by omega)]; omega
theorem numS_size {n : Int} (h : U n) : (numS n).size ≤ 20 := by
  unfold U at h
  have e : (numS n).size = Lib.nDigits n.toNat := by
    show (Lib.decDigits n.toNat).toArray.size = _
    rw [List.size_toArray, Lib.decDigits_length]
  rw [e]
  exact nDigits_le _ (by omega)

/-! The document's own text of a number: a digit by a digit. -/
def digs : ByteArray := { data := #[48, 49, 50, 51, 52, 53, 54, 55, 56, 57] }
theorem dig_at (d : Nat) (h : d < 10) : digs.extract d (d + 1) = ⟨#[UInt8.ofNat (48 + d)]⟩ := by
  rcases d with _ | _ | _ | _ | _ | _ | _ | _ | _ | _ | d
  all_goals first | decide | rfl | omega
theorem numS_small {n : Int} (h0 : 0 ≤ n) (h : n < 10) : numS n = digs.extract n.toNat (n + 1).toNat := by
  rw [show (n + 1).toNat = n.toNat + 1 by omega, dig_at _ (by omega)]
  unfold numS
  rw [Lib.decDigits, dif_pos (by omega)]
theorem numS_big {n : Int} (h0 : 0 ≤ n) (h : ¬ n < 10) : numS n = numS (n / 10) ++ digs.extract (n % 10).toNat (n % 10 + 1).toNat := by
  rw [show (n % 10 + 1).toNat = (n % 10).toNat + 1 by omega, dig_at _ (by omega)]
  unfold numS
  rw [Lib.decDigits, dif_neg (by omega), show (n / 10).toNat = n.toNat / 10 by omega, show (n % 10).toNat = n.toNat % 10 by omega]
  apply ByteArray.ext
  simp

theorem refNum_any (k : Nat) : ∀ (n : Int) (w : World), n ≤ k → U n →
    Calls Tryd.prog 68 #[.int .u64 n] w fun e w' => e = .returned (.string (numS n)) ∧ ∃ m, w' = w.drewN m := by
  induction k with
  | zero =>
    intro n w hk hn
    obtain ⟨hn1, hn2⟩ := hn
    have hlt : n < 10 := by omega
    have HR := Lib.hid (numS_small hn1 hlt)
    go_enter Tryd.func68, Tryd.ntmps68
    go_wp2_with fail
    go_ret
    exact ⟨by rw [HR.out]; rfl, 0, rfl⟩
  | succ k ih =>
    intro n w hk hn
    have hnu := hn
    obtain ⟨hn1, hn2⟩ := hn
    by_cases hlt : n < 10
    · have HR := Lib.hid (numS_small hn1 hlt)
      go_enter Tryd.func68, Tryd.ntmps68
      go_wp2_with fail
      go_ret
      exact ⟨by rw [HR.out]; rfl, 0, rfl⟩
    · have hq : U (n / 10) := by unfold U at *; omega
      have hqk : n / 10 ≤ k := by omega
      have hsz := numS_size hq
      have HR := Lib.hid (numS_big hn1 hlt)
      have IH := Lib.hid ih
      clear ih
      go_enter Tryd.func68, Tryd.ntmps68
      go_wp2_with fail
      go_quiet ((go_at_call 68; exact Calls.quiet_of (IH.out _ _ hqk hq)))
      go_wp2_with fail
      go_ret
      exact ⟨by rw [HR.out]; rfl, _, rfl⟩

end Go.Proofs.YtkcmeklgnbejiaaDoor.Stamp
