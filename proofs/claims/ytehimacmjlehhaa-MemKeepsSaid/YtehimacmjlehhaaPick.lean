/-
  PACKAGE pick, and the document's own: Who; two lists of numbers compared (Ints).
-/
import Derived.Test.YtehimacmjlehhaaRowRd
import Derived.WalkKit
import Derived.WalkLawsBesides
import Derived.WalkSpells
import Derived.WalkSmall
import Derived.StillTactics
import Derived.Deep.QuietTactic
import Derived.BigQuiet
import Derived.Deep.LoopGhost
import Derived.Deep.RegionLaw
import Derived.IntWalk
import Derived.Outline
namespace Go.Proofs.Ytehimacmjlehhaa.Pk
open Go.RowKit Rw
set_option linter.unusedVariables false

/-- A number that a program may hold. -/
def intK : Kd Int where
  k := 1
  cells x := [.int .i64 x]
  wf x := -9223372036854775808 ≤ x ∧ x ≤ 9223372036854775807
  len _ := rfl
  one x u hu := by simp at hu; subst hu; rfl
theorem intK_k : intK.k = 1 := rfl
theorem at1 {w : World} {b o : Nat} {g : Int} (h : AtK intK w b o g) : w.cell? ⟨b, o, none⟩ = some (.int .i64 g) := h 0 _ (by decide) rfl
/-- Whose pick a number is. -/
def whoF (p m : Int) : Int := if m < 1 then -1 else (p % 18446744073709551616) % m
theorem whoF_no {p m : Int} (h : m < 1) : whoF p m = -1 := if_pos h
theorem whoF_in {p m : Int} (h : 1 ≤ m) : 0 ≤ whoF p m ∧ whoF p m < m := by
  unfold whoF
  rw [if_neg (by omega)]
  exact ⟨Int.emod_nonneg _ (by omega), Int.emod_lt_of_pos _ (by omega)⟩
theorem u64_of (p : Int) : IntKind.u64.wrap p = p % 18446744073709551616 := by
  unfold IntKind.wrap
  simp [IntKind.bits, IntKind.signed]
theorem whoF_of {p m : Int} (h : 1 ≤ m) (h2 : m ≤ 9223372036854775807) : wrap64 ((IntKind.u64.wrap p).tmod m) = whoF p m := by
  have h3 := whoF_in (p := p) h
  rw [Int.tmod_eq_emod_of_nonneg (by rw [u64_of]; omega), u64_of]
  unfold whoF wrap64 at *
  rw [if_neg (by omega)] at *
  omega
theorem pbool {a b : Bool} (h : a = b) : Ending.returned (.bool a) = .returned (.bool b) := by rw [h]
theorem pint {k : IntKind} {a b : Int} (h : a = b) : Ending.returned (.int k a) = .returned (.int k b) := by rw [h]

set_option maxHeartbeats 400000 in
theorem who_any (p m : Int) (h2 : m ≤ 9223372036854775807) (w : World) :
    Calls Try.prog 42 #[.int .i64 p, .int .i64 m] w fun e w' => e = .returned (.int .i64 (whoF p m)) ∧ w = w' := by
  by_cases h : m < 1
  · have H := Lib.hid (whoF_no (p := p) h)
    go_enter Try.func42, Try.ntmps42
    go_wp2
    go_ret
    exact ⟨pint H.out.symm, rfl⟩
  · have H := Lib.hid (whoF_of (p := p) (m := m) (by omega) h2)
    have h1 : 1 ≤ m := by omega
    have hu : IntKind.u64.wrap m = m := by rw [u64_of]; omega
    have hne : (IntKind.u64.wrap m == 0) = false := by rw [hu, beq_eq_false_iff_ne]; omega
    go_enter Try.func42, Try.ntmps42
    go_wp2
    go_ret
    exact ⟨pint H.out, rfl⟩

set_option maxHeartbeats 400000 in
theorem refwho_any (p m : Int) (h2 : m ≤ 9223372036854775807) (w : World) :
    Calls Try.prog 43 #[.int .i64 p, .int .i64 m] w fun e w' => e = .returned (.int .i64 (whoF p m)) ∧ w = w' := by
  by_cases h : m < 1
  · have H := Lib.hid (whoF_no (p := p) h)
    go_enter Try.func43, Try.ntmps43
    go_wp2
    go_ret
    exact ⟨pint H.out.symm, rfl⟩
  · have H := Lib.hid (whoF_of (p := p) (m := m) (by omega) h2)
    have h1 : 1 ≤ m := by omega
    have hu : IntKind.u64.wrap m = m := by rw [u64_of]; omega
    have hne : (IntKind.u64.wrap m == 0) = false := by rw [hu, beq_eq_false_iff_ne]; omega
    go_enter Try.func43, Try.ntmps43
    go_wp2
    go_ret
    exact ⟨pint H.out, rfl⟩

/-! ### two lists of numbers compared -/
set_option maxRecDepth 1000000 in
set_option maxHeartbeats 4000000 in
theorem ints_any {w : World} {va vb : Value} {a b : List Int} (ha : Rr intK w va a) (hb : Rr intK w vb b) :
    Calls Try.prog 44 #[va, vb] w fun e w' => e = .returned (.bool (decide (a = b))) ∧ Below w.heap.size w w' := by
  have HA := Lib.hid ha
  have HB := Lib.hid hb
  obtain ⟨ao, acap, rfl, ha1, ha2⟩ := ha.form
  obtain ⟨bo, bcap, rfl, hb1, hb2⟩ := hb.form
  have hla : a.length ≤ 9223372036854775807 := by omega
  have hlb : b.length ≤ 9223372036854775807 := by omega
  clear ha hb
  by_cases hl : a.length = b.length
  · have HF : ∀ i : Nat, a.take i = b.take i → ¬ i < a.length → Hid (decide (a = b) = true) := fun i h1 h2 => Lib.hid (decide_eq_true (by rw [← List.take_of_length_le (Nat.le_of_not_lt h2), h1, List.take_of_length_le (by omega)]))
    have HL := Lib.hid hl
    have hl1 : (((a.length : Int) != (b.length : Int)) = false) := by rw [bne_eq_false_iff_eq]; omega
    have hl2 : ((a.length != b.length) = false) := by rw [bne_eq_false_iff_eq]; omega
    clear hl
    go_enter Try.func44, Try.ntmps44
    go_wp2
    clear hl1 hl2
    go_loopg [5] a.length (fun k s5 wr => ∃ i : Nat, i + k = a.length ∧ s5 = .int .i64 i ∧ Hid (a.take i = b.take i) ∧ ∃ n, wr = w.drewN n)
    case atStart => exact ⟨0, by omega, rfl, Lib.hid rfl, 0, rfl⟩
    case round =>
      obtain ⟨i, hik, rfl, hok, n, rfl⟩ := hrel
      have HIK := Lib.hid hik
      clear hik
      by_cases hlt : i < a.length
      · obtain ⟨x, hx⟩ : ∃ x, a[i]? = some x := ⟨_, List.getElem?_eq_getElem hlt⟩
        obtain ⟨y, hy⟩ : ∃ y, b[i]? = some y := ⟨_, List.getElem?_eq_getElem (by have := HL.out; omega)⟩
        obtain ⟨g, off, rfl, _, q⟩ := HA.out.at hx
        obtain ⟨g', off', rfl, _, q'⟩ := HB.out.at hy
        have c0 := at1 q
        have c1 := at1 q'
        simp only [intK_k, Nat.mul_one] at c0 c1
        have HX := Lib.hid hx
        have HY := Lib.hid hy
        have hi0 : (0 : Int) ≤ (i : Int) := Int.natCast_nonneg _
        have hi1 : (i : Int) < (a.length : Int) := by omega
        have hi2 : (i : Int) < (b.length : Int) := by have := HL.out; omega
        have HLT := Lib.hid hlt
        clear hx hy q q' hlt
        by_cases hxy : x = y
        · have e1 : (x != y) = false := by rw [bne_eq_false_iff_eq]; exact hxy
          have HXY := Lib.hid hxy
          clear hxy
          go_wp2_with fail
          go_quiet (fail)
          go_wp2_with fail
          go_roundg (gk - 1)
          case measure => have := HIK.out; have := HLT.out; omega
          case rel => exact ⟨i + 1, by have := HIK.out; have := HLT.out; omega, by go_num, Lib.hid (by rw [List.take_add_one, List.take_add_one, hok.out, HX.out, HY.out, HXY.out]), _, rfl⟩
        · have e1 : (x != y) = true := by rw [bne_iff_ne]; exact hxy
          have HN := Lib.hid (show decide (a = b) = false from decide_eq_false (fun e => by have h1 := HX.out; rw [e, HY.out] at h1; exact hxy (Option.some.inj h1).symm))
          clear hxy
          go_wp2_with fail
          go_quiet (fail)
          go_wp2_with fail
          go_ret
          exact ⟨pbool HN.out.symm, below_drewN (below_drewN (Below.refl _ _) _) _⟩
      · have HT := HF i hok.out hlt
        have hj2 : decide ((i : Int) < (a.length : Int)) = false := decide_eq_false (by omega)
        clear HF
        go_wp2_with fail
        go_ret
        exact ⟨pbool HT.out.symm, below_drewN (Below.refl _ _) _⟩
  · have HN := Lib.hid (show decide (a = b) = false from decide_eq_false (fun e => hl (by rw [e])))
    have hl1 : (((a.length : Int) != (b.length : Int)) = true) := by rw [bne_iff_ne]; omega
    have hl2 : ((a.length != b.length) = true) := by rw [bne_iff_ne]; omega
    clear hl
    go_enter Try.func44, Try.ntmps44
    go_wp2
    go_ret
    exact ⟨pbool HN.out.symm, Below.refl _ _⟩
end Go.Proofs.Ytehimacmjlehhaa.Pk
