/-
  PACKAGE marchlandlaw08: Same: the same accesses.
-/
import Derived.Test.YtneegocbknkhjaaMemMem
namespace Go.Proofs.Ytneegocbknkhjaa.Mm
open Go.RowKit Rw Pk
set_option linter.unusedVariables false

theorem ev_at {w : World} {b o : Nat} {x : Ev} (h : AtK evK w b o x) : w.cell? ⟨b, o, none⟩ = some (.int .i64 x.w) ∧ w.cell? ⟨b, o + 1, none⟩ = some (.int .i64 x.k) ∧ w.cell? ⟨b, o + 2, none⟩ = some (.int .i64 x.a) ∧ w.cell? ⟨b, o + 3, none⟩ = some (.bool x.ok) :=
  ⟨h 0 _ (by decide) rfl, h 1 _ (by decide) rfl, h 2 _ (by decide) rfl, h 3 _ (by decide) rfl⟩
set_option maxRecDepth 1000000 in
set_option maxHeartbeats 8000000 in
theorem evsame_any {w : World} {va vb : Value} {l : List Ev} (ha : Rr evK w va l) (hb : Rr evK w vb l) :
    Calls Try.prog 26 #[va, vb] w fun e w' => e = .returned (.bool true) ∧ Below w.heap.size w w' := by
  have HA := Lib.hid ha
  have HB := Lib.hid hb
  obtain ⟨ao, acap, rfl, ha1, ha2⟩ := ha.form
  obtain ⟨bo, bcap, rfl, hb1, hb2⟩ := hb.form
  have hla : l.length ≤ 9223372036854775807 := by omega
  have hl1 : (((l.length : Int) != (l.length : Int)) = false) := by rw [bne_eq_false_iff_eq]
  have hl2 : ((l.length != l.length) = false) := by rw [bne_eq_false_iff_eq]
  clear ha hb
  go_enter Try.func26, Try.ntmps26
  go_wp2
  clear hl1 hl2
  go_loopg [5] l.length (fun k s5 wr => ∃ i : Nat, i + k = l.length ∧ s5 = .int .i64 i ∧ ∃ n, wr = w.drewN n)
  case atStart => exact ⟨0, by omega, rfl, 0, rfl⟩
  case round =>
    obtain ⟨i, hik, rfl, n, rfl⟩ := hrel
    have HIK := Lib.hid hik
    clear hik
    by_cases hlt : i < l.length
    · obtain ⟨x, hx⟩ : ∃ x, l[i]? = some x := ⟨_, List.getElem?_eq_getElem hlt⟩
      obtain ⟨g, off, rfl, _, q⟩ := HA.out.at hx
      obtain ⟨g', off', rfl, _, q'⟩ := HB.out.at hx
      obtain ⟨c0, c1, c2, c3⟩ := ev_at q
      obtain ⟨d0, d1, d2, d3⟩ := ev_at q'
      simp only [show evK.k = 4 from rfl] at c0 c1 c2 c3 d0 d1 d2 d3
      have hi0 : (0 : Int) ≤ (i : Int) := Int.natCast_nonneg _
      have hi1 : (i : Int) < (l.length : Int) := by omega
      have HLT := Lib.hid hlt
      obtain ⟨xw, xk, xa, xo⟩ := x
      simp only at c0 c1 c2 c3 d0 d1 d2 d3
      have n0 : (xw != xw) = false := by simp
      have n1 : (xk != xk) = false := by simp
      have n2 : (xa != xa) = false := by simp
      have n3 : (xo != xo) = false := by simp
      clear hx q q' hlt
      go_wp2_with fail
      go_quiet (fail)
      go_wp2_with fail
      go_roundg (gk - 1)
      case measure => have := HIK.out; have := HLT.out; omega
      case rel => exact ⟨i + 1, by have := HIK.out; have := HLT.out; omega, by go_num, _, rfl⟩
    · have hj2 : decide ((i : Int) < (l.length : Int)) = false := decide_eq_false (by omega)
      go_wp2_with fail
      go_ret
      exact ⟨rfl, below_drewN (Below.refl _ _) _⟩
end Go.Proofs.Ytneegocbknkhjaa.Mm
