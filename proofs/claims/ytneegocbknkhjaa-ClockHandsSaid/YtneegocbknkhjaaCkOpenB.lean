/-
  THE ARGUMENTS OF THE LAWS OF PACKAGE clock: a slice of bools.
-/
import Derived.Test.YtneegocbknkhjaaCkOpen
import Derived.Test.YtneegocbknkhjaaCkAhMem
namespace Go.Proofs.Ytneegocbknkhjaa.Ck
open Go.ChangeShapes Go.WideShapes Go.ChangeAt Go.Deep Go.RowKit Rw Mm
set_option linter.unusedVariables false

set_option maxRecDepth 100000 in
theorem rrb_of {H : Type} {enc : TypeId × Value → H} {w : World} {fuel : Nat} {v : Value} {d : DataW H} {p : List MemPlace}
    (h : DataW.trod enc Try.prog w 0 (fun _ => true) true fuel 61 [v] = some (d, p)) : ∃ l, Rr boolK w v l := by
  have hC : Try.prog.cellsOf 4 = 1 := by kernel_rfl
  rcases open_slice Try.underlying61 h with ⟨hcs, _⟩ | ⟨a, len, cap, m, n, D, Plc, hcs, _, hl, hm, hmm, _, hi⟩
  · simp at hcs
    subst hcs
    exact ⟨[], none, 0, rfl, .inl rfl, by simp, by simp, by simp⟩
  · simp at hcs
    subst hcs
    rw [hC] at hi
    refine rr_row (S := boolK) (by decide) hl hm fun i hil => ?_
    obtain ⟨cs', hc, ht⟩ := hi i (by rw [hmm]; simp; omega)
    rw [Nat.mul_one] at hc
    obtain ⟨_, hcl, hat⟩ := World.cells?_some hc
    have h0 := hat 0 (by omega)
    obtain ⟨u, hu⟩ : ∃ u, cs' = [u] := by
      match cs', hcl with
      | [u], _ => exact ⟨u, rfl⟩
    subst hu
    obtain ⟨b, rfl⟩ := trod_b Try.underlying4 ht
    refine ⟨b, fun c u hcl hu => ?_, trivial⟩
    obtain rfl : c = 0 := by have : c < 1 := hcl; omega
    cases hu
    simpa [show boolK.k = 1 from rfl, Addr.add] using h0
end Go.Proofs.Ytneegocbknkhjaa.Ck
