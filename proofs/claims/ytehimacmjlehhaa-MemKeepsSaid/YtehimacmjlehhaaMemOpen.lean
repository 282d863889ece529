/-
  THE ARGUMENTS OF THE LAWS OF PACKAGE mem: a slice of numbers of 64 bits without a sign.
-/
import Derived.Test.YtehimacmjlehhaaMemMem
import Derived.Test.YtehimacmjlehhaaPickOpen
import Derived.Test.YtehimacmjlehhaaFrOpenL
namespace Go.Proofs.Ytehimacmjlehhaa.Mm
open Go.ChangeShapes Go.WideShapes Go.ChangeAt Go.Deep Go.RowKit Rw
set_option linter.unusedVariables false

theorem rru_of {H : Type} {enc : TypeId × Value → H} {w : World} {fuel : Nat} {v : Value} {d : DataW H} {p : List MemPlace}
    (h : DataW.trod enc Try.prog w 0 (fun _ => true) true fuel 44 [v] = some (d, p)) : ∃ l, Rr u64K w v l := by
  rcases open_ints Try.underlying44 Try.underlying30 (by kernel_rfl) h with ⟨hcs, _⟩ | ⟨a, len, cap, zs, hcs, _, hl, hm, hz, _, hcell, hwf⟩
  · simp at hcs
    subst hcs
    exact ⟨[], none, 0, rfl, .inl rfl, by simp, by simp, by simp⟩
  · simp at hcs
    subst hcs
    have hcap : cap ≤ 9223372036854775807 := by unfold maxLen at hm; omega
    have hz' : zs.length = cap := by simpa using hz
    refine ⟨zs.take len, rr_of (by decide) (by rw [List.length_take]; omega) hl hcap (fun x hx => Batch.bounds_u64 (hwf x (List.mem_of_mem_take hx))) fun i x hx c u hc hu => ?_⟩
    obtain rfl : c = 0 := by have : c < 1 := hc; omega
    have hu' : u = .int .u64 x := by
      have : [Value.int IntKind.u64 x][0]? = some u := hu
      simpa using this.symm
    subst hu'
    have hi : i < len := by have := (List.getElem?_eq_some_iff.1 hx).1; rw [List.length_take] at this; omega
    rw [List.getElem?_take_of_lt hi] at hx
    have := hcell i (by omega)
    rw [List.getD_eq_getElem?_getD, hx] at this
    rw [show i * u64K.k + 0 = i from Nat.mul_one i]
    exact this
end Go.Proofs.Ytehimacmjlehhaa.Mm
