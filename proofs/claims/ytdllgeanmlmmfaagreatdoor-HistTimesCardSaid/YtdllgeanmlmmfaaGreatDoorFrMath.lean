/-
  PACKAGE front, PLAIN MATHEMATICS: the front of a port, by the ports from which something comes, and by the stamps one behind the other.
-/
import Derived.Test.YtdllgeanmlmmfaaGreatDoorGMem
import Derived.Test.YtdllgeanmlmmfaaGreatDoorBagMath
namespace Go.Proofs.YtdllgeanmlmmfaaGreatDoor.Fr
open Go.RowKit Gr
set_option linter.unusedVariables false

/-- The front of port p by the stamps of B at ports below f. -/
def FrontU (B : List Batch.Ch) (M : Nat → Nat → Int) (f p : Nat) (v : Int) : Prop :=
  (0 ≤ v ∧ v ≤ 18446744073709551615) ∧ (∀ x ∈ B, 0 ≤ x.p → x.p < f → v ≤ plusN x.t (M x.p.toNat p)) ∧ (v = 18446744073709551615 ∨ ∃ x ∈ B, 0 ≤ x.p ∧ x.p < f ∧ v = plusN x.t (M x.p.toNat p))
theorem plusN_never {s : Int} (h : 0 ≤ s) : plusN 18446744073709551615 s = 18446744073709551615 := by unfold plusN; split <;> omega
theorem FrontU.start (B : List Batch.Ch) (M : Nat → Nat → Int) (p : Nat) : FrontU B M 0 p 18446744073709551615 := ⟨⟨by decide, by decide⟩, fun x _ h0 h1 => by omega, .inl rfl⟩
theorem FrontU.nil (M : Nat → Nat → Int) (f p : Nat) : FrontU [] M f p 18446744073709551615 := ⟨⟨by decide, by decide⟩, fun x h => by simp at h, .inl rfl⟩
theorem FrontU.one {B : List Batch.Ch} {M : Nat → Nat → Int} {f p : Nat} {v v' : Int} (hm : ∀ x ∈ B, 0 ≤ x.p → x.p < f → plusN x.t (M x.p.toNat p) ≤ 18446744073709551615) (h : FrontU B M f p v) (h' : FrontU B M f p v') : v = v' := by
  rcases h.2.2 with e | ⟨x, hx, h0, h1, e⟩
  · rcases h'.2.2 with e' | ⟨x', hx', h0', h1', e'⟩
    · rw [e, e']
    · have := h.2.1 x' hx' h0' h1'
      have := h'.1
      omega
  · have h2 := h'.2.1 x hx h0 h1
    rcases h'.2.2 with e' | ⟨x', hx', h0', h1', e'⟩
    · have := hm x hx h0 h1
      omega
    · have := h.2.1 x' hx' h0' h1'
      omega
theorem FrontU.port {B : List Batch.Ch} {M : Nat → Nat → Int} {f p : Nat} {v : Int} (hw : ∀ x ∈ B, 0 ≤ x.t ∧ x.t ≤ 18446744073709551615) (h0 : 0 ≤ M f p) (h1 : M f p ≤ 18446744073709551615) (h : FrontU B M f p v) :
    FrontU B M (f + 1) p (min v (plusN (Batch.leastL B f) (M f p))) := by
  have hl := Batch.leastL_le (l := B) (p := (f : Int))
  have hl0 : 0 ≤ Batch.leastL B f := by
    rcases Batch.leastL_is (l := B) (p := (f : Int)) with e | ⟨x, hx, _, e⟩
    · omega
    · have := hw x hx; omega
  have hlo := plusN_lo hl0 h0
  have hle := (plusN_le (s := M f p) hl).1
  refine ⟨⟨by have := h.1; omega, by have := h.1; omega⟩, fun x hx hp0 hp1 => ?_, ?_⟩
  · by_cases e : x.p = f
    · have h2 := Batch.leastL_lo x hx e
      have h3 := plusN_mono h2 (Int.le_refl (M f p)) (hw x hx).2
      have e2 : x.p.toNat = f := by omega
      rw [e2]
      omega
    · have := h.2.1 x hx hp0 (by omega)
      omega
  · by_cases hv : v ≤ plusN (Batch.leastL B f) (M f p)
    · rw [Int.min_eq_left hv]
      rcases h.2.2 with e | ⟨x, hx, hp0, hp1, e⟩
      · exact .inl e
      · exact .inr ⟨x, hx, hp0, by omega, e⟩
    · rw [Int.min_eq_right (by omega)]
      rcases Batch.leastL_is (l := B) (p := (f : Int)) with e | ⟨x, hx, hp, e⟩
      · rw [e, plusN_never h0]; exact .inl rfl
      · refine .inr ⟨x, hx, by omega, by omega, ?_⟩
        have e2 : x.p.toNat = f := by omega
        rw [e2, e]
theorem FrontU.elem {B : List Batch.Ch} {M : Nat → Nat → Int} {n p i : Nat} {v : Int} {x : Batch.Ch} (hx : B[i]? = some x) (h0 : 0 ≤ x.p) (h1 : x.p < n) (hb : 0 ≤ plusN x.t (M x.p.toNat p)) (h : FrontU (B.take i) M n p v) :
    FrontU (B.take (i + 1)) M n p (min v (plusN x.t (M x.p.toNat p))) := by
  rw [take_succ' hx]
  refine ⟨⟨by have := h.1; omega, by have := h.1; omega⟩, fun y hy hp0 hp1 => ?_, ?_⟩
  · rcases List.mem_append.1 hy with hy | hy
    · have := h.2.1 y hy hp0 hp1; omega
    · simp at hy; subst hy; omega
  · by_cases hv : v ≤ plusN x.t (M x.p.toNat p)
    · rw [Int.min_eq_left hv]
      rcases h.2.2 with e | ⟨y, hy, hp0, hp1, e⟩
      · exact .inl e
      · exact .inr ⟨y, List.mem_append_left _ hy, hp0, hp1, e⟩
    · rw [Int.min_eq_right (by omega)]
      exact .inr ⟨x, by simp, h0, h1, rfl⟩
theorem FrontU.skip {B : List Batch.Ch} {M : Nat → Nat → Int} {n p i : Nat} {v : Int} {x : Batch.Ch} (hx : B[i]? = some x) (hn : ¬ (0 ≤ x.p ∧ x.p < n)) (h : FrontU (B.take i) M n p v) : FrontU (B.take (i + 1)) M n p v := by
  rw [take_succ' hx]
  refine ⟨h.1, fun y hy hp0 hp1 => ?_, ?_⟩
  · rcases List.mem_append.1 hy with hy | hy
    · exact h.2.1 y hy hp0 hp1
    · simp at hy; subst hy; exact absurd ⟨hp0, hp1⟩ hn
  · rcases h.2.2 with e | ⟨y, hy, hp0, hp1, e⟩
    · exact .inl e
    · exact .inr ⟨y, List.mem_append_left _ hy, hp0, hp1, e⟩
end Go.Proofs.YtdllgeanmlmmfaaGreatDoor.Fr
