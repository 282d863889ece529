/-
  THE ARGUMENTS OF THE LAWS OF PACKAGE pick: a slice of numbers, an array of two numbers.
-/
import Derived.Test.YtneegocbknkhjaaPick
import Derived.Test.YtneegocbknkhjaaBatchOpen
import Derived.Lib.SmallJoins
namespace Go.Proofs.Ytneegocbknkhjaa.Pk
open Go.ChangeShapes Go.WideShapes Go.ChangeAt Go.Deep Go.RowKit Rw
set_option linter.unusedVariables false

theorem bounds_i64P {n : Int} (h : (Lit.int .i64 n).wf = true) : -9223372036854775808 ≤ n ∧ n ≤ 9223372036854775807 := by
  have h1 : IntKind.i64.min = -9223372036854775808 := rfl
  have h2 : IntKind.i64.max = 9223372036854775807 := rfl
  simp only [Lit.wf, Bool.and_eq_true, decide_eq_true_eq, h1, h2] at h
  exact h
theorem rri_of {H : Type} {enc : TypeId × Value → H} {w : World} {fuel : Nat} {v : Value} {d : DataW H} {p : List MemPlace}
    (h : DataW.trod enc Try.prog w 0 (fun _ => true) true fuel 46 [v] = some (d, p)) : ∃ l, Rr intK w v l := by
  rcases open_ints Try.underlying46 Try.underlying3 (by kernel_rfl) h with ⟨hcs, _⟩ | ⟨a, len, cap, zs, hcs, _, hl, hm, hz, _, hcell, hwf⟩
  · simp at hcs
    subst hcs
    exact ⟨[], none, 0, rfl, .inl rfl, by simp, by simp, by simp⟩
  · simp at hcs
    subst hcs
    have hcap : cap ≤ 9223372036854775807 := by unfold maxLen at hm; omega
    have hz' : zs.length = cap := by simpa using hz
    refine ⟨zs.take len, rr_of (by decide) (by rw [List.length_take]; omega) hl hcap (fun x hx => bounds_i64P (hwf x (List.mem_of_mem_take hx))) fun i x hx c u hc hu => ?_⟩
    obtain rfl : c = 0 := by have : c < 1 := hc; omega
    have hu' : u = .int .i64 x := by
      have : [Value.int IntKind.i64 x][0]? = some u := hu
      simpa using this.symm
    subst hu'
    have hi : i < len := by have := (List.getElem?_eq_some_iff.1 hx).1; rw [List.length_take] at this; omega
    rw [List.getElem?_take_of_lt hi] at hx
    have := hcell i (by omega)
    rw [List.getD_eq_getElem?_getD, hx] at this
    rw [show i * intK.k + 0 = i from Nat.mul_one i]
    exact this
section
variable {H : Type} {enc : TypeId × Value → H} {P : Program} {w : World} {base : Nat} {spare : Nat → Bool} {held : Bool}
theorem trod_array2 {t e : TypeId} {fuel : Nat} {c0 c1 : Value} {x : DataW H × List MemPlace} (ht : P.underlying t = some (.array 2 e)) (hce : P.cellsOf e = 1)
    (h : DataW.trod enc P w base spare held fuel t [c0, c1] = some x) :
    ∃ y0 y1 n, x = (.agg [y0.1, y1.1], y0.2 ++ y1.2) ∧ DataW.trod enc P w base spare held n e [c0] = some y0 ∧ DataW.trod enc P w base spare held n e [c1] = some y1 := by
  cases fuel with
  | zero => simp [DataW.trod] at h
  | succ n =>
    unfold DataW.trod at h
    rw [ht] at h
    have r2 : List.range 2 = [0, 1] := rfl
    simp [r2, hce] at h
    obtain ⟨_, h⟩ := h
    cases h0 : DataW.trod enc P w base spare held n e [c0] with
    | none => simp [h0] at h
    | some y0 =>
      cases h1 : DataW.trod enc P w base spare held n e [c1] with
      | none => simp [h0, h1] at h
      | some y1 =>
        simp [h0, h1] at h
        exact ⟨y0, y1, n, h.symm, h0, h1⟩
end
theorem cells_two : Try.prog.cellsOf 94 = 2 := by kernel_rfl
theorem cells_one : Try.prog.cellsOf 3 = 1 := by kernel_rfl
set_option maxRecDepth 100000 in
theorem two_of {H : Type} {enc : TypeId × Value → H} {w : World} {b0 : Nat} {v : Value} {d : DataW H} {p : List MemPlace} (hv : Value.okWide Try.prog w .any b0 94 v)
    (h : DataW.Trod enc Try.prog w 0 (fun _ => true) true 94 v d p) : ∃ a b : Int, v = .agg #[.int .i64 a, .int .i64 b] ∧ (-9223372036854775808 ≤ a ∧ a ≤ 9223372036854775807) ∧ (-9223372036854775808 ≤ b ∧ b ≤ 9223372036854775807) := by
  obtain ⟨cs, rfl, hsz, _⟩ : ∃ cs, v = .agg cs ∧ cs.size = Try.prog.cellsOf 94 ∧ Row.okWide Try.prog w .any b0 94 cs := by
    simpa [Value.okWide, Try.underlying94] using hv
  rw [cells_two] at hsz
  obtain ⟨c0, c1, rfl⟩ := Joins.array2 hsz
  obtain ⟨fuel, hf⟩ := h
  obtain ⟨y0, y1, m, hx, hy0, hy1⟩ := trod_array2 Try.underlying94 cells_one hf
  obtain ⟨x0, e0, _, w0⟩ := DataW.trod_int Try.underlying3 hy0
  obtain ⟨x1, e1, _, w1⟩ := DataW.trod_int Try.underlying3 hy1
  simp only [List.cons.injEq, and_true] at e0 e1
  subst e0 e1
  exact ⟨x0, x1, rfl, bounds_i64P w0, bounds_i64P w1⟩
end Go.Proofs.Ytneegocbknkhjaa.Pk
