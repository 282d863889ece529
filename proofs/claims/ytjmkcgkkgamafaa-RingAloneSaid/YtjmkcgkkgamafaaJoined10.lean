/-
  THE ARGUMENTS OF THE LAWS OF PACKAGE pick: a slice of numbers, an array of two numbers.
  THE ARGUMENTS OF THE LAWS OF PACKAGE mem: a slice of numbers of 64 bits without a sign.
  THE ARGUMENTS OF THE LAWS OF PACKAGE clock: a slice of accesses, of turns, of bools.
  THE ARGUMENTS OF THE LAWS OF PACKAGE clock: a slice of bools.
-/
import Derived.Test.YtjmkcgkkgamafaaJoined2
import Derived.Test.YtjmkcgkkgamafaaBatchOpen
import Derived.Lib.SmallJoins
import Derived.Test.YtjmkcgkkgamafaaMemMem
import Derived.Test.YtjmkcgkkgamafaaFrOpenL
import Derived.Test.YtjmkcgkkgamafaaCkAhMem
namespace Go.Proofs.Ytjmkcgkkgamafaa.Pk
open Go.ChangeShapes Go.WideShapes Go.ChangeAt Go.Deep Go.RowKit Rw
set_option linter.unusedVariables false

theorem bounds_i64P {n : Int} (h : (Lit.int .i64 n).wf = true) : -9223372036854775808 ≤ n ∧ n ≤ 9223372036854775807 := by
  have h1 : IntKind.i64.min = -9223372036854775808 := rfl
  have h2 : IntKind.i64.max = 9223372036854775807 := rfl
  simp only [Lit.wf, Bool.and_eq_true, decide_eq_true_eq, h1, h2] at h
  exact h
theorem rri_of {H : Type} {enc : TypeId × Value → H} {w : World} {fuel : Nat} {v : Value} {d : DataW H} {p : List MemPlace}
    (h : DataW.trod enc Try.prog w 0 (fun _ => true) true fuel 50 [v] = some (d, p)) : ∃ l, Rr intK w v l := by
  rcases open_ints Try.underlying50 Try.underlying3 (by kernel_rfl) h with ⟨hcs, _⟩ | ⟨a, len, cap, zs, hcs, _, hl, hm, hz, _, hcell, hwf⟩
  · simp at hcs
    subst hcs
    exact ⟨[], none, 0, rfl, .inl rfl, by simp, by simp, by simp⟩
  · simp at hcs
    subst hcs
    have hcap : cap ≤ 9223372036854775807 := by unfold maxLen at hm; omega
    have hz' : zs.length = cap := by simpa using hz
    refine ⟨zs.take len, rr_of (by decide) (by rw [List.length_take]; omega) hl hcap (fun x hx => bounds_i64P (hwf x (List.mem_of_mem_take hx))) fun i x hx c u hc hu => ?_⟩
    obtain rfl : c = 0 := by have : c < 1 := hc; omega
    have hu' : u = .int .i64 x := by
      have : [Value.int IntKind.i64 x][0]? = some u := hu
      simpa using this.symm
    subst hu'
    have hi : i < len := by have := (List.getElem?_eq_some_iff.1 hx).1; rw [List.length_take] at this; omega
    rw [List.getElem?_take_of_lt hi] at hx
    have := hcell i (by omega)
    rw [List.getD_eq_getElem?_getD, hx] at this
    rw [show i * intK.k + 0 = i from Nat.mul_one i]
    exact this
section
variable {H : Type} {enc : TypeId × Value → H} {P : Program} {w : World} {base : Nat} {spare : Nat → Bool} {held : Bool}
theorem trod_array2 {t e : TypeId} {fuel : Nat} {c0 c1 : Value} {x : DataW H × List MemPlace} (ht : P.underlying t = some (.array 2 e)) (hce : P.cellsOf e = 1)
    (h : DataW.trod enc P w base spare held fuel t [c0, c1] = some x) :
    ∃ y0 y1 n, x = (.agg [y0.1, y1.1], y0.2 ++ y1.2) ∧ DataW.trod enc P w base spare held n e [c0] = some y0 ∧ DataW.trod enc P w base spare held n e [c1] = some y1 := by
  cases fuel with
  | zero => simp [DataW.trod] at h
  | succ n =>
    unfold DataW.trod at h
    rw [ht] at h
    have r2 : List.range 2 = [0, 1] := rfl
    simp [r2, hce] at h
    obtain ⟨_, h⟩ := h
    cases h0 : DataW.trod enc P w base spare held n e [c0] with
    | none => simp [h0] at h
    | some y0 =>
      cases h1 : DataW.trod enc P w base spare held n e [c1] with
      | none => simp [h0, h1] at h
      | some y1 =>
        simp [h0, h1] at h
        exact ⟨y0, y1, n, h.symm, h0, h1⟩
end
theorem cells_two : Try.prog.cellsOf 52 = 2 := by kernel_rfl
theorem cells_one : Try.prog.cellsOf 3 = 1 := by kernel_rfl
set_option maxRecDepth 100000 in
theorem two_of {H : Type} {enc : TypeId × Value → H} {w : World} {b0 : Nat} {v : Value} {d : DataW H} {p : List MemPlace} (hv : Value.okWide Try.prog w .any b0 52 v)
    (h : DataW.Trod enc Try.prog w 0 (fun _ => true) true 52 v d p) : ∃ a b : Int, v = .agg #[.int .i64 a, .int .i64 b] ∧ (-9223372036854775808 ≤ a ∧ a ≤ 9223372036854775807) ∧ (-9223372036854775808 ≤ b ∧ b ≤ 9223372036854775807) := by
  obtain ⟨cs, rfl, hsz, _⟩ : ∃ cs, v = .agg cs ∧ cs.size = Try.prog.cellsOf 52 ∧ Row.okWide Try.prog w .any b0 52 cs := by
    simpa [Value.okWide, Try.underlying52] using hv
  rw [cells_two] at hsz
  obtain ⟨c0, c1, rfl⟩ := Joins.array2 hsz
  obtain ⟨fuel, hf⟩ := h
  obtain ⟨y0, y1, m, hx, hy0, hy1⟩ := trod_array2 Try.underlying52 cells_one hf
  obtain ⟨x0, e0, _, w0⟩ := DataW.trod_int Try.underlying3 hy0
  obtain ⟨x1, e1, _, w1⟩ := DataW.trod_int Try.underlying3 hy1
  simp only [List.cons.injEq, and_true] at e0 e1
  subst e0 e1
  exact ⟨x0, x1, rfl, bounds_i64P w0, bounds_i64P w1⟩
end Go.Proofs.Ytjmkcgkkgamafaa.Pk
namespace Go.Proofs.Ytjmkcgkkgamafaa.Mm
open Go.ChangeShapes Go.WideShapes Go.ChangeAt Go.Deep Go.RowKit Rw
set_option linter.unusedVariables false

theorem rru_of {H : Type} {enc : TypeId × Value → H} {w : World} {fuel : Nat} {v : Value} {d : DataW H} {p : List MemPlace}
    (h : DataW.trod enc Try.prog w 0 (fun _ => true) true fuel 92 [v] = some (d, p)) : ∃ l, Rr u64K w v l := by
  rcases open_ints Try.underlying92 Try.underlying53 (by kernel_rfl) h with ⟨hcs, _⟩ | ⟨a, len, cap, zs, hcs, _, hl, hm, hz, _, hcell, hwf⟩
  · simp at hcs
    subst hcs
    exact ⟨[], none, 0, rfl, .inl rfl, by simp, by simp, by simp⟩
  · simp at hcs
    subst hcs
    have hcap : cap ≤ 9223372036854775807 := by unfold maxLen at hm; omega
    have hz' : zs.length = cap := by simpa using hz
    refine ⟨zs.take len, rr_of (by decide) (by rw [List.length_take]; omega) hl hcap (fun x hx => Batch.bounds_u64 (hwf x (List.mem_of_mem_take hx))) fun i x hx c u hc hu => ?_⟩
    obtain rfl : c = 0 := by have : c < 1 := hc; omega
    have hu' : u = .int .u64 x := by
      have : [Value.int IntKind.u64 x][0]? = some u := hu
      simpa using this.symm
    subst hu'
    have hi : i < len := by have := (List.getElem?_eq_some_iff.1 hx).1; rw [List.length_take] at this; omega
    rw [List.getElem?_take_of_lt hi] at hx
    have := hcell i (by omega)
    rw [List.getD_eq_getElem?_getD, hx] at this
    rw [show i * u64K.k + 0 = i from Nat.mul_one i]
    exact this
end Go.Proofs.Ytjmkcgkkgamafaa.Mm
namespace Go.Proofs.Ytjmkcgkkgamafaa.Ck
open Go.ChangeShapes Go.WideShapes Go.ChangeAt Go.Deep Go.RowKit Rw Mm
set_option linter.unusedVariables false

structure Tn where
  w : Int
  b : Int
  s : Bool
  r : Bool
def turnK : Kd Tn where
  k := 4
  cells x := [.int .i64 x.w, .int .i64 x.b, .bool x.s, .bool x.r]
  wf x := I64 x.w ∧ I64 x.b
  len _ := rfl
  one x u hu := by simp at hu; rcases hu with rfl | rfl | rfl | rfl <;> rfl
theorem trod_b {H : Type} {enc : TypeId × Value → H} {P : Program} {W : World} {base : Nat} {sp : Nat → Bool} {held : Bool} {n : Nat} {t : TypeId} (ht : P.underlying t = some .bool) {v : Value} {y : DataW H × List MemPlace} (h : DataW.trod enc P W base sp held n t [v] = some y) : ∃ b, v = .bool b := by
  cases n with
  | zero => simp [DataW.trod] at h
  | succ n =>
    unfold DataW.trod at h
    rw [ht] at h
    cases v <;> simp at h
    exact ⟨_, rfl⟩
theorem rr_row {α : Type} {S : Kd α} (hk : 0 < S.k) {w : World} {a : Addr} {len cap : Nat} (hl : len ≤ cap) (hm : cap ≤ maxLen) (h : ∀ i : Nat, i < len → ∃ x : α, (∀ c u, c < S.k → (S.cells x)[c]? = some u → w.cell? (a.add (i * S.k + c)) = some u) ∧ S.wf x) : ∃ l, Rr S w (.slice (some a) len cap) l := by
  have hcap : cap ≤ 9223372036854775807 := by unfold maxLen at hm; omega
  obtain ⟨l, hl1, hl2⟩ := Batch.list_of len _ h
  subst hl1
  by_cases h0 : l = []
  · subst h0
    exact ⟨[], some a, cap, rfl, .inl rfl, hl, hcap, by simp⟩
  · have hpos : 0 < l.length := List.length_pos_iff.2 h0
    obtain ⟨x0, hx0⟩ : ∃ x0, l[0]? = some x0 := ⟨_, List.getElem?_eq_getElem hpos⟩
    obtain ⟨u, hu⟩ : ∃ u, (S.cells x0)[0]? = some u := ⟨_, List.getElem?_eq_getElem (by rw [S.len]; exact hk)⟩
    have h00 := (hl2 0 x0 hx0).1 0 u hk hu
    obtain ⟨b, off, spot⟩ := a
    have hspot : spot = none := by simpa [Addr.add] using World.cell?_spot h00
    subst hspot
    refine ⟨l, _, cap, rfl, .inr ⟨b, off, ?_, rfl, fun i x hx c u hc hu => ?_⟩, hl, hcap, fun x hx => ?_⟩
    · rw [Batch.add_plain'] at h00; exact Lib.lt_of_cell h00
    · have := (hl2 i x hx).1 c u hc hu
      rw [Batch.add_plain'] at this
      rw [Nat.add_assoc]; exact this
    · obtain ⟨i, hi⟩ := List.mem_iff_getElem?.1 hx
      exact (hl2 i x hi).2
end Go.Proofs.Ytjmkcgkkgamafaa.Ck
namespace Go.Proofs.Ytjmkcgkkgamafaa.Ck
open Go.ChangeShapes Go.WideShapes Go.ChangeAt Go.Deep Go.RowKit Rw Mm
set_option linter.unusedVariables false

set_option maxRecDepth 100000 in
theorem rrb_of {H : Type} {enc : TypeId × Value → H} {w : World} {fuel : Nat} {v : Value} {d : DataW H} {p : List MemPlace}
    (h : DataW.trod enc Try.prog w 0 (fun _ => true) true fuel 23 [v] = some (d, p)) : ∃ l, Rr boolK w v l := by
  have hC : Try.prog.cellsOf 4 = 1 := by kernel_rfl
  rcases open_slice Try.underlying23 h with ⟨hcs, _⟩ | ⟨a, len, cap, m, n, D, Plc, hcs, _, hl, hm, hmm, _, hi⟩
  · simp at hcs
    subst hcs
    exact ⟨[], none, 0, rfl, .inl rfl, by simp, by simp, by simp⟩
  · simp at hcs
    subst hcs
    rw [hC] at hi
    refine rr_row (S := boolK) (by decide) hl hm fun i hil => ?_
    obtain ⟨cs', hc, ht⟩ := hi i (by rw [hmm]; simp; omega)
    rw [Nat.mul_one] at hc
    obtain ⟨_, hcl, hat⟩ := World.cells?_some hc
    have h0 := hat 0 (by omega)
    obtain ⟨u, hu⟩ : ∃ u, cs' = [u] := by
      match cs', hcl with
      | [u], _ => exact ⟨u, rfl⟩
    subst hu
    obtain ⟨b, rfl⟩ := trod_b Try.underlying4 ht
    refine ⟨b, fun c u hcl hu => ?_, trivial⟩
    obtain rfl : c = 0 := by have : c < 1 := hcl; omega
    cases hu
    simpa [show boolK.k = 1 from rfl, Addr.add] using h0
end Go.Proofs.Ytjmkcgkkgamafaa.Ck
