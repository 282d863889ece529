/-
  THE ARGUMENTS OF THE LAWS OF PACKAGE clock: a slice of accesses, of turns, of bools.
-/
import Derived.Test.YtneegocbknkhjaaMemMem
import Derived.Test.YtneegocbknkhjaaPickOpen
import Derived.Test.YtneegocbknkhjaaBatchOpen
namespace Go.Proofs.Ytneegocbknkhjaa.Ck
open Go.ChangeShapes Go.WideShapes Go.ChangeAt Go.Deep Go.RowKit Rw Mm
set_option linter.unusedVariables false

structure Tn where
  w : Int
  b : Int
  s : Bool
  r : Bool
def turnK : Kd Tn where
  k := 4
  cells x := [.int .i64 x.w, .int .i64 x.b, .bool x.s, .bool x.r]
  wf x := I64 x.w ∧ I64 x.b
  len _ := rfl
  one x u hu := by simp at hu; rcases hu with rfl | rfl | rfl | rfl <;> rfl
theorem trod_b {H : Type} {enc : TypeId × Value → H} {P : Program} {W : World} {base : Nat} {sp : Nat → Bool} {held : Bool} {n : Nat} {t : TypeId} (ht : P.underlying t = some .bool) {v : Value} {y : DataW H × List MemPlace} (h : DataW.trod enc P W base sp held n t [v] = some y) : ∃ b, v = .bool b := by
  cases n with
  | zero => simp [DataW.trod] at h
  | succ n =>
    unfold DataW.trod at h
    rw [ht] at h
    cases v <;> simp at h
    exact ⟨_, rfl⟩
theorem rr_row {α : Type} {S : Kd α} (hk : 0 < S.k) {w : World} {a : Addr} {len cap : Nat} (hl : len ≤ cap) (hm : cap ≤ maxLen) (h : ∀ i : Nat, i < len → ∃ x : α, (∀ c u, c < S.k → (S.cells x)[c]? = some u → w.cell? (a.add (i * S.k + c)) = some u) ∧ S.wf x) : ∃ l, Rr S w (.slice (some a) len cap) l := by
  have hcap : cap ≤ 9223372036854775807 := by unfold maxLen at hm; omega
  obtain ⟨l, hl1, hl2⟩ := Batch.list_of len _ h
  subst hl1
  by_cases h0 : l = []
  · subst h0
    exact ⟨[], some a, cap, rfl, .inl rfl, hl, hcap, by simp⟩
  · have hpos : 0 < l.length := List.length_pos_iff.2 h0
    obtain ⟨x0, hx0⟩ : ∃ x0, l[0]? = some x0 := ⟨_, List.getElem?_eq_getElem hpos⟩
    obtain ⟨u, hu⟩ : ∃ u, (S.cells x0)[0]? = some u := ⟨_, List.getElem?_eq_getElem (by rw [S.len]; exact hk)⟩
    have h00 := (hl2 0 x0 hx0).1 0 u hk hu
    obtain ⟨b, off, spot⟩ := a
    have hspot : spot = none := by simpa [Addr.add] using World.cell?_spot h00
    subst hspot
    refine ⟨l, _, cap, rfl, .inr ⟨b, off, ?_, rfl, fun i x hx c u hc hu => ?_⟩, hl, hcap, fun x hx => ?_⟩
    · rw [Batch.add_plain'] at h00; exact Lib.lt_of_cell h00
    · have := (hl2 i x hx).1 c u hc hu
      rw [Batch.add_plain'] at this
      rw [Nat.add_assoc]; exact this
    · obtain ⟨i, hi⟩ := List.mem_iff_getElem?.1 hx
      exact (hl2 i x hi).2
theorem rre_of {H : Type} {enc : TypeId × Value → H} {w : World} {fuel : Nat} {v : Value} {d : DataW H} {p : List MemPlace}
    (h : DataW.trod enc Try.prog w 0 (fun _ => true) true fuel 48 [v] = some (d, p)) : ∃ l, Rr evK w v l := by
  rcases Batch.open_slice_fields Try.underlying48 Try.underlying131 (by kernel_rfl) (by kernel_rfl) h with ⟨hcs, _⟩ | ⟨a, len, cap, m, D, Plc, hcs, _, hl, hm, hmm, _, hi⟩
  · simp at hcs
    subst hcs
    exact ⟨[], none, 0, rfl, .inl rfl, by simp, by simp, by simp⟩
  · simp at hcs
    subst hcs
    refine rr_row (by decide) hl hm fun i hil => ?_
    obtain ⟨ys, k, _, _, hys, hf⟩ := hi i (by rw [hmm]; simp; omega)
    obtain ⟨v0, y0, hc0, _, ht0⟩ := hf 0 _ rfl
    obtain ⟨v1, y1, hc1, _, ht1⟩ := hf 1 _ rfl
    obtain ⟨v2, y2, hc2, _, ht2⟩ := hf 2 _ rfl
    obtain ⟨v3, y3, hc3, _, ht3⟩ := hf 3 _ rfl
    obtain ⟨n0, e0, _, w0⟩ := DataW.trod_int Try.underlying3 ht0
    obtain ⟨n1, e1, _, w1⟩ := DataW.trod_int Try.underlying3 ht1
    obtain ⟨n2, e2, _, w2⟩ := DataW.trod_int Try.underlying3 ht2
    obtain ⟨b3, rfl⟩ := trod_b Try.underlying4 ht3
    simp at e0 e1 e2
    subst e0 e1 e2
    refine ⟨⟨n0, n1, n2, b3⟩, fun c u hc hu => ?_, Pk.bounds_i64P w0, Pk.bounds_i64P w1, Pk.bounds_i64P w2⟩
    have : c = 0 ∨ c = 1 ∨ c = 2 ∨ c = 3 := by have : c < 4 := hc; omega
    rcases this with rfl | rfl | rfl | rfl <;> (cases hu; first | exact hc0 | exact hc1 | exact hc2 | exact hc3)
theorem rrt_of {H : Type} {enc : TypeId × Value → H} {w : World} {fuel : Nat} {v : Value} {d : DataW H} {p : List MemPlace}
    (h : DataW.trod enc Try.prog w 0 (fun _ => true) true fuel 67 [v] = some (d, p)) : ∃ l, Rr turnK w v l := by
  rcases Batch.open_slice_fields Try.underlying67 Try.underlying69 (by kernel_rfl) (by kernel_rfl) h with ⟨hcs, _⟩ | ⟨a, len, cap, m, D, Plc, hcs, _, hl, hm, hmm, _, hi⟩
  · simp at hcs
    subst hcs
    exact ⟨[], none, 0, rfl, .inl rfl, by simp, by simp, by simp⟩
  · simp at hcs
    subst hcs
    refine rr_row (by decide) hl hm fun i hil => ?_
    obtain ⟨ys, k, _, _, hys, hf⟩ := hi i (by rw [hmm]; simp; omega)
    obtain ⟨v0, y0, hc0, _, ht0⟩ := hf 0 _ rfl
    obtain ⟨v1, y1, hc1, _, ht1⟩ := hf 1 _ rfl
    obtain ⟨v2, y2, hc2, _, ht2⟩ := hf 2 _ rfl
    obtain ⟨v3, y3, hc3, _, ht3⟩ := hf 3 _ rfl
    obtain ⟨n0, e0, _, w0⟩ := DataW.trod_int Try.underlying3 ht0
    obtain ⟨n1, e1, _, w1⟩ := DataW.trod_int Try.underlying3 ht1
    obtain ⟨b2, rfl⟩ := trod_b Try.underlying4 ht2
    obtain ⟨b3, rfl⟩ := trod_b Try.underlying4 ht3
    simp at e0 e1
    subst e0 e1
    refine ⟨⟨n0, n1, b2, b3⟩, fun c u hc hu => ?_, Pk.bounds_i64P w0, Pk.bounds_i64P w1⟩
    have : c = 0 ∨ c = 1 ∨ c = 2 ∨ c = 3 := by have : c < 4 := hc; omega
    rcases this with rfl | rfl | rfl | rfl <;> (cases hu; first | exact hc0 | exact hc1 | exact hc2 | exact hc3)
end Go.Proofs.Ytneegocbknkhjaa.Ck
