/-
  THE ARGUMENT OF MemActs: a slice of accesses, each with a slice of Changes.
-/
import Derived.Test.YtneegocbknkhjaaFrOpenL
import Derived.Test.YtneegocbknkhjaaBatchOpen
import Derived.Test.YtneegocbknkhjaaPickOpen
import Derived.Test.YtneegocbknkhjaaMemMem
namespace Go.Proofs.Ytneegocbknkhjaa.Mm
open Go.ChangeShapes Go.WideShapes Go.ChangeAt Go.Deep Go.RowKit Rw Batch
set_option linter.unusedVariables false

structure Op where
  w : Int
  k : Int
  a : Int
  v : Int
  l : List Batch.Ch
def OpAt (w : World) (b o : Nat) (x : Op) : Prop := w.cell? ⟨b, o, none⟩ = some (.int .i64 x.w) ∧ w.cell? ⟨b, o + 1, none⟩ = some (.int .i64 x.k) ∧ w.cell? ⟨b, o + 2, none⟩ = some (.int .i64 x.a) ∧ w.cell? ⟨b, o + 3, none⟩ = some (.int .u64 x.v) ∧ (∃ u, w.cell? ⟨b, o + 4, none⟩ = some u ∧ Batch.Rd w u x.l) ∧ I64 x.w ∧ I64 x.k ∧ I64 x.a ∧ 0 ≤ x.v ∧ x.v ≤ 18446744073709551615
def RdO (w : World) (v : Value) (L : List Op) : Prop := ∃ (ao : Option Addr) (cap : Nat), v = .slice ao L.length cap ∧ L.length ≤ 9223372036854775807 ∧ (L = [] ∨ ∃ b off, ao = some ⟨b, off, none⟩ ∧ ∀ (i : Nat) x, L[i]? = some x → OpAt w b (off + i * 5) x)
theorem OpAt.below {w w' : World} {b o : Nat} {x : Op} (h : OpAt w b o x) (hw : Below w.heap.size w w') : OpAt w' b o x := by
  obtain ⟨h0, h1, h2, h3, ⟨u, hu, hr⟩, h4⟩ := h
  have hb := Lib.lt_of_cell h0
  have e : ∀ j, w'.cell? ⟨b, j, none⟩ = w.cell? ⟨b, j, none⟩ := fun j => hw.cell (p := ⟨b, j, none⟩) hb
  exact ⟨(e _).trans h0, (e _).trans h1, (e _).trans h2, (e _).trans h3, ⟨u, (e _).trans hu, hr.below hw⟩, h4⟩
theorem RdO.at {w : World} {ao : Option Addr} {n cap : Nat} {L : List Op} (h : RdO w (.slice ao n cap) L) {i : Nat} {x : Op} (hx : L[i]? = some x) : ∃ b off, ao = some ⟨b, off, none⟩ ∧ OpAt w b (off + i * 5) x := by
  obtain ⟨ao', cap', hv, _, h⟩ := h
  simp only [Value.slice.injEq] at hv
  obtain ⟨rfl, _, rfl⟩ := hv
  rcases h with rfl | ⟨b, off, rfl, h⟩
  · simp at hx
  · exact ⟨b, off, rfl, h i x hx⟩
set_option maxRecDepth 100000 in
theorem rdo_of {H : Type} {enc : TypeId × Value → H} {w : World} {fuel : Nat} {v : Value} {d : DataW H} {p : List MemPlace}
    (h : DataW.trod enc Try.prog w 0 (fun _ => true) true fuel 22 [v] = some (d, p)) : ∃ L, RdO w v L := by
  rcases open_slice_fields Try.underlying22 Try.underlying33 (by kernel_rfl) (by kernel_rfl) h with ⟨hcs, _⟩ | ⟨a, len, cap, m, D, Plc, hcs, _, hl, hm, hmm, _, hi⟩
  · simp at hcs
    subst hcs
    exact ⟨[], none, 0, rfl, by simp, .inl rfl⟩
  · simp at hcs
    subst hcs
    have hlen : len ≤ 9223372036854775807 := by unfold maxLen at hm; omega
    have hsome : ∀ i : Nat, i < len → ∃ x : Op, w.cell? (a.add (i * 5)) = some (.int .i64 x.w) ∧ w.cell? (a.add (i * 5 + 1)) = some (.int .i64 x.k) ∧ w.cell? (a.add (i * 5 + 2)) = some (.int .i64 x.a) ∧ w.cell? (a.add (i * 5 + 3)) = some (.int .u64 x.v) ∧ (∃ u, w.cell? (a.add (i * 5 + 4)) = some u ∧ Batch.Rd w u x.l) ∧ I64 x.w ∧ I64 x.k ∧ I64 x.a ∧ 0 ≤ x.v ∧ x.v ≤ 18446744073709551615 := by
      intro i hil
      obtain ⟨ys, k, _, _, hys, hf⟩ := hi i (by rw [hmm]; simp; omega)
      obtain ⟨v0, y0, hc0, _, ht0⟩ := hf 0 _ rfl
      obtain ⟨v1, y1, hc1, _, ht1⟩ := hf 1 _ rfl
      obtain ⟨v2, y2, hc2, _, ht2⟩ := hf 2 _ rfl
      obtain ⟨v3, y3, hc3, _, ht3⟩ := hf 3 _ rfl
      obtain ⟨v4, y4, hc4, _, ht4⟩ := hf 4 _ rfl
      obtain ⟨n0, e0, _, w0⟩ := DataW.trod_int Try.underlying3 ht0
      obtain ⟨n1, e1, _, w1⟩ := DataW.trod_int Try.underlying3 ht1
      obtain ⟨n2, e2, _, w2⟩ := DataW.trod_int Try.underlying3 ht2
      obtain ⟨n3, e3, _, w3⟩ := DataW.trod_int Try.underlying30 ht3
      obtain ⟨l, hr⟩ := Fr.rdc_of ht4
      simp at e0 e1 e2 e3
      subst e0 e1 e2 e3
      exact ⟨⟨n0, n1, n2, n3, l⟩, hc0, hc1, hc2, hc3, ⟨v4, hc4, hr⟩, Pk.bounds_i64P w0, Pk.bounds_i64P w1, Pk.bounds_i64P w2, Batch.bounds_u64 w3⟩
    obtain ⟨L, hl1, hl2⟩ := Gr.list_of len _ hsome
    subst hl1
    refine ⟨L, some a, cap, rfl, hlen, ?_⟩
    by_cases h0 : L = []
    · exact .inl h0
    · have hpos : 0 < L.length := List.length_pos_iff.2 h0
      have h00 := (hl2 0 L[0] (List.getElem?_eq_getElem hpos)).1
      obtain ⟨b, off, spot⟩ := a
      have hspot : spot = none := by simpa [Addr.add] using World.cell?_spot h00
      subst hspot
      refine .inr ⟨b, off, rfl, fun i x hx => ?_⟩
      obtain ⟨q0, q1, q2, q3, ⟨u, hu, hr⟩, hw⟩ := hl2 i x hx
      rw [Gr.add_plain'] at q0 q1 q2 q3 hu
      exact ⟨q0, by rw [Nat.add_assoc]; exact q1, by rw [Nat.add_assoc]; exact q2, by rw [Nat.add_assoc]; exact q3, ⟨u, by rw [Nat.add_assoc]; exact hu, hr⟩, hw⟩
end Go.Proofs.Ytneegocbknkhjaa.Mm
