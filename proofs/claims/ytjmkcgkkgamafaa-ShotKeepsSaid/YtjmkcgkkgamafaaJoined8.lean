/-
  A SLICE OF SLICES OF CHANGES THAT CAME IN.
  THE ARGUMENTS OF THE LAWS OF PACKAGE mem: a slice of numbers of 64 bits without a sign.
-/
import Derived.Test.YtjmkcgkkgamafaaJoined7
import Derived.Test.YtjmkcgkkgamafaaBatchMem
import Derived.Test.YtjmkcgkkgamafaaMemMem
import Derived.Test.YtjmkcgkkgamafaaJoined6
namespace Go.Proofs.Ytjmkcgkkgamafaa.Fr
open Go.Joins Go.ChangeShapes Go.WideShapes Go.ChangeAt Go.Deep Go.RowKit Gr
set_option linter.unusedVariables false

theorem rdc_of {H : Type} {enc : TypeId × Value → H} {w : World} {fuel : Nat} {v : Value} {d : DataW H} {p : List MemPlace}
    (h : DataW.trod enc Try.prog w 0 (fun _ => true) true fuel 37 [v] = some (d, p)) : ∃ l, Batch.Rd w v l := by
  rcases open_slice_fields Try.underlying37 Try.underlying82 (by kernel_rfl) (by kernel_rfl) h with ⟨hcs, _⟩ | ⟨a, len, cap, m, D, Plc, hcs, _, hl, hm, hmm, _, hi⟩
  · simp at hcs
    subst hcs
    exact ⟨[], none, 0, rfl, by simp, by simp, by simp, .inl rfl⟩
  · simp at hcs
    subst hcs
    have hsome : ∀ i : Nat, i < len → ∃ x : Batch.Ch, (w.cell? (a.add (i * 3)) = some (.int .i64 x.p) ∧ w.cell? (a.add (i * 3 + 1)) = some (.int .u64 x.t) ∧ w.cell? (a.add (i * 3 + 2)) = some (.int .i64 x.d)) ∧ x.Wf := by
      intro i hil
      obtain ⟨ys, k, _, _, hys, hf⟩ := hi i (by rw [hmm]; simp; omega)
      obtain ⟨v0, y0, hc0, _, ht0⟩ := hf 0 _ rfl
      obtain ⟨v1, y1, hc1, _, ht1⟩ := hf 1 _ rfl
      obtain ⟨v2, y2, hc2, _, ht2⟩ := hf 2 _ rfl
      obtain ⟨n0, e0, _, w0⟩ := DataW.trod_int Try.underlying3 ht0
      obtain ⟨n1, e1, _, w1⟩ := DataW.trod_int Try.underlying53 ht1
      obtain ⟨n2, e2, _, w2⟩ := DataW.trod_int Try.underlying2 ht2
      simp at e0 e1 e2
      subst e0 e1 e2
      have b0 := bounds_i64 w0
      have b1 := bounds_u64 w1
      have b2 := bounds_i64 w2
      exact ⟨⟨n0, n1, n2⟩, ⟨hc0, hc1, hc2⟩, b0.1, b0.2, b1.1, b1.2, b2.1, b2.2⟩
    have hcap : cap ≤ 9223372036854775807 := by unfold maxLen at hm; omega
    obtain ⟨l, hl1, hl2⟩ := list_of len _ hsome
    subst hl1
    refine ⟨l, some a, cap, rfl, hl, hcap, fun x hx => ?_, ?_⟩
    · obtain ⟨i, hi⟩ := List.mem_iff_getElem?.1 hx
      exact (hl2 i x hi).2
    · by_cases h0 : l = []
      · exact .inl h0
      · have hpos : 0 < l.length := List.length_pos_iff.2 h0
        have h00 := (hl2 0 l[0] (List.getElem?_eq_getElem hpos)).1.1
        obtain ⟨b, off, spot⟩ := a
        have hspot : spot = none := by simpa [Addr.add] using World.cell?_spot h00
        subst hspot
        refine .inr ⟨b, off, rfl, fun i x hx => ?_⟩
        obtain ⟨⟨q0, q1, q2⟩, _⟩ := hl2 i x hx
        rw [add_plain'] at q0 q1 q2
        exact ⟨q0, by rw [Nat.add_assoc]; exact q1, by rw [Nat.add_assoc]; exact q2⟩
theorem rdc_take {w : World} {ao : Option Addr} {n cap : Nat} {l : List Batch.Ch} (h : Batch.Rd w (.slice ao n cap) l) (k : Nat) (hk : k ≤ l.length) : Batch.Rd w (.slice ao k cap) (l.take k) := by
  obtain ⟨ao', cap2, hv, h1, h2, h3, h4⟩ := h
  simp only [Value.slice.injEq] at hv
  obtain ⟨rfl, rfl, rfl⟩ := hv
  refine ⟨ao, cap, by rw [List.length_take, Nat.min_eq_left hk], by rw [List.length_take]; omega, h2, fun x hx => h3 x (List.mem_of_mem_take hx), ?_⟩
  rcases h4 with h4 | ⟨b, off, ha, h4⟩
  · subst h4; simp
  · refine .inr ⟨b, off, ha, fun i x hx => ?_⟩
    have hi : i < k := by have := (List.getElem?_eq_some_iff.1 hx).1; rw [List.length_take] at this; omega
    rw [List.getElem?_take_of_lt hi] at hx
    exact h4 i x hx
/-- A slice of slices of Changes, as it reads. -/
def RdL (w : World) (v : Value) (L : List (List Batch.Ch)) : Prop := ∃ (ao : Option Addr) (cap : Nat), v = .slice ao L.length cap ∧ L.length ≤ 9223372036854775807 ∧ (L = [] ∨ ∃ b off, ao = some ⟨b, off, none⟩ ∧ ∀ (i : Nat) (l : List Batch.Ch), L[i]? = some l → ∃ u, w.cell? ⟨b, off + i, none⟩ = some u ∧ Batch.Rd w u l)
theorem RdL.below {w w' : World} {v : Value} {L : List (List Batch.Ch)} (h : RdL w v L) (hw : Below w.heap.size w w') : RdL w' v L := by
  obtain ⟨ao, cap, rfl, h1, h4⟩ := h
  refine ⟨ao, cap, rfl, h1, ?_⟩
  rcases h4 with h4 | ⟨b, off, ha, h4⟩
  · exact .inl h4
  · refine .inr ⟨b, off, ha, fun i l hx => ?_⟩
    obtain ⟨u, hu, hr⟩ := h4 i l hx
    exact ⟨u, (hw.cell (p := ⟨b, off + i, none⟩) (Lib.lt_of_cell hu)).trans hu, hr.below hw⟩
set_option maxRecDepth 100000 in
theorem rdl_of {H : Type} {enc : TypeId × Value → H} {w : World} {fuel : Nat} {v : Value} {d : DataW H} {p : List MemPlace}
    (h : DataW.trod enc Try.prog w 0 (fun _ => true) true fuel 22 [v] = some (d, p)) : ∃ L, RdL w v L := by
  have hC : Try.prog.cellsOf 37 = 1 := by kernel_rfl
  rcases open_slice Try.underlying22 h with ⟨hcs, _⟩ | ⟨a, len, cap, m, n, D, Plc, hcs, _, hl, hm, hmm, _, hi⟩
  · simp at hcs
    subst hcs
    exact ⟨[], none, 0, rfl, by simp, .inl rfl⟩
  · simp at hcs
    subst hcs
    rw [hC] at hi
    have hlen : len ≤ 9223372036854775807 := by unfold maxLen at hm; omega
    have hsome : ∀ i : Nat, i < len → ∃ l : List Batch.Ch, ∃ u, w.cell? (a.add i) = some u ∧ Batch.Rd w u l := by
      intro i hil
      obtain ⟨cs', hc, ht⟩ := hi i (by rw [hmm]; simp; omega)
      rw [Nat.mul_one] at hc
      obtain ⟨_, hcl, hat⟩ := World.cells?_some hc
      have h0 := hat 0 (by omega)
      obtain ⟨u, hu⟩ : ∃ u, cs' = [u] := by
        match cs', hcl with
        | [u], _ => exact ⟨u, rfl⟩
      subst hu
      obtain ⟨l, hr⟩ := rdc_of ht
      exact ⟨l, u, by simpa [Addr.add] using h0, hr⟩
    obtain ⟨L, hl1, hl2⟩ := Gr.list_of len _ hsome
    subst hl1
    refine ⟨L, some a, cap, rfl, hlen, ?_⟩
    by_cases h0 : L = []
    · exact .inl h0
    · have hpos : 0 < L.length := List.length_pos_iff.2 h0
      obtain ⟨u0, hu0, _⟩ := hl2 0 L[0] (List.getElem?_eq_getElem hpos)
      obtain ⟨b, off, spot⟩ := a
      have hspot : spot = none := by simpa [Addr.add] using World.cell?_spot hu0
      subst hspot
      refine .inr ⟨b, off, rfl, fun i l hx => ?_⟩
      obtain ⟨u, hu, hr⟩ := hl2 i l hx
      rw [Gr.add_plain'] at hu
      exact ⟨u, hu, hr⟩
end Go.Proofs.Ytjmkcgkkgamafaa.Fr
namespace Go.Proofs.Ytjmkcgkkgamafaa.Mm
open Go.ChangeShapes Go.WideShapes Go.ChangeAt Go.Deep Go.RowKit Rw
set_option linter.unusedVariables false

theorem rru_of {H : Type} {enc : TypeId × Value → H} {w : World} {fuel : Nat} {v : Value} {d : DataW H} {p : List MemPlace}
    (h : DataW.trod enc Try.prog w 0 (fun _ => true) true fuel 92 [v] = some (d, p)) : ∃ l, Rr u64K w v l := by
  rcases open_ints Try.underlying92 Try.underlying53 (by kernel_rfl) h with ⟨hcs, _⟩ | ⟨a, len, cap, zs, hcs, _, hl, hm, hz, _, hcell, hwf⟩
  · simp at hcs
    subst hcs
    exact ⟨[], none, 0, rfl, .inl rfl, by simp, by simp, by simp⟩
  · simp at hcs
    subst hcs
    have hcap : cap ≤ 9223372036854775807 := by unfold maxLen at hm; omega
    have hz' : zs.length = cap := by simpa using hz
    refine ⟨zs.take len, rr_of (by decide) (by rw [List.length_take]; omega) hl hcap (fun x hx => Batch.bounds_u64 (hwf x (List.mem_of_mem_take hx))) fun i x hx c u hc hu => ?_⟩
    obtain rfl : c = 0 := by have : c < 1 := hc; omega
    have hu' : u = .int .u64 x := by
      have : [Value.int IntKind.u64 x][0]? = some u := hu
      simpa using this.symm
    subst hu'
    have hi : i < len := by have := (List.getElem?_eq_some_iff.1 hx).1; rw [List.length_take] at this; omega
    rw [List.getElem?_take_of_lt hi] at hx
    have := hcell i (by omega)
    rw [List.getD_eq_getElem?_getD, hx] at this
    rw [show i * u64K.k + 0 = i from Nat.mul_one i]
    exact this
end Go.Proofs.Ytjmkcgkkgamafaa.Mm
