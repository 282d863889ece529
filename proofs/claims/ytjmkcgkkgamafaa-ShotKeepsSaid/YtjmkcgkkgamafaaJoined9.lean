/-
  THE ARGUMENTS OF THE LAWS OF PACKAGE clock: a slice of bools.
  THE ARGUMENT OF ShotAlone: a slice of jobs, each with a bool, a slice of numbers and a slice of times.
-/
import Derived.Test.YtjmkcgkkgamafaaCkOpen
import Derived.Test.YtjmkcgkkgamafaaCkAhMem
import Derived.Test.YtjmkcgkkgamafaaJoined8
import Derived.Test.YtjmkcgkkgamafaaJoined6
namespace Go.Proofs.Ytjmkcgkkgamafaa.Ck
open Go.ChangeShapes Go.WideShapes Go.ChangeAt Go.Deep Go.RowKit Rw Mm
set_option linter.unusedVariables false

set_option maxRecDepth 100000 in
theorem rrb_of {H : Type} {enc : TypeId × Value → H} {w : World} {fuel : Nat} {v : Value} {d : DataW H} {p : List MemPlace}
    (h : DataW.trod enc Try.prog w 0 (fun _ => true) true fuel 23 [v] = some (d, p)) : ∃ l, Rr boolK w v l := by
  have hC : Try.prog.cellsOf 4 = 1 := by kernel_rfl
  rcases open_slice Try.underlying23 h with ⟨hcs, _⟩ | ⟨a, len, cap, m, n, D, Plc, hcs, _, hl, hm, hmm, _, hi⟩
  · simp at hcs
    subst hcs
    exact ⟨[], none, 0, rfl, .inl rfl, by simp, by simp, by simp⟩
  · simp at hcs
    subst hcs
    rw [hC] at hi
    refine rr_row (S := boolK) (by decide) hl hm fun i hil => ?_
    obtain ⟨cs', hc, ht⟩ := hi i (by rw [hmm]; simp; omega)
    rw [Nat.mul_one] at hc
    obtain ⟨_, hcl, hat⟩ := World.cells?_some hc
    have h0 := hat 0 (by omega)
    obtain ⟨u, hu⟩ : ∃ u, cs' = [u] := by
      match cs', hcl with
      | [u], _ => exact ⟨u, rfl⟩
    subst hu
    obtain ⟨b, rfl⟩ := trod_b Try.underlying4 ht
    refine ⟨b, fun c u hcl hu => ?_, trivial⟩
    obtain rfl : c = 0 := by have : c < 1 := hcl; omega
    cases hu
    simpa [show boolK.k = 1 from rfl, Addr.add] using h0
end Go.Proofs.Ytjmkcgkkgamafaa.Ck
namespace Go.Proofs.Ytjmkcgkkgamafaa.Sh
open Go.ChangeShapes Go.WideShapes Go.ChangeAt Go.Deep Go.RowKit Rw Batch Mm Pk
set_option linter.unusedVariables false
structure Jb where
  rd : Bool
  ps : List Int
  ts : List Int
def JbAt (w : World) (b o : Nat) (x : Jb) : Prop := w.cell? ⟨b, o, none⟩ = some (.bool x.rd) ∧ (∃ u, w.cell? ⟨b, o + 1, none⟩ = some u ∧ Rr intK w u x.ps) ∧ ∃ u, w.cell? ⟨b, o + 2, none⟩ = some u ∧ Rr u64K w u x.ts
def RdJ (w : World) (v : Value) (L : List Jb) : Prop := ∃ (ao : Option Addr) (cap : Nat), v = .slice ao L.length cap ∧ L.length ≤ 9223372036854775807 ∧ (L = [] ∨ ∃ b off, ao = some ⟨b, off, none⟩ ∧ ∀ (i : Nat) x, L[i]? = some x → JbAt w b (off + i * 3) x)
theorem JbAt.below {w w' : World} {b o : Nat} {x : Jb} (h : JbAt w b o x) (hw : Below w.heap.size w w') : JbAt w' b o x := by
  obtain ⟨h0, ⟨u, hu, hr⟩, v, hv, hs⟩ := h
  have hb := Lib.lt_of_cell h0
  have e : ∀ j, w'.cell? ⟨b, j, none⟩ = w.cell? ⟨b, j, none⟩ := fun j => hw.cell (p := ⟨b, j, none⟩) hb
  exact ⟨(e _).trans h0, ⟨u, (e _).trans hu, hr.below hw⟩, v, (e _).trans hv, hs.below hw⟩
theorem RdJ.at {w : World} {ao : Option Addr} {n cap : Nat} {L : List Jb} (h : RdJ w (.slice ao n cap) L) {i : Nat} {x : Jb} (hx : L[i]? = some x) : ∃ b off, ao = some ⟨b, off, none⟩ ∧ JbAt w b (off + i * 3) x := by
  obtain ⟨ao', cap', hv, _, h⟩ := h
  simp only [Value.slice.injEq] at hv
  obtain ⟨rfl, _, rfl⟩ := hv
  rcases h with rfl | ⟨b, off, rfl, h⟩
  · simp at hx
  · exact ⟨b, off, rfl, h i x hx⟩
theorem trodi_slice {H : Type} {enc : TypeId × Value → H} {w : World} {fuel : Nat} {v : Value} {d : DataW H} {p : List MemPlace}
    (h : DataW.trod enc Try.prog w 0 (fun _ => true) true fuel 50 [v] = some (d, p)) : ∃ l, Rr intK w v l := Pk.rri_of h
set_option maxRecDepth 100000 in
theorem rdj_of {H : Type} {enc : TypeId × Value → H} {w : World} {fuel : Nat} {v : Value} {d : DataW H} {p : List MemPlace}
    (h : DataW.trod enc Try.prog w 0 (fun _ => true) true fuel 87 [v] = some (d, p)) : ∃ L, RdJ w v L := by
  rcases open_slice_fields Try.underlying87 Try.underlying96 (by kernel_rfl) (by kernel_rfl) h with ⟨hcs, _⟩ | ⟨a, len, cap, m, D, Plc, hcs, _, hl, hm, hmm, _, hi⟩
  · simp at hcs
    subst hcs
    exact ⟨[], none, 0, rfl, by simp, .inl rfl⟩
  · simp at hcs
    subst hcs
    have hlen : len ≤ 9223372036854775807 := by unfold maxLen at hm; omega
    have hsome : ∀ i : Nat, i < len → ∃ x : Jb, w.cell? (a.add (i * 3)) = some (.bool x.rd) ∧ (∃ u, w.cell? (a.add (i * 3 + 1)) = some u ∧ Rr intK w u x.ps) ∧ ∃ u, w.cell? (a.add (i * 3 + 2)) = some u ∧ Rr u64K w u x.ts := by
      intro i hil
      obtain ⟨ys, k, _, _, hys, hf⟩ := hi i (by rw [hmm]; simp; omega)
      obtain ⟨v0, y0, hc0, _, ht0⟩ := hf 0 _ rfl
      obtain ⟨v1, y1, hc1, _, ht1⟩ := hf 1 _ rfl
      obtain ⟨v2, y2, hc2, _, ht2⟩ := hf 2 _ rfl
      obtain ⟨b, e0, _⟩ := DataW.trod_bool Try.underlying4 ht0
      obtain ⟨l1, hr1⟩ := Pk.rri_of ht1
      obtain ⟨l2, hr2⟩ := Mm.rru_of ht2
      simp at e0
      subst e0
      exact ⟨⟨b, l1, l2⟩, hc0, ⟨v1, hc1, hr1⟩, v2, hc2, hr2⟩
    obtain ⟨L, hl1, hl2⟩ := Gr.list_of len _ hsome
    subst hl1
    refine ⟨L, some a, cap, rfl, hlen, ?_⟩
    by_cases h0 : L = []
    · exact .inl h0
    · have hpos : 0 < L.length := List.length_pos_iff.2 h0
      have h00 := (hl2 0 L[0] (List.getElem?_eq_getElem hpos)).1
      obtain ⟨b, off, spot⟩ := a
      have hspot : spot = none := by simpa [Addr.add] using World.cell?_spot h00
      subst hspot
      refine .inr ⟨b, off, rfl, fun i x hx => ?_⟩
      obtain ⟨q0, ⟨u, hu, hr⟩, v, hv, hs⟩ := hl2 i x hx
      rw [Gr.add_plain'] at q0 hu hv
      exact ⟨q0, ⟨u, by rw [Nat.add_assoc]; exact hu, hr⟩, v, by rw [Nat.add_assoc]; exact hv, hs⟩
end Go.Proofs.Ytjmkcgkkgamafaa.Sh
