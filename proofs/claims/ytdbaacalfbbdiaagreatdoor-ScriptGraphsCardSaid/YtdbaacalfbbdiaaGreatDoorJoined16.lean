/-
  A START THAT MEETS THE CONDITIONS OF THE ROWS OF THIS SEAT: the heap that the door's own run leaves.
  THE ARGUMENTS OF THE LAWS OF PACKAGE graph: a Graph that came in, cell by cell (after the guide's lemma for slices of structs).
-/
import Derived.Test.YtdbaacalfbbdiaaGreatDoorRows
import Derived.WalkKit
import Derived.ProofKit
import Derived.OpenShut
import Derived.LaidMore
import Derived.Stop.Joined
import Derived.Test.YtdbaacalfbbdiaaGreatDoorGTo
import Derived.Lib.SmallJoins
import Derived.Deep.Slices
import Derived.Deep.Fields
import Derived.ChangeSame
import Derived.LaidHandle
import Derived.MakeChecks
import Derived.Stop.LaidErr
import Derived.Lib.LaidTab
import Derived.Carry
namespace Go.Proofs.YtdbaacalfbbdiaaGreatDoor.Door
open Go.ChangeShapes Go.WideShapes Go.ChangeAt Go.RowKit

theorem own : ownKnob Tryz.prog.godebug = none := by kernel_rfl
/-- The start. -/
noncomputable def W0 (os : Os) : World := World.doorLaid Tryz.prog 100 os
theorem shaped (os : Os) (args : Array Value) : ((W0 os).forCall (fun _ _ => 0) ⟨#[], args, []⟩).Shaped Tryz.prog :=
  World.shaped_of_RefB (by kernel_rfl) (by kernel_rfl)
end Go.Proofs.YtdbaacalfbbdiaaGreatDoor.Door
namespace Go.Proofs.YtdbaacalfbbdiaaGreatDoor.Gr
open Go.Joins Go.ChangeShapes Go.WideShapes Go.ChangeAt Go.Deep Go.RowKit Go.Proofs.YtdbaacalfbbdiaaGreatDoor.Door
set_option linter.unusedVariables false

section
variable {H : Type} {enc : TypeId × Value → H} {P : Program} {w : World} {base : Nat} {spare : Nat → Bool} {held : Bool}
theorem open_slice_fields {t e : TypeId} {fs : Array Field} {fuel : Nat} {cs : List Value} {x : DataW H × List MemPlace} (ht : P.underlying t = some (.slice e)) (he : P.underlying e = some (.struct fs))
    (hone : oneCellFields P fs = true) (hC : P.cellsOf e = fs.size) (h : DataW.trod enc P w base spare held fuel t cs = some x) :
    (cs = [.slice none 0 0] ∧ x = (.nil, [])) ∨
    ∃ (a : Addr) (len cap m : Nat) (D : Nat → DataW H) (Pl : Nat → List MemPlace), cs = [.slice (some a) len cap] ∧ base ≤ a.block ∧ len ≤ cap ∧ cap ≤ maxLen ∧ m = (if spare a.block then cap else len) ∧
      x = (.slice ((List.range len).map D) ((List.range (m - len)).map fun j => D (len + j)), MemPlace.row a (m * fs.size) ++ (List.range m).flatMap Pl) ∧
      ∀ i, i < m → ∃ (ys : List (DataW H × List MemPlace)) (n : Nat), D i = .agg (ys.map (·.1)) ∧ Pl i = ys.flatMap (·.2) ∧ ys.length = fs.size ∧
        ∀ (j : Nat) (f : Field), fs[j]? = some f → ∃ (v : Value) (y : DataW H × List MemPlace), w.cell? (a.add (i * fs.size + j)) = some v ∧ ys[j]? = some y ∧ DataW.trod enc P w base spare held n f.type [v] = some y := by
  rcases open_slice ht h with h0 | ⟨a, len, cap, m, n, D, Pl, hcs, hb, hl, hm, hmm, hx, hi⟩
  · exact .inl h0
  · refine .inr ⟨a, len, cap, m, D, Pl, hcs, hb, hl, hm, hmm, by rw [hC] at hx; exact hx, fun i him => ?_⟩
    obtain ⟨cs', hc, ht'⟩ := hi i him
    rw [hC] at hc
    obtain ⟨ys, n', hn', hy, hlen, hyl, hf⟩ := DataW.trod_struct he ht'
    obtain ⟨_, hcl, hat⟩ := World.cells?_some hc
    simp only [Prod.mk.injEq] at hy
    refine ⟨ys, n', hy.1, hy.2, hyl, fun j f hj => ?_⟩
    obtain ⟨ho, hk⟩ := hone_of hone j f hj
    have hjl : j < fs.size := (Array.getElem?_eq_some_iff.1 hj).1
    have hcell := hat j hjl
    have hv : cs'[j]? = some (cs'[j]'(by omega)) := List.getElem?_eq_getElem (by omega)
    have h1 := hf j f hj
    rw [ho, hk] at h1
    have hone' : (cs'.drop j).take 1 = [cs'[j]'(by omega)] := by
      rw [List.drop_eq_getElem_cons (by omega)]
      rfl
    rw [hone'] at h1
    have hys : ys[j]? = some (ys[j]'(by omega)) := List.getElem?_eq_getElem (by omega)
    refine ⟨_, _, ?_, hys, h1.trans hys⟩
    rw [← Go.Deep.add_add, hcell, hv]
end

theorem laidOut : laidOutB Tryz.prog = true := by kernel_rfl
theorem list_of {α : Type} (len : Nat) (Q : Nat → α → Prop) (h : ∀ i : Nat, i < len → ∃ x, Q i x) : ∃ l : List α, l.length = len ∧ ∀ i x, l[i]? = some x → Q i x := by
  induction len with
  | zero => exact ⟨[], rfl, by intro i x h; simp at h⟩
  | succ k ih =>
    obtain ⟨l, h1, h2⟩ := ih (fun i hi => h i (by omega))
    obtain ⟨x, hx⟩ := h k (by omega)
    refine ⟨l ++ [x], by simp [h1], fun i y hy => ?_⟩
    by_cases hik : i < l.length
    · rw [List.getElem?_append_left hik] at hy
      exact h2 i y hy
    · rw [List.getElem?_append_right (by omega)] at hy
      have hi0 : i - l.length = 0 := by
        rcases Nat.eq_zero_or_pos (i - l.length) with h0 | h0
        · exact h0
        · rw [List.getElem?_eq_none (by simp; omega)] at hy; cases hy
      rw [hi0] at hy
      obtain rfl : x = y := by simpa using hy
      have : i = k := by omega
      subst this
      exact hx
theorem add_plain' (b o j : Nat) : ((⟨b, o, none⟩ : Addr).add j) = ⟨b, o + j, none⟩ := by unfold Addr.add; split <;> simp_all
theorem bounds_u64 {n : Int} (h : (Lit.int .u64 n).wf = true) : 0 ≤ n ∧ n ≤ 18446744073709551615 := by
  have h1 : IntKind.u64.min = 0 := rfl
  have h2 : IntKind.u64.max = 18446744073709551615 := rfl
  simp only [Lit.wf, Bool.and_eq_true, decide_eq_true_eq, h1, h2] at h
  exact h
theorem rd_of {H : Type} {enc : TypeId × Value → H} {w : World} {fuel : Nat} {v : Value} {d : DataW H} {p : List MemPlace}
    (h : DataW.trod enc Tryz.prog w 0 (fun _ => true) true fuel 41 [v] = some (d, p)) : ∃ l, Rd w v l := by
  rcases open_slice_fields Tryz.underlying41 Tryz.underlying96 (by kernel_rfl) (by kernel_rfl) h with ⟨hcs, _⟩ | ⟨a, len, cap, m, D, Plc, hcs, _, hl, hm, hmm, _, hi⟩
  · simp at hcs
    subst hcs
    exact ⟨[], none, 0, rfl, by simp, by simp, by simp, .inl rfl⟩
  · simp at hcs
    subst hcs
    have hsome : ∀ i : Nat, i < len → ∃ x : Ed, (w.cell? (a.add (i * 3)) = some (.int .i64 x.f) ∧ w.cell? (a.add (i * 3 + 1)) = some (.int .i64 x.t) ∧ w.cell? (a.add (i * 3 + 2)) = some (.int .u64 x.a)) ∧ x.Wf := by
      intro i hil
      obtain ⟨ys, k, _, _, hys, hf⟩ := hi i (by rw [hmm]; simp; omega)
      obtain ⟨v0, y0, hc0, _, ht0⟩ := hf 0 _ rfl
      obtain ⟨v1, y1, hc1, _, ht1⟩ := hf 1 _ rfl
      obtain ⟨v2, y2, hc2, _, ht2⟩ := hf 2 _ rfl
      obtain ⟨n0, e0, _, w0⟩ := DataW.trod_int Tryz.underlying3 ht0
      obtain ⟨n1, e1, _, w1⟩ := DataW.trod_int Tryz.underlying3 ht1
      obtain ⟨n2, e2, _, w2⟩ := DataW.trod_int Tryz.underlying22 ht2
      simp at e0 e1 e2
      subst e0 e1 e2
      have b0 := bounds_i64 w0
      have b1 := bounds_i64 w1
      have b2 := bounds_u64 w2
      exact ⟨⟨n0, n1, n2⟩, ⟨hc0, hc1, hc2⟩, b0.1, b0.2, b1.1, b1.2, b2.1, b2.2⟩
    have hcap : cap ≤ 9223372036854775807 := by unfold maxLen at hm; omega
    obtain ⟨l, hl1, hl2⟩ := list_of len _ hsome
    subst hl1
    refine ⟨l, some a, cap, rfl, hl, hcap, fun x hx => ?_, ?_⟩
    · obtain ⟨i, hi⟩ := List.mem_iff_getElem?.1 hx
      exact (hl2 i x hi).2
    · by_cases h0 : l = []
      · exact .inl h0
      · have hpos : 0 < l.length := List.length_pos_iff.2 h0
        have h00 := (hl2 0 l[0] (List.getElem?_eq_getElem hpos)).1.1
        obtain ⟨b, off, spot⟩ := a
        have hspot : spot = none := by simpa [Addr.add] using World.cell?_spot h00
        subst hspot
        refine .inr ⟨b, off, rfl, fun i x hx => ?_⟩
        obtain ⟨⟨q0, q1, q2⟩, _⟩ := hl2 i x hx
        rw [add_plain'] at q0 q1 q2
        exact ⟨q0, by rw [Nat.add_assoc]; exact q1, by rw [Nat.add_assoc]; exact q2⟩
theorem rdi_of {H : Type} {enc : TypeId × Value → H} {w : World} {fuel : Nat} {v : Value} {d : DataW H} {p : List MemPlace}
    (h : DataW.trod enc Tryz.prog w 0 (fun _ => true) true fuel 42 [v] = some (d, p)) : ∃ l, RdI w v l := by
  rcases open_ints Tryz.underlying42 Tryz.underlying3 (by kernel_rfl) h with ⟨hcs, _⟩ | ⟨a, len, cap, zs, hcs, _, hl, hm, hz, _, hcell, hwf⟩
  · simp at hcs
    subst hcs
    exact ⟨[], none, 0, rfl, by simp, by simp, by simp, .inl rfl⟩
  · simp at hcs
    subst hcs
    have hcap : cap ≤ 9223372036854775807 := by unfold maxLen at hm; omega
    have hz' : zs.length = cap := by simpa using hz
    have htl : (zs.take len).length = len := by rw [List.length_take]; omega
    refine ⟨zs.take len, some a, cap, by rw [htl], by omega, hcap, fun x hx => bounds_i64 (hwf x (List.mem_of_mem_take hx)), ?_⟩
    by_cases h0 : len = 0
    · left; subst h0; simp
    · have h00 := hcell 0 (by omega)
      obtain ⟨b, off, spot⟩ := a
      have hspot : spot = none := by simpa [Addr.add] using World.cell?_spot h00
      subst hspot
      refine .inr ⟨b, off, rfl, fun i x hx => ?_⟩
      have hi : i < len := by have := (List.getElem?_eq_some_iff.1 hx).1; omega
      rw [List.getElem?_take_of_lt hi] at hx
      have := hcell i (by omega)
      rw [add_plain', List.getD_eq_getElem?_getD, hx] at this
      exact this
set_option maxRecDepth 100000 in
/-- A Graph that came in. -/
theorem gmem_of {H : Type} {enc : TypeId × Value → H} {w : World} {b0 : Nat} {v : Value} {d : DataW H} {p : List MemPlace} (hv : Value.okWide Tryz.prog w .any b0 44 v)
    (h : DataW.Trod enc Tryz.prog w 0 (fun _ => true) true 44 v d p) : ∃ (n : Int) (ve vi : Value) (E : List Ed) (I : List Int), v = .agg #[.int .i64 n, ve, vi] ∧ (-9223372036854775808 ≤ n ∧ n ≤ 9223372036854775807) ∧ GMemP w ve vi E I := by
  obtain ⟨v0, v1, v2, ⟨d0, p0⟩, ⟨d1, p1⟩, ⟨d2, p2⟩, n, rfl, _, _, t0, t1, t2⟩ := open_agg3 Tryz.underlying44 (by kernel_rfl) (by kernel_rfl) hv h
  obtain ⟨n0, e0, _, w0⟩ := DataW.trod_int Tryz.underlying3 t0
  simp at e0
  subst e0
  obtain ⟨E, hE⟩ := rd_of t1
  obtain ⟨I, hI⟩ := rdi_of t2
  exact ⟨n0, v1, v2, E, I, rfl, bounds_i64 w0, ⟨hE, hI⟩⟩

end Go.Proofs.YtdbaacalfbbdiaaGreatDoor.Gr
