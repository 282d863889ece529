/-
  THE ARGUMENTS OF THE LAWS OF PACKAGE batch: a slice of Changes that came in, cell by cell (after the guide's lemma for slices of structs).
  THE ARGUMENTS OF THE LAWS OF PACKAGE pick: a slice of numbers, an array of two numbers.
  THE ARGUMENT OF PoolTurns: a slice of slices of slices of Changes.
-/
import Derived.Test.YtmggnalobfihnaaBatchMem
import Derived.Test.YtmggnalobfihnaaRows
import Derived.WalkKit
import Derived.ProofKit
import Derived.OpenShut
import Derived.Deep.Slices
import Derived.Deep.Fields
import Derived.ChangeSame
import Derived.LaidHandle
import Derived.MakeChecks
import Derived.Carry
import Derived.Test.YtmggnalobfihnaaJoined8
import Derived.Lib.SmallJoins
import Derived.Test.YtmggnalobfihnaaJoined16
namespace Go.Proofs.Ytmggnalobfihnaa.Batch
open Go.ChangeShapes Go.WideShapes Go.ChangeAt Go.Deep Go.RowKit
set_option linter.unusedVariables false

section
variable {H : Type} {enc : TypeId × Value → H} {P : Program} {w : World} {base : Nat} {spare : Nat → Bool} {held : Bool}
theorem open_slice_fields {t e : TypeId} {fs : Array Field} {fuel : Nat} {cs : List Value} {x : DataW H × List MemPlace} (ht : P.underlying t = some (.slice e)) (he : P.underlying e = some (.struct fs))
    (hone : oneCellFields P fs = true) (hC : P.cellsOf e = fs.size) (h : DataW.trod enc P w base spare held fuel t cs = some x) :
    (cs = [.slice none 0 0] ∧ x = (.nil, [])) ∨
    ∃ (a : Addr) (len cap m : Nat) (D : Nat → DataW H) (Pl : Nat → List MemPlace), cs = [.slice (some a) len cap] ∧ base ≤ a.block ∧ len ≤ cap ∧ cap ≤ maxLen ∧ m = (if spare a.block then cap else len) ∧
      x = (.slice ((List.range len).map D) ((List.range (m - len)).map fun j => D (len + j)), MemPlace.row a (m * fs.size) ++ (List.range m).flatMap Pl) ∧
      ∀ i, i < m → ∃ (ys : List (DataW H × List MemPlace)) (n : Nat), D i = .agg (ys.map (·.1)) ∧ Pl i = ys.flatMap (·.2) ∧ ys.length = fs.size ∧
        ∀ (j : Nat) (f : Field), fs[j]? = some f → ∃ (v : Value) (y : DataW H × List MemPlace), w.cell? (a.add (i * fs.size + j)) = some v ∧ ys[j]? = some y ∧ DataW.trod enc P w base spare held n f.type [v] = some y := by
  rcases open_slice ht h with h0 | ⟨a, len, cap, m, n, D, Pl, hcs, hb, hl, hm, hmm, hx, hi⟩
  · exact .inl h0
  · refine .inr ⟨a, len, cap, m, D, Pl, hcs, hb, hl, hm, hmm, by rw [hC] at hx; exact hx, fun i him => ?_⟩
    obtain ⟨cs', hc, ht'⟩ := hi i him
    rw [hC] at hc
    obtain ⟨ys, n', hn', hy, hlen, hyl, hf⟩ := DataW.trod_struct he ht'
    obtain ⟨_, hcl, hat⟩ := World.cells?_some hc
    simp only [Prod.mk.injEq] at hy
    refine ⟨ys, n', hy.1, hy.2, hyl, fun j f hj => ?_⟩
    obtain ⟨ho, hk⟩ := hone_of hone j f hj
    have hjl : j < fs.size := (Array.getElem?_eq_some_iff.1 hj).1
    have hcell := hat j hjl
    have hv : cs'[j]? = some (cs'[j]'(by omega)) := List.getElem?_eq_getElem (by omega)
    have h1 := hf j f hj
    rw [ho, hk] at h1
    have hone' : (cs'.drop j).take 1 = [cs'[j]'(by omega)] := by
      rw [List.drop_eq_getElem_cons (by omega)]
      rfl
    rw [hone'] at h1
    have hys : ys[j]? = some (ys[j]'(by omega)) := List.getElem?_eq_getElem (by omega)
    refine ⟨_, _, ?_, hys, h1.trans hys⟩
    rw [← Go.Deep.add_add, hcell, hv]
end

theorem laidOut : laidOutB Try.prog = true := by kernel_rfl
theorem list_of {α : Type} (len : Nat) (Q : Nat → α → Prop) (h : ∀ i : Nat, i < len → ∃ x, Q i x) : ∃ l : List α, l.length = len ∧ ∀ i x, l[i]? = some x → Q i x := by
  induction len with
  | zero => exact ⟨[], rfl, by intro i x h; simp at h⟩
  | succ k ih =>
    obtain ⟨l, h1, h2⟩ := ih (fun i hi => h i (by omega))
    obtain ⟨x, hx⟩ := h k (by omega)
    refine ⟨l ++ [x], by simp [h1], fun i y hy => ?_⟩
    by_cases hik : i < l.length
    · rw [List.getElem?_append_left hik] at hy
      exact h2 i y hy
    · rw [List.getElem?_append_right (by omega)] at hy
      have hi0 : i - l.length = 0 := by
        rcases Nat.eq_zero_or_pos (i - l.length) with h0 | h0
        · exact h0
        · rw [List.getElem?_eq_none (by simp; omega)] at hy; cases hy
      rw [hi0] at hy
      obtain rfl : x = y := by simpa using hy
      have : i = k := by omega
      subst this
      exact hx
theorem add_plain' (b o j : Nat) : ((⟨b, o, none⟩ : Addr).add j) = ⟨b, o + j, none⟩ := by unfold Addr.add; split <;> simp_all
theorem own : ownKnob Try.prog.godebug = none := by kernel_rfl
theorem bounds_u64 {n : Int} (h : (Lit.int .u64 n).wf = true) : 0 ≤ n ∧ n ≤ 18446744073709551615 := by
  have h1 : IntKind.u64.min = 0 := rfl
  have h2 : IntKind.u64.max = 18446744073709551615 := rfl
  simp only [Lit.wf, Bool.and_eq_true, decide_eq_true_eq, h1, h2] at h
  exact h
theorem rd_of {H : Type} {enc : TypeId × Value → H} {w : World} {fuel : Nat} {ao : Option Addr} {len cap : Nat} {d : DataW H} {p : List MemPlace}
    (h : DataW.trod enc Try.prog w 0 (fun _ => true) true fuel 32 [.slice ao len cap] = some (d, p)) : ∃ l, Rd w (.slice ao len cap) l := by
  rcases open_slice_fields Try.underlying32 Try.underlying78 (by kernel_rfl) (by kernel_rfl) h with ⟨hcs, _⟩ | ⟨a, len', cap', m, D, Plc, hcs, _, hl, hm, hmm, _, hi⟩
  · simp at hcs
    obtain ⟨rfl, rfl, rfl⟩ := hcs
    exact ⟨[], none, 0, rfl, by simp, by simp, by simp, .inl rfl⟩
  · simp at hcs
    obtain ⟨rfl, rfl, rfl⟩ := hcs
    have hsome : ∀ i : Nat, i < len → ∃ x : Ch, (w.cell? (a.add (i * 3)) = some (.int .i64 x.p) ∧ w.cell? (a.add (i * 3 + 1)) = some (.int .u64 x.t) ∧ w.cell? (a.add (i * 3 + 2)) = some (.int .i64 x.d)) ∧ x.Wf := by
      intro i hil
      obtain ⟨ys, k, _, _, hys, hf⟩ := hi i (by rw [hmm]; simp; omega)
      obtain ⟨v0, y0, hc0, _, ht0⟩ := hf 0 _ rfl
      obtain ⟨v1, y1, hc1, _, ht1⟩ := hf 1 _ rfl
      obtain ⟨v2, y2, hc2, _, ht2⟩ := hf 2 _ rfl
      obtain ⟨n0, e0, _, w0⟩ := DataW.trod_int Try.underlying3 ht0
      obtain ⟨n1, e1, _, w1⟩ := DataW.trod_int Try.underlying24 ht1
      obtain ⟨n2, e2, _, w2⟩ := DataW.trod_int Try.underlying2 ht2
      simp at e0 e1 e2
      subst e0 e1 e2
      have b0 := bounds_i64 w0
      have b1 := bounds_u64 w1
      have b2 := bounds_i64 w2
      exact ⟨⟨n0, n1, n2⟩, ⟨hc0, hc1, hc2⟩, b0.1, b0.2, b1.1, b1.2, b2.1, b2.2⟩
    have hcap : cap ≤ 9223372036854775807 := by unfold maxLen at hm; omega
    obtain ⟨l, hl1, hl2⟩ := list_of len _ hsome
    subst hl1
    refine ⟨l, some a, cap, rfl, hl, hcap, fun x hx => ?_, ?_⟩
    · obtain ⟨i, hi⟩ := List.mem_iff_getElem?.1 hx
      exact (hl2 i x hi).2
    · by_cases h0 : l = []
      · exact .inl h0
      · have hpos : 0 < l.length := List.length_pos_iff.2 h0
        have h00 := (hl2 0 l[0] (List.getElem?_eq_getElem hpos)).1.1
        obtain ⟨b, off, spot⟩ := a
        have hspot : spot = none := by simpa [Addr.add] using World.cell?_spot h00
        subst hspot
        refine .inr ⟨b, off, rfl, fun i x hx => ?_⟩
        obtain ⟨⟨q0, q1, q2⟩, _⟩ := hl2 i x hx
        rw [add_plain'] at q0 q1 q2
        exact ⟨q0, by rw [Nat.add_assoc]; exact q1, by rw [Nat.add_assoc]; exact q2⟩
end Go.Proofs.Ytmggnalobfihnaa.Batch
namespace Go.Proofs.Ytmggnalobfihnaa.Pk
open Go.ChangeShapes Go.WideShapes Go.ChangeAt Go.Deep Go.RowKit Rw
set_option linter.unusedVariables false

theorem bounds_i64P {n : Int} (h : (Lit.int .i64 n).wf = true) : -9223372036854775808 ≤ n ∧ n ≤ 9223372036854775807 := by
  have h1 : IntKind.i64.min = -9223372036854775808 := rfl
  have h2 : IntKind.i64.max = 9223372036854775807 := rfl
  simp only [Lit.wf, Bool.and_eq_true, decide_eq_true_eq, h1, h2] at h
  exact h
theorem rri_of {H : Type} {enc : TypeId × Value → H} {w : World} {fuel : Nat} {v : Value} {d : DataW H} {p : List MemPlace}
    (h : DataW.trod enc Try.prog w 0 (fun _ => true) true fuel 23 [v] = some (d, p)) : ∃ l, Rr intK w v l := by
  rcases open_ints Try.underlying23 Try.underlying3 (by kernel_rfl) h with ⟨hcs, _⟩ | ⟨a, len, cap, zs, hcs, _, hl, hm, hz, _, hcell, hwf⟩
  · simp at hcs
    subst hcs
    exact ⟨[], none, 0, rfl, .inl rfl, by simp, by simp, by simp⟩
  · simp at hcs
    subst hcs
    have hcap : cap ≤ 9223372036854775807 := by unfold maxLen at hm; omega
    have hz' : zs.length = cap := by simpa using hz
    refine ⟨zs.take len, rr_of (by decide) (by rw [List.length_take]; omega) hl hcap (fun x hx => bounds_i64P (hwf x (List.mem_of_mem_take hx))) fun i x hx c u hc hu => ?_⟩
    obtain rfl : c = 0 := by have : c < 1 := hc; omega
    have hu' : u = .int .i64 x := by
      have : [Value.int IntKind.i64 x][0]? = some u := hu
      simpa using this.symm
    subst hu'
    have hi : i < len := by have := (List.getElem?_eq_some_iff.1 hx).1; rw [List.length_take] at this; omega
    rw [List.getElem?_take_of_lt hi] at hx
    have := hcell i (by omega)
    rw [List.getD_eq_getElem?_getD, hx] at this
    rw [show i * intK.k + 0 = i from Nat.mul_one i]
    exact this
section
variable {H : Type} {enc : TypeId × Value → H} {P : Program} {w : World} {base : Nat} {spare : Nat → Bool} {held : Bool}
theorem trod_array2 {t e : TypeId} {fuel : Nat} {c0 c1 : Value} {x : DataW H × List MemPlace} (ht : P.underlying t = some (.array 2 e)) (hce : P.cellsOf e = 1)
    (h : DataW.trod enc P w base spare held fuel t [c0, c1] = some x) :
    ∃ y0 y1 n, x = (.agg [y0.1, y1.1], y0.2 ++ y1.2) ∧ DataW.trod enc P w base spare held n e [c0] = some y0 ∧ DataW.trod enc P w base spare held n e [c1] = some y1 := by
  cases fuel with
  | zero => simp [DataW.trod] at h
  | succ n =>
    unfold DataW.trod at h
    rw [ht] at h
    have r2 : List.range 2 = [0, 1] := rfl
    simp [r2, hce] at h
    obtain ⟨_, h⟩ := h
    cases h0 : DataW.trod enc P w base spare held n e [c0] with
    | none => simp [h0] at h
    | some y0 =>
      cases h1 : DataW.trod enc P w base spare held n e [c1] with
      | none => simp [h0, h1] at h
      | some y1 =>
        simp [h0, h1] at h
        exact ⟨y0, y1, n, h.symm, h0, h1⟩
end
theorem cells_one : Try.prog.cellsOf 3 = 1 := by kernel_rfl
end Go.Proofs.Ytmggnalobfihnaa.Pk
namespace Go.Proofs.Ytmggnalobfihnaa.Pl
open Go.Joins Go.ChangeShapes Go.WideShapes Go.ChangeAt Go.Deep Go.RowKit Gr
set_option linter.unusedVariables false
def RdLL (w : World) (v : Value) (L : List (List (List Batch.Ch))) : Prop := ∃ (ao : Option Addr) (cap : Nat), v = .slice ao L.length cap ∧ L.length ≤ 9223372036854775807 ∧ (L = [] ∨ ∃ b off, ao = some ⟨b, off, none⟩ ∧ ∀ (i : Nat) (l : List (List Batch.Ch)), L[i]? = some l → ∃ u, w.cell? ⟨b, off + i, none⟩ = some u ∧ Fr.RdL w u l)
theorem RdLL.below {w w' : World} {v : Value} {L : List (List (List Batch.Ch))} (h : RdLL w v L) (hw : Below w.heap.size w w') : RdLL w' v L := by
  obtain ⟨ao, cap, rfl, h1, h4⟩ := h
  refine ⟨ao, cap, rfl, h1, ?_⟩
  rcases h4 with h4 | ⟨b, off, ha, h4⟩
  · exact .inl h4
  · refine .inr ⟨b, off, ha, fun i l hx => ?_⟩
    obtain ⟨u, hu, hr⟩ := h4 i l hx
    exact ⟨u, (hw.cell (p := ⟨b, off + i, none⟩) (Lib.lt_of_cell hu)).trans hu, hr.below hw⟩
theorem RdLL.at {w : World} {ao : Option Addr} {n cap : Nat} {L : List (List (List Batch.Ch))} (h : RdLL w (.slice ao n cap) L) {i : Nat} {x : List (List Batch.Ch)} (hx : L[i]? = some x) : ∃ b off u, ao = some ⟨b, off, none⟩ ∧ w.cell? ⟨b, off + i, none⟩ = some u ∧ Fr.RdL w u x := by
  obtain ⟨ao', cap', hv, _, h⟩ := h
  simp only [Value.slice.injEq] at hv
  obtain ⟨rfl, _, rfl⟩ := hv
  rcases h with rfl | ⟨b, off, rfl, h⟩
  · simp at hx
  · obtain ⟨u, h1, h2⟩ := h i x hx
    exact ⟨b, off, u, rfl, h1, h2⟩
theorem rdl_at {w : World} {ao : Option Addr} {n cap : Nat} {L : List (List Batch.Ch)} (h : Fr.RdL w (.slice ao n cap) L) {i : Nat} {x : List Batch.Ch} (hx : L[i]? = some x) : ∃ b off u, ao = some ⟨b, off, none⟩ ∧ w.cell? ⟨b, off + i, none⟩ = some u ∧ Batch.Rd w u x := by
  obtain ⟨ao', cap', hv, _, h⟩ := h
  simp only [Value.slice.injEq] at hv
  obtain ⟨rfl, _, rfl⟩ := hv
  rcases h with rfl | ⟨b, off, rfl, h⟩
  · simp at hx
  · obtain ⟨u, h1, h2⟩ := h i x hx
    exact ⟨b, off, u, rfl, h1, h2⟩
set_option maxRecDepth 100000 in
theorem rdll_of {H : Type} {enc : TypeId × Value → H} {w : World} {fuel : Nat} {v : Value} {d : DataW H} {p : List MemPlace}
    (h : DataW.trod enc Try.prog w 0 (fun _ => true) true fuel 22 [v] = some (d, p)) : ∃ L, RdLL w v L := by
  have hC : Try.prog.cellsOf 39 = 1 := by kernel_rfl
  rcases open_slice Try.underlying22 h with ⟨hcs, _⟩ | ⟨a, len, cap, m, n, D, Plc, hcs, _, hl, hm, hmm, _, hi⟩
  · simp at hcs
    subst hcs
    exact ⟨[], none, 0, rfl, by simp, .inl rfl⟩
  · simp at hcs
    subst hcs
    rw [hC] at hi
    have hlen : len ≤ 9223372036854775807 := by unfold maxLen at hm; omega
    have hsome : ∀ i : Nat, i < len → ∃ l : List (List Batch.Ch), ∃ u, w.cell? (a.add i) = some u ∧ Fr.RdL w u l := by
      intro i hil
      obtain ⟨cs', hc, ht⟩ := hi i (by rw [hmm]; simp; omega)
      rw [Nat.mul_one] at hc
      obtain ⟨_, hcl, hat⟩ := World.cells?_some hc
      have h0 := hat 0 (by omega)
      obtain ⟨u, hu⟩ : ∃ u, cs' = [u] := by
        match cs', hcl with
        | [u], _ => exact ⟨u, rfl⟩
      subst hu
      obtain ⟨l, hr⟩ := Fr.rdl_of ht
      exact ⟨l, u, by simpa [Addr.add] using h0, hr⟩
    obtain ⟨L, hl1, hl2⟩ := Gr.list_of len _ hsome
    subst hl1
    refine ⟨L, some a, cap, rfl, hlen, ?_⟩
    by_cases h0 : L = []
    · exact .inl h0
    · have hpos : 0 < L.length := List.length_pos_iff.2 h0
      obtain ⟨u0, hu0, _⟩ := hl2 0 L[0] (List.getElem?_eq_getElem hpos)
      obtain ⟨b, off, spot⟩ := a
      have hspot : spot = none := by simpa [Addr.add] using World.cell?_spot hu0
      subst hspot
      refine .inr ⟨b, off, rfl, fun i l hx => ?_⟩
      obtain ⟨u, hu, hr⟩ := hl2 i l hx
      rw [Gr.add_plain'] at hu
      exact ⟨u, hu, hr⟩
end Go.Proofs.Ytmggnalobfihnaa.Pl
