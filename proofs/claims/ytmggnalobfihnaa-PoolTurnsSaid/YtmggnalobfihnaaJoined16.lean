/-
  THE LAWS' OWN To OF A GRAPH.
  A START THAT MEETS THE CONDITIONS OF THE ROWS OF THIS SEAT: the heap that the door's own run leaves.
  THE ARGUMENTS OF THE LAWS OF PACKAGE graph: a Graph that came in, cell by cell (after the guide's lemma for slices of structs).
  A SLICE OF SLICES OF CHANGES THAT CAME IN.
-/
import Derived.Test.YtmggnalobfihnaaGMem
import Derived.Test.YtmggnalobfihnaaJoined2
import Derived.Deep.RegionHeld3
import Derived.Deep.RegionHeldLaw
import Derived.Deep.DeepCutAuto
import Derived.WalkKit
import Derived.WalkLawsBesides
import Derived.WalkSpells
import Derived.WalkSmall
import Derived.StillTactics
import Derived.StillTailTactics
import Derived.Deep.AppendLies
import Derived.Deep.LoopGhost
import Derived.OwnWalk
import Derived.IntWalk
import Derived.Outline
import Derived.Test.YtmggnalobfihnaaRows
import Derived.ProofKit
import Derived.OpenShut
import Derived.LaidMore
import Derived.Stop.Joined
import Derived.Lib.SmallJoins
import Derived.Deep.Slices
import Derived.Deep.Fields
import Derived.ChangeSame
import Derived.LaidHandle
import Derived.MakeChecks
import Derived.Stop.LaidErr
import Derived.Lib.LaidTab
import Derived.Carry
import Derived.Test.YtmggnalobfihnaaBatchMem
namespace Go.Proofs.Ytmggnalobfihnaa.Gr
open Go.RowKit Go.Deep
set_option linter.unusedVariables false
set_option linter.unusedSimpArgs false

section
variable {P : Program} {w : World}
theorem step_append_any {ops : Array Oper} {o : Oper} {a : Act} {K : Act → World → Prop} {Q : Exit → Act → World → Prop} {E : Prop} (hgd : o.guard = none) (s x : Operand) (t t2 : TypeId)
    (ho : o.op = .call { callee := .builtin .append, args := #[s, x], argTypes := #[t, t2] })
    (base : Nat) (e e2 : TypeId) (i : TypeInfo) (z : Value) (size bytes : Nat) (ht : P.underlying t = some (.slice e)) (ht2 : P.underlying t2 = some (.slice e2)) (hi : P.info? e = some i) (hz : i.zero = some z)
    (hsize : i.size = size) (hby : i.bytes = bytes) (hzs : z.cells.size = size) (hsz : 0 < size)
    (v : Value) (n : Nat) (xs : List Value) (hs : a.eval s = v) (hown : w.ownsRow base e size v n xs)
    (A : Option Addr) (m c : Nat) (news : List Value) (hx : a.eval x = .slice A m c) (hl : news.length = m * size) (hr : Batch.Src w A m news) (h1 : ∀ u ∈ news, u.oneCell' = true)
    (h63 : n + m ≤ maxLen) (hbytes : (n + m) * bytes ≤ 140737488355328) (hbase : base ≤ w.heap.size)
    (h : ∀ v' w', w'.ownsRow base e size v' (n + m) (xs ++ news) → w.grownBy w' v.ownBlock → (v'.ownBlock = v.ownBlock ∨ v'.ownBlock = some w.heap.size) → K (a.put o.dst v') w') :
    if Region.wanted o (yielded ops a.tmps) = true then Oper.wp P o a w K Q else E := by
  have hw : Region.wanted o (yielded ops a.tmps) = true := by simp [Region.wanted, hgd]
  rw [if_pos hw]
  exact Batch.wp_append_any w s x t t2 ho base e e2 i z size bytes ht ht2 hi hz hsize hby hzs hsz v n xs hs hown A m c news hx hl hr h1 h63 hbytes hbase h
end
def intsL (l : List Int) : List Value := l.map fun x => .int .i64 x
theorem intsL_one (l : List Int) : ∀ u ∈ intsL l, u.oneCell' = true := by
  intro u hu
  unfold intsL at hu
  obtain ⟨x, _, rfl⟩ := List.mem_map.1 hu
  rfl
theorem intsL_at {l : List Int} {i : Nat} {x : Int} (h : l[i]? = some x) : (intsL l)[i]? = some (.int .i64 x) := by unfold intsL; rw [List.getElem?_map, h]; rfl
/-- Numbers in memory of the call's own. -/
def OwnI (w : World) (base : Nat) (T : TypeId) (v : Value) (l : List Int) : Prop := w.ownsRow base T 1 v l.length (intsL l)
theorem OwnI.rd {w : World} {base : Nat} {T : TypeId} {v : Value} {l : List Int} (h : OwnI w base T v l) (hw : ∀ x ∈ l, -9223372036854775808 ≤ x ∧ x ≤ 9223372036854775807) : RdI w v l := by
  have h0 := h
  rcases h.2 with ⟨rfl, hn⟩ | ⟨g, cap, cur, rfl, hb, hg, hc, hm, _⟩
  · obtain rfl := List.length_eq_zero_iff.1 hn
    exact ⟨none, 0, rfl, by simp, by simp, by simp, .inl rfl⟩
  · refine ⟨some ⟨g, 0, none⟩, cap, rfl, hc, by unfold maxLen at hm; exact hm, hw, .inr ⟨g, 0, rfl, fun i x hx => ?_⟩⟩
    have := World.ownsRow.cells h0 (g := g) rfl i _ (intsL_at hx)
    rw [show ((⟨g, 0, none⟩ : Addr).add i) = ⟨g, 0 + i, none⟩ by unfold Addr.add; split <;> simp_all] at this
    exact this
theorem OwnI.form {w : World} {base : Nat} {T : TypeId} {v : Value} {l : List Int} (h : OwnI w base T v l) : ∃ ao cap, v = .slice ao l.length cap := by
  rcases h.2 with ⟨rfl, hn⟩ | ⟨g, cap, cur, rfl, _⟩
  · exact ⟨none, 0, by rw [hn]⟩
  · exact ⟨_, _, rfl⟩
theorem OwnI.below {w w' : World} {base : Nat} {T : TypeId} {v : Value} {l : List Int} (h : OwnI w base T v l) (hw : Below w.heap.size w w') : OwnI w' base T v l := by
  refine ⟨h.1, ?_⟩
  rcases h.2 with h2 | ⟨g, cap, cur, rfl, hb, hg, rest⟩
  · exact .inl h2
  · exact .inr ⟨g, cap, cur, rfl, hb, (hw.block g (Array.getElem?_eq_some_iff.1 hg).1).trans hg, rest⟩
theorem RdI.src {w : World} {ao : Option Addr} {n cap : Nat} {l : List Int} (h : RdI w (.slice ao n cap) l) : Batch.Src w ao l.length (intsL l) := by
  obtain ⟨ao', cap', hv, _, _, _, h4⟩ := h
  simp only [Value.slice.injEq] at hv
  obtain ⟨rfl, rfl, rfl⟩ := hv
  rcases h4 with rfl | ⟨b, off, rfl, h4⟩
  · cases ao with
    | none => exact .inl ⟨rfl, rfl, rfl⟩
    | some ad => exact .inr ⟨ad, rfl, fun j u hu => by simp [intsL] at hu⟩
  · refine .inr ⟨_, rfl, fun j u hu => ?_⟩
    rw [show ((⟨b, off, none⟩ : Addr).add j) = ⟨b, off + j, none⟩ by unfold Addr.add; split <;> simp_all]
    unfold intsL at hu
    rw [List.getElem?_map] at hu
    obtain ⟨x, hx, rfl⟩ := Option.map_eq_some_iff.1 hu
    exact h4 j x hx
theorem own01 (w : World) (T : TypeId) : (w.alloc (.cells #[] T)).ownsRow w.heap.size T 1 (.slice (some ⟨w.heap.size, 0, none⟩) 0 0) 0 [] :=
  ⟨rfl, .inr ⟨w.heap.size, 0, #[], rfl, Nat.le_refl _, heap_alloc_new w _, Nat.le_refl _, by decide, rfl, rfl⟩⟩
theorem own01' {W : World} {g base : Nat} {T : TypeId} (h : W.heap[g]? = some (.cells #[] T (0, 0))) (hb : base ≤ g) : W.ownsRow base T 1 (.slice (some ⟨g, 0, none⟩) 0 0) 0 [] :=
  ⟨rfl, .inr ⟨g, 0, #[], rfl, hb, h, Nat.le_refl _, by decide, rfl, rfl⟩⟩
theorem three_cells {w : World} {G : Nat} {x y z : Value} {T : TypeId} (h : w.heap[G]? = some (.cells #[x, y, z] T (0, 0))) : w.cell? ⟨G, 0, none⟩ = some x ∧ w.cell? ⟨G, 1, none⟩ = some y ∧ w.cell? ⟨G, 2, none⟩ = some z ∧ ∀ o, w.frozen? ⟨G, o, none⟩ = false := by
  refine ⟨?_, ?_, ?_, fun o => ?_⟩ <;> simp [World.cell?, World.frozen?, h]
theorem three_set {w : World} {G : Nat} {x y z x' y' z' : Value} {T : TypeId} (h : w.heap[G]? = some (.cells #[x, y, z] T (0, 0))) : (((w.setCell ⟨G, 0, none⟩ x').setCell ⟨G, 1, none⟩ y').setCell ⟨G, 2, none⟩ z').heap[G]? = some (.cells #[x', y', z'] T (0, 0)) := by
  have h0 := heap_setCell_same w G 0 _ T x' h
  have h1 := heap_setCell_same _ G 1 _ T y' h0
  have h2 := heap_setCell_same _ G 2 _ T z' h1
  simpa using h2
theorem infoInt : (Try.prog.info? 3).map (fun i => (i.zero, i.size, i.bytes)) = some (some (.int .i64 0), 1, 8) := by kernel_rfl
/-- A graph in memory. -/
structure GMemP (w : World) (ve vi : Value) (E : List Ed) (I : List Int) : Prop where
  ed : Rd w ve E
  inp : RdI w vi I
theorem GMemP.below {w w' : World} {ve vi : Value} {E : List Ed} {I : List Int} (h : GMemP w ve vi E I) (hb : Below w.heap.size w w') : GMemP w' ve vi E I := ⟨h.ed.below hb, h.inp.below hb⟩
theorem OwnI.grown {w w' : World} {base : Nat} {T : TypeId} {v : Value} {l : List Int} {row : Option Nat} (h : OwnI w base T v l) (hg : w.grownBy w' row) (hne : v.ownBlock = none ∨ v.ownBlock ≠ row) : OwnI w' base T v l := by
  refine ⟨h.1, ?_⟩
  rcases h.2 with h2 | ⟨g, cap, cur, rfl, hb, hk, rest⟩
  · exact .inl h2
  · refine .inr ⟨g, cap, cur, rfl, hb, (hg.block g (Array.getElem?_eq_some_iff.1 hk).1 ?_).trans hk, rest⟩
    rcases hne with h | h
    · simp [Value.ownBlock] at h
    · exact h
end Go.Proofs.Ytmggnalobfihnaa.Gr
namespace Go.Proofs.Ytmggnalobfihnaa.Door
open Go.ChangeShapes Go.WideShapes Go.ChangeAt Go.RowKit

theorem own : ownKnob Try.prog.godebug = none := by kernel_rfl
/-- The start. -/
noncomputable def W0 (os : Os) : World := World.doorLaid Try.prog 100 os
theorem shaped (os : Os) (args : Array Value) : ((W0 os).forCall (fun _ _ => 0) ⟨#[], args, []⟩).Shaped Try.prog :=
  World.shaped_of_RefB (by kernel_rfl) (by kernel_rfl)
end Go.Proofs.Ytmggnalobfihnaa.Door
namespace Go.Proofs.Ytmggnalobfihnaa.Gr
open Go.Joins Go.ChangeShapes Go.WideShapes Go.ChangeAt Go.Deep Go.RowKit Go.Proofs.Ytmggnalobfihnaa.Door
set_option linter.unusedVariables false

section
variable {H : Type} {enc : TypeId × Value → H} {P : Program} {w : World} {base : Nat} {spare : Nat → Bool} {held : Bool}
theorem open_slice_fields {t e : TypeId} {fs : Array Field} {fuel : Nat} {cs : List Value} {x : DataW H × List MemPlace} (ht : P.underlying t = some (.slice e)) (he : P.underlying e = some (.struct fs))
    (hone : oneCellFields P fs = true) (hC : P.cellsOf e = fs.size) (h : DataW.trod enc P w base spare held fuel t cs = some x) :
    (cs = [.slice none 0 0] ∧ x = (.nil, [])) ∨
    ∃ (a : Addr) (len cap m : Nat) (D : Nat → DataW H) (Pl : Nat → List MemPlace), cs = [.slice (some a) len cap] ∧ base ≤ a.block ∧ len ≤ cap ∧ cap ≤ maxLen ∧ m = (if spare a.block then cap else len) ∧
      x = (.slice ((List.range len).map D) ((List.range (m - len)).map fun j => D (len + j)), MemPlace.row a (m * fs.size) ++ (List.range m).flatMap Pl) ∧
      ∀ i, i < m → ∃ (ys : List (DataW H × List MemPlace)) (n : Nat), D i = .agg (ys.map (·.1)) ∧ Pl i = ys.flatMap (·.2) ∧ ys.length = fs.size ∧
        ∀ (j : Nat) (f : Field), fs[j]? = some f → ∃ (v : Value) (y : DataW H × List MemPlace), w.cell? (a.add (i * fs.size + j)) = some v ∧ ys[j]? = some y ∧ DataW.trod enc P w base spare held n f.type [v] = some y := by
  rcases open_slice ht h with h0 | ⟨a, len, cap, m, n, D, Pl, hcs, hb, hl, hm, hmm, hx, hi⟩
  · exact .inl h0
  · refine .inr ⟨a, len, cap, m, D, Pl, hcs, hb, hl, hm, hmm, by rw [hC] at hx; exact hx, fun i him => ?_⟩
    obtain ⟨cs', hc, ht'⟩ := hi i him
    rw [hC] at hc
    obtain ⟨ys, n', hn', hy, hlen, hyl, hf⟩ := DataW.trod_struct he ht'
    obtain ⟨_, hcl, hat⟩ := World.cells?_some hc
    simp only [Prod.mk.injEq] at hy
    refine ⟨ys, n', hy.1, hy.2, hyl, fun j f hj => ?_⟩
    obtain ⟨ho, hk⟩ := hone_of hone j f hj
    have hjl : j < fs.size := (Array.getElem?_eq_some_iff.1 hj).1
    have hcell := hat j hjl
    have hv : cs'[j]? = some (cs'[j]'(by omega)) := List.getElem?_eq_getElem (by omega)
    have h1 := hf j f hj
    rw [ho, hk] at h1
    have hone' : (cs'.drop j).take 1 = [cs'[j]'(by omega)] := by
      rw [List.drop_eq_getElem_cons (by omega)]
      rfl
    rw [hone'] at h1
    have hys : ys[j]? = some (ys[j]'(by omega)) := List.getElem?_eq_getElem (by omega)
    refine ⟨_, _, ?_, hys, h1.trans hys⟩
    rw [← Go.Deep.add_add, hcell, hv]
end

theorem laidOut : laidOutB Try.prog = true := by kernel_rfl
theorem list_of {α : Type} (len : Nat) (Q : Nat → α → Prop) (h : ∀ i : Nat, i < len → ∃ x, Q i x) : ∃ l : List α, l.length = len ∧ ∀ i x, l[i]? = some x → Q i x := by
  induction len with
  | zero => exact ⟨[], rfl, by intro i x h; simp at h⟩
  | succ k ih =>
    obtain ⟨l, h1, h2⟩ := ih (fun i hi => h i (by omega))
    obtain ⟨x, hx⟩ := h k (by omega)
    refine ⟨l ++ [x], by simp [h1], fun i y hy => ?_⟩
    by_cases hik : i < l.length
    · rw [List.getElem?_append_left hik] at hy
      exact h2 i y hy
    · rw [List.getElem?_append_right (by omega)] at hy
      have hi0 : i - l.length = 0 := by
        rcases Nat.eq_zero_or_pos (i - l.length) with h0 | h0
        · exact h0
        · rw [List.getElem?_eq_none (by simp; omega)] at hy; cases hy
      rw [hi0] at hy
      obtain rfl : x = y := by simpa using hy
      have : i = k := by omega
      subst this
      exact hx
theorem add_plain' (b o j : Nat) : ((⟨b, o, none⟩ : Addr).add j) = ⟨b, o + j, none⟩ := by unfold Addr.add; split <;> simp_all
theorem bounds_u64 {n : Int} (h : (Lit.int .u64 n).wf = true) : 0 ≤ n ∧ n ≤ 18446744073709551615 := by
  have h1 : IntKind.u64.min = 0 := rfl
  have h2 : IntKind.u64.max = 18446744073709551615 := rfl
  simp only [Lit.wf, Bool.and_eq_true, decide_eq_true_eq, h1, h2] at h
  exact h
theorem rdi_of {H : Type} {enc : TypeId × Value → H} {w : World} {fuel : Nat} {v : Value} {d : DataW H} {p : List MemPlace}
    (h : DataW.trod enc Try.prog w 0 (fun _ => true) true fuel 23 [v] = some (d, p)) : ∃ l, RdI w v l := by
  rcases open_ints Try.underlying23 Try.underlying3 (by kernel_rfl) h with ⟨hcs, _⟩ | ⟨a, len, cap, zs, hcs, _, hl, hm, hz, _, hcell, hwf⟩
  · simp at hcs
    subst hcs
    exact ⟨[], none, 0, rfl, by simp, by simp, by simp, .inl rfl⟩
  · simp at hcs
    subst hcs
    have hcap : cap ≤ 9223372036854775807 := by unfold maxLen at hm; omega
    have hz' : zs.length = cap := by simpa using hz
    have htl : (zs.take len).length = len := by rw [List.length_take]; omega
    refine ⟨zs.take len, some a, cap, by rw [htl], by omega, hcap, fun x hx => bounds_i64 (hwf x (List.mem_of_mem_take hx)), ?_⟩
    by_cases h0 : len = 0
    · left; subst h0; simp
    · have h00 := hcell 0 (by omega)
      obtain ⟨b, off, spot⟩ := a
      have hspot : spot = none := by simpa [Addr.add] using World.cell?_spot h00
      subst hspot
      refine .inr ⟨b, off, rfl, fun i x hx => ?_⟩
      have hi : i < len := by have := (List.getElem?_eq_some_iff.1 hx).1; omega
      rw [List.getElem?_take_of_lt hi] at hx
      have := hcell i (by omega)
      rw [add_plain', List.getD_eq_getElem?_getD, hx] at this
      exact this
end Go.Proofs.Ytmggnalobfihnaa.Gr
namespace Go.Proofs.Ytmggnalobfihnaa.Fr
open Go.Joins Go.ChangeShapes Go.WideShapes Go.ChangeAt Go.Deep Go.RowKit Gr
set_option linter.unusedVariables false

theorem rdc_of {H : Type} {enc : TypeId × Value → H} {w : World} {fuel : Nat} {v : Value} {d : DataW H} {p : List MemPlace}
    (h : DataW.trod enc Try.prog w 0 (fun _ => true) true fuel 32 [v] = some (d, p)) : ∃ l, Batch.Rd w v l := by
  rcases open_slice_fields Try.underlying32 Try.underlying78 (by kernel_rfl) (by kernel_rfl) h with ⟨hcs, _⟩ | ⟨a, len, cap, m, D, Plc, hcs, _, hl, hm, hmm, _, hi⟩
  · simp at hcs
    subst hcs
    exact ⟨[], none, 0, rfl, by simp, by simp, by simp, .inl rfl⟩
  · simp at hcs
    subst hcs
    have hsome : ∀ i : Nat, i < len → ∃ x : Batch.Ch, (w.cell? (a.add (i * 3)) = some (.int .i64 x.p) ∧ w.cell? (a.add (i * 3 + 1)) = some (.int .u64 x.t) ∧ w.cell? (a.add (i * 3 + 2)) = some (.int .i64 x.d)) ∧ x.Wf := by
      intro i hil
      obtain ⟨ys, k, _, _, hys, hf⟩ := hi i (by rw [hmm]; simp; omega)
      obtain ⟨v0, y0, hc0, _, ht0⟩ := hf 0 _ rfl
      obtain ⟨v1, y1, hc1, _, ht1⟩ := hf 1 _ rfl
      obtain ⟨v2, y2, hc2, _, ht2⟩ := hf 2 _ rfl
      obtain ⟨n0, e0, _, w0⟩ := DataW.trod_int Try.underlying3 ht0
      obtain ⟨n1, e1, _, w1⟩ := DataW.trod_int Try.underlying24 ht1
      obtain ⟨n2, e2, _, w2⟩ := DataW.trod_int Try.underlying2 ht2
      simp at e0 e1 e2
      subst e0 e1 e2
      have b0 := bounds_i64 w0
      have b1 := bounds_u64 w1
      have b2 := bounds_i64 w2
      exact ⟨⟨n0, n1, n2⟩, ⟨hc0, hc1, hc2⟩, b0.1, b0.2, b1.1, b1.2, b2.1, b2.2⟩
    have hcap : cap ≤ 9223372036854775807 := by unfold maxLen at hm; omega
    obtain ⟨l, hl1, hl2⟩ := list_of len _ hsome
    subst hl1
    refine ⟨l, some a, cap, rfl, hl, hcap, fun x hx => ?_, ?_⟩
    · obtain ⟨i, hi⟩ := List.mem_iff_getElem?.1 hx
      exact (hl2 i x hi).2
    · by_cases h0 : l = []
      · exact .inl h0
      · have hpos : 0 < l.length := List.length_pos_iff.2 h0
        have h00 := (hl2 0 l[0] (List.getElem?_eq_getElem hpos)).1.1
        obtain ⟨b, off, spot⟩ := a
        have hspot : spot = none := by simpa [Addr.add] using World.cell?_spot h00
        subst hspot
        refine .inr ⟨b, off, rfl, fun i x hx => ?_⟩
        obtain ⟨⟨q0, q1, q2⟩, _⟩ := hl2 i x hx
        rw [add_plain'] at q0 q1 q2
        exact ⟨q0, by rw [Nat.add_assoc]; exact q1, by rw [Nat.add_assoc]; exact q2⟩
theorem rdc_take {w : World} {ao : Option Addr} {n cap : Nat} {l : List Batch.Ch} (h : Batch.Rd w (.slice ao n cap) l) (k : Nat) (hk : k ≤ l.length) : Batch.Rd w (.slice ao k cap) (l.take k) := by
  obtain ⟨ao', cap2, hv, h1, h2, h3, h4⟩ := h
  simp only [Value.slice.injEq] at hv
  obtain ⟨rfl, rfl, rfl⟩ := hv
  refine ⟨ao, cap, by rw [List.length_take, Nat.min_eq_left hk], by rw [List.length_take]; omega, h2, fun x hx => h3 x (List.mem_of_mem_take hx), ?_⟩
  rcases h4 with h4 | ⟨b, off, ha, h4⟩
  · subst h4; simp
  · refine .inr ⟨b, off, ha, fun i x hx => ?_⟩
    have hi : i < k := by have := (List.getElem?_eq_some_iff.1 hx).1; rw [List.length_take] at this; omega
    rw [List.getElem?_take_of_lt hi] at hx
    exact h4 i x hx
/-- A slice of slices of Changes, as it reads. -/
def RdL (w : World) (v : Value) (L : List (List Batch.Ch)) : Prop := ∃ (ao : Option Addr) (cap : Nat), v = .slice ao L.length cap ∧ L.length ≤ 9223372036854775807 ∧ (L = [] ∨ ∃ b off, ao = some ⟨b, off, none⟩ ∧ ∀ (i : Nat) (l : List Batch.Ch), L[i]? = some l → ∃ u, w.cell? ⟨b, off + i, none⟩ = some u ∧ Batch.Rd w u l)
theorem RdL.below {w w' : World} {v : Value} {L : List (List Batch.Ch)} (h : RdL w v L) (hw : Below w.heap.size w w') : RdL w' v L := by
  obtain ⟨ao, cap, rfl, h1, h4⟩ := h
  refine ⟨ao, cap, rfl, h1, ?_⟩
  rcases h4 with h4 | ⟨b, off, ha, h4⟩
  · exact .inl h4
  · refine .inr ⟨b, off, ha, fun i l hx => ?_⟩
    obtain ⟨u, hu, hr⟩ := h4 i l hx
    exact ⟨u, (hw.cell (p := ⟨b, off + i, none⟩) (Lib.lt_of_cell hu)).trans hu, hr.below hw⟩
set_option maxRecDepth 100000 in
theorem rdl_of {H : Type} {enc : TypeId × Value → H} {w : World} {fuel : Nat} {v : Value} {d : DataW H} {p : List MemPlace}
    (h : DataW.trod enc Try.prog w 0 (fun _ => true) true fuel 39 [v] = some (d, p)) : ∃ L, RdL w v L := by
  have hC : Try.prog.cellsOf 32 = 1 := by kernel_rfl
  rcases open_slice Try.underlying39 h with ⟨hcs, _⟩ | ⟨a, len, cap, m, n, D, Plc, hcs, _, hl, hm, hmm, _, hi⟩
  · simp at hcs
    subst hcs
    exact ⟨[], none, 0, rfl, by simp, .inl rfl⟩
  · simp at hcs
    subst hcs
    rw [hC] at hi
    have hlen : len ≤ 9223372036854775807 := by unfold maxLen at hm; omega
    have hsome : ∀ i : Nat, i < len → ∃ l : List Batch.Ch, ∃ u, w.cell? (a.add i) = some u ∧ Batch.Rd w u l := by
      intro i hil
      obtain ⟨cs', hc, ht⟩ := hi i (by rw [hmm]; simp; omega)
      rw [Nat.mul_one] at hc
      obtain ⟨_, hcl, hat⟩ := World.cells?_some hc
      have h0 := hat 0 (by omega)
      obtain ⟨u, hu⟩ : ∃ u, cs' = [u] := by
        match cs', hcl with
        | [u], _ => exact ⟨u, rfl⟩
      subst hu
      obtain ⟨l, hr⟩ := rdc_of ht
      exact ⟨l, u, by simpa [Addr.add] using h0, hr⟩
    obtain ⟨L, hl1, hl2⟩ := Gr.list_of len _ hsome
    subst hl1
    refine ⟨L, some a, cap, rfl, hlen, ?_⟩
    by_cases h0 : L = []
    · exact .inl h0
    · have hpos : 0 < L.length := List.length_pos_iff.2 h0
      obtain ⟨u0, hu0, _⟩ := hl2 0 L[0] (List.getElem?_eq_getElem hpos)
      obtain ⟨b, off, spot⟩ := a
      have hspot : spot = none := by simpa [Addr.add] using World.cell?_spot hu0
      subst hspot
      refine .inr ⟨b, off, rfl, fun i l hx => ?_⟩
      obtain ⟨u, hu, hr⟩ := hl2 i l hx
      rw [Gr.add_plain'] at hu
      exact ⟨u, hu, hr⟩
end Go.Proofs.Ytmggnalobfihnaa.Fr
