/-
  THE LAWS' OWN To OF A GRAPH.
-/
import Derived.Test.YtjmkcgkkgamafaaGMem
import Derived.Test.YtjmkcgkkgamafaaAppendAny
import Derived.Deep.RegionHeld3
import Derived.Deep.RegionHeldLaw
import Derived.Deep.DeepCutAuto
import Derived.WalkKit
import Derived.WalkLawsBesides
import Derived.WalkSpells
import Derived.WalkSmall
import Derived.StillTactics
import Derived.StillTailTactics
import Derived.Deep.AppendLies
import Derived.Deep.LoopGhost
import Derived.OwnWalk
import Derived.IntWalk
import Derived.Outline
namespace Go.Proofs.Ytjmkcgkkgamafaa.Gr
open Go.RowKit Go.Deep
set_option linter.unusedVariables false
set_option linter.unusedSimpArgs false

section
variable {P : Program} {w : World}
theorem step_append_any {ops : Array Oper} {o : Oper} {a : Act} {K : Act → World → Prop} {Q : Exit → Act → World → Prop} {E : Prop} (hgd : o.guard = none) (s x : Operand) (t t2 : TypeId)
    (ho : o.op = .call { callee := .builtin .append, args := #[s, x], argTypes := #[t, t2] })
    (base : Nat) (e e2 : TypeId) (i : TypeInfo) (z : Value) (size bytes : Nat) (ht : P.underlying t = some (.slice e)) (ht2 : P.underlying t2 = some (.slice e2)) (hi : P.info? e = some i) (hz : i.zero = some z)
    (hsize : i.size = size) (hby : i.bytes = bytes) (hzs : z.cells.size = size) (hsz : 0 < size)
    (v : Value) (n : Nat) (xs : List Value) (hs : a.eval s = v) (hown : w.ownsRow base e size v n xs)
    (A : Option Addr) (m c : Nat) (news : List Value) (hx : a.eval x = .slice A m c) (hl : news.length = m * size) (hr : Batch.Src w A m news) (h1 : ∀ u ∈ news, u.oneCell' = true)
    (h63 : n + m ≤ maxLen) (hbytes : (n + m) * bytes ≤ 140737488355328) (hbase : base ≤ w.heap.size)
    (h : ∀ v' w', w'.ownsRow base e size v' (n + m) (xs ++ news) → w.grownBy w' v.ownBlock → (v'.ownBlock = v.ownBlock ∨ v'.ownBlock = some w.heap.size) → K (a.put o.dst v') w') :
    if Region.wanted o (yielded ops a.tmps) = true then Oper.wp P o a w K Q else E := by
  have hw : Region.wanted o (yielded ops a.tmps) = true := by simp [Region.wanted, hgd]
  rw [if_pos hw]
  exact Batch.wp_append_any w s x t t2 ho base e e2 i z size bytes ht ht2 hi hz hsize hby hzs hsz v n xs hs hown A m c news hx hl hr h1 h63 hbytes hbase h
end
def intsL (l : List Int) : List Value := l.map fun x => .int .i64 x
theorem intsL_one (l : List Int) : ∀ u ∈ intsL l, u.oneCell' = true := by
  intro u hu
  unfold intsL at hu
  obtain ⟨x, _, rfl⟩ := List.mem_map.1 hu
  rfl
theorem intsL_at {l : List Int} {i : Nat} {x : Int} (h : l[i]? = some x) : (intsL l)[i]? = some (.int .i64 x) := by unfold intsL; rw [List.getElem?_map, h]; rfl
/-- Numbers in memory of the call's own. -/
def OwnI (w : World) (base : Nat) (T : TypeId) (v : Value) (l : List Int) : Prop := w.ownsRow base T 1 v l.length (intsL l)
theorem OwnI.rd {w : World} {base : Nat} {T : TypeId} {v : Value} {l : List Int} (h : OwnI w base T v l) (hw : ∀ x ∈ l, -9223372036854775808 ≤ x ∧ x ≤ 9223372036854775807) : RdI w v l := by
  have h0 := h
  rcases h.2 with ⟨rfl, hn⟩ | ⟨g, cap, cur, rfl, hb, hg, hc, hm, _⟩
  · obtain rfl := List.length_eq_zero_iff.1 hn
    exact ⟨none, 0, rfl, by simp, by simp, by simp, .inl rfl⟩
  · refine ⟨some ⟨g, 0, none⟩, cap, rfl, hc, by unfold maxLen at hm; exact hm, hw, .inr ⟨g, 0, rfl, fun i x hx => ?_⟩⟩
    have := World.ownsRow.cells h0 (g := g) rfl i _ (intsL_at hx)
    rw [show ((⟨g, 0, none⟩ : Addr).add i) = ⟨g, 0 + i, none⟩ by unfold Addr.add; split <;> simp_all] at this
    exact this
theorem OwnI.form {w : World} {base : Nat} {T : TypeId} {v : Value} {l : List Int} (h : OwnI w base T v l) : ∃ ao cap, v = .slice ao l.length cap := by
  rcases h.2 with ⟨rfl, hn⟩ | ⟨g, cap, cur, rfl, _⟩
  · exact ⟨none, 0, by rw [hn]⟩
  · exact ⟨_, _, rfl⟩
theorem OwnI.below {w w' : World} {base : Nat} {T : TypeId} {v : Value} {l : List Int} (h : OwnI w base T v l) (hw : Below w.heap.size w w') : OwnI w' base T v l := by
  refine ⟨h.1, ?_⟩
  rcases h.2 with h2 | ⟨g, cap, cur, rfl, hb, hg, rest⟩
  · exact .inl h2
  · exact .inr ⟨g, cap, cur, rfl, hb, (hw.block g (Array.getElem?_eq_some_iff.1 hg).1).trans hg, rest⟩
theorem RdI.src {w : World} {ao : Option Addr} {n cap : Nat} {l : List Int} (h : RdI w (.slice ao n cap) l) : Batch.Src w ao l.length (intsL l) := by
  obtain ⟨ao', cap', hv, _, _, _, h4⟩ := h
  simp only [Value.slice.injEq] at hv
  obtain ⟨rfl, rfl, rfl⟩ := hv
  rcases h4 with rfl | ⟨b, off, rfl, h4⟩
  · cases ao with
    | none => exact .inl ⟨rfl, rfl, rfl⟩
    | some ad => exact .inr ⟨ad, rfl, fun j u hu => by simp [intsL] at hu⟩
  · refine .inr ⟨_, rfl, fun j u hu => ?_⟩
    rw [show ((⟨b, off, none⟩ : Addr).add j) = ⟨b, off + j, none⟩ by unfold Addr.add; split <;> simp_all]
    unfold intsL at hu
    rw [List.getElem?_map] at hu
    obtain ⟨x, hx, rfl⟩ := Option.map_eq_some_iff.1 hu
    exact h4 j x hx
theorem own01 (w : World) (T : TypeId) : (w.alloc (.cells #[] T)).ownsRow w.heap.size T 1 (.slice (some ⟨w.heap.size, 0, none⟩) 0 0) 0 [] :=
  ⟨rfl, .inr ⟨w.heap.size, 0, #[], rfl, Nat.le_refl _, heap_alloc_new w _, Nat.le_refl _, by decide, rfl, rfl⟩⟩
theorem own01' {W : World} {g base : Nat} {T : TypeId} (h : W.heap[g]? = some (.cells #[] T (0, 0))) (hb : base ≤ g) : W.ownsRow base T 1 (.slice (some ⟨g, 0, none⟩) 0 0) 0 [] :=
  ⟨rfl, .inr ⟨g, 0, #[], rfl, hb, h, Nat.le_refl _, by decide, rfl, rfl⟩⟩
theorem three_cells {w : World} {G : Nat} {x y z : Value} {T : TypeId} (h : w.heap[G]? = some (.cells #[x, y, z] T (0, 0))) : w.cell? ⟨G, 0, none⟩ = some x ∧ w.cell? ⟨G, 1, none⟩ = some y ∧ w.cell? ⟨G, 2, none⟩ = some z ∧ ∀ o, w.frozen? ⟨G, o, none⟩ = false := by
  refine ⟨?_, ?_, ?_, fun o => ?_⟩ <;> simp [World.cell?, World.frozen?, h]
theorem three_set {w : World} {G : Nat} {x y z x' y' z' : Value} {T : TypeId} (h : w.heap[G]? = some (.cells #[x, y, z] T (0, 0))) : (((w.setCell ⟨G, 0, none⟩ x').setCell ⟨G, 1, none⟩ y').setCell ⟨G, 2, none⟩ z').heap[G]? = some (.cells #[x', y', z'] T (0, 0)) := by
  have h0 := heap_setCell_same w G 0 _ T x' h
  have h1 := heap_setCell_same _ G 1 _ T y' h0
  have h2 := heap_setCell_same _ G 2 _ T z' h1
  simpa using h2
theorem infoInt : (Try.prog.info? 3).map (fun i => (i.zero, i.size, i.bytes)) = some (some (.int .i64 0), 1, 8) := by kernel_rfl
/-- A graph in memory. -/
structure GMemP (w : World) (ve vi : Value) (E : List Ed) (I : List Int) : Prop where
  ed : Rd w ve E
  inp : RdI w vi I
theorem GMemP.below {w w' : World} {ve vi : Value} {E : List Ed} {I : List Int} (h : GMemP w ve vi E I) (hb : Below w.heap.size w w') : GMemP w' ve vi E I := ⟨h.ed.below hb, h.inp.below hb⟩
theorem OwnI.grown {w w' : World} {base : Nat} {T : TypeId} {v : Value} {l : List Int} {row : Option Nat} (h : OwnI w base T v l) (hg : w.grownBy w' row) (hne : v.ownBlock = none ∨ v.ownBlock ≠ row) : OwnI w' base T v l := by
  refine ⟨h.1, ?_⟩
  rcases h.2 with h2 | ⟨g, cap, cur, rfl, hb, hk, rest⟩
  · exact .inl h2
  · refine .inr ⟨g, cap, cur, rfl, hb, (hg.block g (Array.getElem?_eq_some_iff.1 hk).1 ?_).trans hk, rest⟩
    rcases hne with h | h
    · simp [Value.ownBlock] at h
    · exact h
end Go.Proofs.Ytjmkcgkkgamafaa.Gr
