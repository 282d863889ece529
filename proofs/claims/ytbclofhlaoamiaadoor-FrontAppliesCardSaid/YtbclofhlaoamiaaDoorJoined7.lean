/-
  FOR marchlandlaw06.FrontApplies: what an Apply leaves as it was; the document's steps.
  A START THAT MEETS THE CONDITIONS OF THE ROWS OF THIS SEAT: the heap that the door's own run leaves.
-/
import Derived.Test.YtbclofhlaoamiaaDoorJoined6
import Derived.Test.YtbclofhlaoamiaaDoorRows
import Derived.WalkKit
import Derived.ProofKit
import Derived.OpenShut
import Derived.LaidMore
import Derived.Stop.Joined
namespace Go.Proofs.YtbclofhlaoamiaaDoor.Fr
open Go.RowKit Go.Deep Gr
set_option linter.unusedVariables false

/-- All but cell 1 of block b, and new memory, is as it was. -/
def Off (b : Nat) (w w' : World) : Prop := ∃ (w1 : World) (u : Value), Below w.heap.size w w1 ∧ (w' = w1 ∨ w' = w1.setCell ⟨b, 1, none⟩ u)
theorem Off.below {b B : Nat} {w0 w w' : World} (h : Off b w w') (hB : Below B w0 w) (hb : B ≤ b) (hs : B ≤ w.heap.size) : Below B w0 w' := by
  obtain ⟨w1, u, h1, rfl | rfl⟩ := h
  · exact hB.trans (h1.mono hs)
  · exact (hB.trans (h1.mono hs)).setCell hb u
theorem Off.blk {b k : Nat} {w w' : World} {o : Obj} (h : Off b w w') (hx : w.heap[k]? = some o) (hk : k ≠ b) : w'.heap[k]? = some o := by
  have hl := (Array.getElem?_eq_some_iff.1 hx).1
  obtain ⟨w1, u, h1, rfl | rfl⟩ := h
  · exact (h1.block k hl).trans hx
  · exact (Below.heap_setCell w1 _ u k hk).trans ((h1.block k hl).trans hx)
theorem Off.mat {b base n : Nat} {w w' : World} {v : Value} {M : Nat → Nat → Int} (h : Off b w w') (hm : Mat w base v n M) (hb : b < base) : Mat w' base v n M := by
  obtain ⟨w1, u, h1, rfl | rfl⟩ := h
  · exact hm.below h1
  · obtain ⟨g, r, rfl, hm2⟩ := hm.below h1
    exact ⟨g, r, rfl, hm2.top.setOther (by have := hm2.lo; show g ≠ b; omega) _, fun i hi => (hm2.row i hi).setOther (by have := hm2.los i hi; show r i ≠ b; omega) _, hm2.inj, hm2.far, hm2.lo, hm2.los⟩
theorem Off.own {b base : Nat} {T : TypeId} {w w' : World} {v : Value} {l : List Batch.Ch} (h : Off b w w') (ho : Batch.Own w base T v l) (hb : b < base) : Batch.Own w' base T v l := by
  obtain ⟨w1, u, h1, rfl | rfl⟩ := h
  · exact ho.below h1
  · have h2 := ho.below h1
    exact ownsRow_setCell_other h2 (fun e => by have := (World.ownsRow.lt h2 _ e).1; simp at this; omega) u
/-- What is there then. -/
noncomputable def stepL (n : Nat) (B C : List Batch.Ch) : List Batch.Ch := if applyF n B C = 0 then Batch.applyR B C else B
theorem applyF_zero {n : Nat} {B C : List Batch.Ch} (h : applyF n B C = 0) : Batch.RightP C ∧ (∀ x ∈ C, x.p < (n : Int)) ∧ Batch.applyE B C = 0 := by
  by_cases hr : Batch.rightB C = true
  · by_cases hp : ∀ x ∈ C, x.p < (n : Int)
    · rw [applyF_ok hr hp] at h
      exact ⟨(Batch.rightB_iff C).1 hr, hp, h⟩
    · exfalso
      apply hp
      intro x hx
      by_cases hq : x.p < (n : Int)
      · exact hq
      · rw [applyF_port hr hx (by omega)] at h
        exact absurd h (by decide)
  · rw [applyF_wrong (by simpa using hr)] at h
    exact absurd h (by decide)
theorem stepL_bag {n : Nat} {B C : List Batch.Ch} (hB : Batch.BagP B) (hw : ∀ x ∈ B, x.Wf) (hc : ∀ x ∈ C, x.Wf) : Batch.BagP (stepL n B C) ∧ (∀ x ∈ stepL n B C, x.Wf) ∧ (stepL n B C).length ≤ B.length + C.length := by
  unfold stepL
  by_cases h : applyF n B C = 0
  · rw [if_pos h]
    obtain ⟨h1, _, h2⟩ := applyF_zero h
    exact ⟨Batch.applyR_bag hB h1 hw hc h2, Batch.applyR_wf hw hc, Batch.applyR_length B C⟩
  · rw [if_neg h]
    exact ⟨hB, hw, by omega⟩
theorem Rch.stored' {w w1 : World} {base b n : Nat} {M : Nat → Nat → Int} {vb u : Value} {B L : List Batch.Ch} (h : Rch w base b n M vb B) (hb : Below w.heap.size w w1) (ho : Batch.Own w1 w.heap.size 68 u L) (hw : ∀ x ∈ L, x.Wf) :
    Rch (w1.setCell ⟨b, 1, none⟩ u) base b n M u L := by
  have hbw : b < w.heap.size := by obtain ⟨⟨g, r, hx, _⟩, _, _⟩ := h; exact (Array.getElem?_eq_some_iff.1 hx).1
  have hbl : base ≤ w.heap.size := Nat.le_trans h.lo (Nat.le_of_lt hbw)
  obtain ⟨⟨g, r, hx, hm, hg, hr⟩, hl, hs⟩ := h.below hb
  refine ⟨⟨g, r, ?_, ?_, hg, hr⟩, hl, ?_⟩
  · have := heap_setCell_same w1 b 1 _ _ u hx
    simpa using this
  · exact ⟨hm.top.setOther (by show g ≠ b; omega) _, fun i hi => (hm.row i hi).setOther (by have := hr i hi; show r i ≠ b; omega) _, hm.inj, hm.far, hm.lo, hm.los⟩
  · have h2 : Batch.Own (w1.setCell ⟨b, 1, none⟩ u) w.heap.size 68 u L := ownsRow_setCell_other ho (fun e => by have := (World.ownsRow.lt ho _ e).1; simp at this; omega) u
    exact h2.sl hw
theorem rstep {w w1 w' : World} {base b n : Nat} {M : Nat → Nat → Int} {vb u : Value} {B C : List Batch.Ch} (hr : Rch w base b n M vb B) (hw : ∀ x ∈ B, x.Wf) (hc : ∀ x ∈ C, x.Wf) (h1 : Below w.heap.size w w1)
    (h : (applyF n B C ≠ 0 ∧ w' = w1) ∨ (applyF n B C = 0 ∧ Batch.Own w1 w.heap.size 68 u (Batch.applyR B C) ∧ w' = w1.setCell ⟨b, 1, none⟩ u)) : (∃ vb', Rch w' base b n M vb' (stepL n B C)) ∧ Off b w w' := by
  rcases h with ⟨h0, rfl⟩ | ⟨h0, ho, rfl⟩
  · refine ⟨⟨vb, ?_⟩, ⟨w', u, h1, .inl rfl⟩⟩
    unfold stepL
    rw [if_neg h0]
    exact hr.below h1
  · refine ⟨⟨u, ?_⟩, ⟨w1, u, h1, .inr rfl⟩⟩
    unfold stepL
    rw [if_pos h0]
    exact (hr.stored' h1 ho (Batch.applyR_wf hw hc))
end Go.Proofs.YtbclofhlaoamiaaDoor.Fr
namespace Go.Proofs.YtbclofhlaoamiaaDoor.Door
open Go.ChangeShapes Go.WideShapes Go.ChangeAt Go.RowKit

theorem own : ownKnob Tryd.prog.godebug = none := by kernel_rfl
/-- The start. -/
noncomputable def W0 (os : Os) : World := World.doorLaid Tryd.prog 100 os
theorem shaped (os : Os) (args : Array Value) : ((W0 os).forCall (fun _ _ => 0) ⟨#[], args, []⟩).Shaped Tryd.prog :=
  World.shaped_of_RefB (by kernel_rfl) (by kernel_rfl)
end Go.Proofs.YtbclofhlaoamiaaDoor.Door
