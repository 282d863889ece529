/-
  PACKAGE pool: got (of a Merge that isn't too great), do, by kind.
-/
import Derived.Test.YtkeldggdllaheaaPlMem
import Derived.Test.YtkeldggdllaheaaJoined4
import Derived.Deep.CutRange
import Derived.Deep.RegionHeldLaw
import Derived.BigQuiet
namespace Go.Proofs.Ytkeldggdllaheaa.Pl
open Go.RowKit Rw Pk Go.Maps Mm
set_option linter.unusedVariables false
section
variable {w w' W : World} {S : Pi} {A A' : Pa} {n a s X i : Nat} {w0 wr : World} {fs zs zs' : List Nat} {P : List Int} {D D' : List (Int × Int)} {B B' : Nat → List Batch.Ch} {T T' l : List Batch.Ch} {M M' : Mm.St} {ga gb gc k : Nat} {v : Value}
theorem plget_wf (hG : Mm.Good ga gb gc k M) (who x : Int) : ∀ y ∈ Mm.getV M who x, y.Wf := by
  unfold Mm.getV
  split
  · rw [List.getD_eq_getElem?_getD]
    intro y hy
    cases h : M.bs[x.toNat]? with
    | none => rw [h] at hy; simp at hy
    | some L => rw [h] at hy; exact (hG.bx L (List.mem_of_getElem? h)).2 y hy
  · simp
/-- Behind do. -/
def DoQ (n : Nat) (w0 wr : World) (fs zs : List Nat) (a s : Nat) (S : Pi) (A : Pa) (P : List Int) (D : List (Int × Int)) (B : Nat → List Batch.Ch) (T : List Batch.Ch) (M : Mm.St) (rd : Int) (Z : Nat) (e : Ending) (w' : World) : Prop :=
  e = .returned (.bool true) ∧ ∃ zs' bx tk, (∀ j ∈ zs, j ∈ zs') ∧ (∀ j ∈ zs', j ∈ zs ∨ Z ≤ j) ∧ (∀ g, Blk { A with bx := bx, tk := tk, rd := rd } g → Blk A g ∨ Z ≤ g) ∧ Pg n w0 wr fs zs' a s S { A with bx := bx, tk := tk, rd := rd } P D B T M w'
theorem w_id {x : Int} (h : I64 x) : IntKind.i64.wrap x = x := by unfold I64 at h; rw [IntKind.wrap_i64]; omega
theorem w64_id {x : Int} (h : I64 x) : wrap64 x = x := by unfold I64 at h; unfold wrap64; omega
theorem i64_nat {i : Nat} (h : i < 8) : I64 (i : Int) := ⟨by omega, by omega⟩
theorem own_open {w : World} {base : Nat} {t : TypeId} {v : Value} {l : List Batch.Ch} (h : Batch.Own w base t v l) : ∃ ao n c, v = .slice ao n c := by
  rcases h.form with ⟨_, h⟩ | ⟨g, cap, h, _⟩
  · exact ⟨_, _, _, h⟩
  · exact ⟨_, _, _, h⟩
theorem sl_open {w : World} {v : Value} {l : List Batch.Ch} (h : Batch.Sl w v l) : ∃ ao n c, v = .slice ao n c := by
  obtain ⟨ao, cap, h, _⟩ := h
  exact ⟨_, _, _, h⟩
set_option maxRecDepth 1000000 in
set_option maxHeartbeats 16000000 in
theorem plgot_dr (h : Pg n w0 wr fs zs a s S A P D B T M w) (hdr : A.dr = true) (hv : Batch.Sl w v l) (hsT : Batch.Sorted T) (hsl : Batch.Sorted l) (hl : T.length + l.length ≤ 100000) (x : Int) :
    Calls Try.prog 55 #[.pointer (some ⟨a, 0, none⟩), .int .i64 x, v] w fun e w' => e = .returned (.tuple #[]) ∧ ∃ zs' tk, (∀ j ∈ zs, j ∈ zs') ∧ (∀ j ∈ zs', j ∈ zs ∨ w.heap.size ≤ j) ∧ (∀ g, tk.ownBlock = some g → w.heap.size ≤ g) ∧ Pg n w0 wr fs zs' a s S { A with tk := tk } P D B (Batch.sumsR (T ++ l)) M w' := by
  have HM := Lib.hid (Batch.merge_any h.tk hv hsT hsl hl)
  have HR := Lib.hid h
  have HW := Lib.hid (Batch.sumsR_wf (Batch.both_wf h.tk.wf hv.wf))
  have hal := h.pa.lt
  obtain ⟨tq, tn, tc, htk⟩ := sl_open h.tk
  obtain ⟨c0, c1, c2, c3, c12, c13, c14, c15, c16, cf⟩ := h.pa.cells
  rw [hdr] at c2
  rw [htk] at c13 HM
  clear h hdr hv hsT hsl hl htk
  go_enter Try.func55, Try.ntmps55
  go_wp2_with fail
  go_at_call 69
  refine HM.out.mono ?_
  rintro e w1 ⟨v', rfl, ho, hb⟩
  obtain ⟨vo, vn, vc, rfl⟩ := own_open ho
  have h1 := HR.out.all hb
  have hbl : ∀ g, (Value.slice vo vn vc).ownBlock = some g → g ∈ List.range' w.heap.size (w1.heap.size - w.heap.size) ++ zs ∧ g ≠ a := fun g hg => ⟨blk_mem (World.ownsRow.lt ho g hg).1 (World.ownsRow.lt ho g hg).2, fun e => by have := (World.ownsRow.lt ho g hg).1; omega⟩
  have HN := Lib.hid (fun g (hg : (Value.slice vo vn vc).ownBlock = some g) => (World.ownsRow.lt ho g hg).1)
  have HS := Lib.hid (h1.setT (ho.sl HW.out) hbl)
  obtain ⟨d0, d1, d2, d3, d12, d13, d14, d15, d16, df⟩ := h1.pa.cells
  clear h1 hbl ho hb c0 c1 c2 c3 c12 c13 c14 c15 c16 cf
  go_wp2_with fail
  ((try simp only [Exit.inBlock, Exit.then]); refine bodyPost_ret (results_none rfl _ _ _) rfl ?_)
  exact ⟨rfl, _, _, blk_old, blk_inv, HN.out, HS.out⟩
set_option maxRecDepth 1000000 in
set_option maxHeartbeats 16000000 in
theorem plgot_put (h : Pg n w0 wr fs zs a s S A P D B T M w) (hdr : A.dr = false) (hi : i < 8) (hv : Batch.Sl w v l) (hsT : Batch.Sorted (B i)) (hsl : Batch.Sorted l) (hl : l.length + (B i).length ≤ 100000) (hok : Batch.sumsE (l ++ B i) = 0) :
    Calls Try.prog 55 #[.pointer (some ⟨a, 0, none⟩), .int .i64 (i : Int), v] w fun e w' => e = .returned (.tuple #[]) ∧ ∃ zs' bv, (∀ j ∈ zs, j ∈ zs') ∧ (∀ j ∈ zs', j ∈ zs ∨ w.heap.size ≤ j) ∧ (∀ g, bv.ownBlock = some g → w.heap.size ≤ g) ∧ Pg n w0 wr fs zs' a s S (A.box i bv) P D (boxB B i (Batch.sumsR (l ++ B i))) T M w' := by
  have HM := Lib.hid (Batch.merge_any hv (h.bx i hi) hsl hsT hl)
  rw [hok] at HM
  have HR := Lib.hid h
  have HW := Lib.hid (Batch.sumsR_wf (Batch.both_wf hv.wf (h.bx i hi).wf))
  have hal := h.pa.lt
  obtain ⟨tq, tn, tc, htk⟩ := sl_open (h.bx i hi)
  have hbx := h.pa.boxAt hi
  obtain ⟨c0, c1, c2, c3, c12, c13, c14, c15, c16, cf⟩ := h.pa.cells
  rw [hdr] at c2
  rw [htk] at hbx HM
  have hi0 : (0 : Int) ≤ (i : Int) := Int.natCast_nonneg _
  have hi1 : (i : Int) < 8 := by omega
  have hw2 : wrap64 (i : Int) = (i : Int) := w64_id (i64_nat hi)
  have hw3 : IntKind.i64.wrap (i : Int) = (i : Int) := w_id (i64_nat hi)
  have HI := Lib.hid hi
  clear h hdr hv hsT hsl hl htk hok hi
  go_enter Try.func55, Try.ntmps55
  go_wp2_with fail
  go_at_call 69
  refine HM.out.mono ?_
  rintro e w1 ⟨v', rfl, ho, hb⟩
  obtain ⟨vo, vn, vc, rfl⟩ := own_open ho
  have h1 := HR.out.all hb
  have hbl : ∀ g, (Value.slice vo vn vc).ownBlock = some g → g ∈ List.range' w.heap.size (w1.heap.size - w.heap.size) ++ zs ∧ g ≠ a := fun g hg => ⟨blk_mem (World.ownsRow.lt ho g hg).1 (World.ownsRow.lt ho g hg).2, fun e => by have := (World.ownsRow.lt ho g hg).1; omega⟩
  have HN := Lib.hid (fun g (hg : (Value.slice vo vn vc).ownBlock = some g) => (World.ownsRow.lt ho g hg).1)
  have HS := Lib.hid (h1.setB HI.out (ho.sl HW.out) hbl)
  obtain ⟨d0, d1, d2, d3, d12, d13, d14, d15, d16, df⟩ := h1.pa.cells
  have hbx := h1.pa.boxAt HI.out
  clear h1 hbl ho hb c0 c1 c2 c3 c12 c13 c14 c15 c16 cf
  go_wp2_with fail
  first | go_ret | go_end0
  exact ⟨rfl, _, _, blk_old, blk_inv, HN.out, HS.out⟩
end
end Go.Proofs.Ytkeldggdllaheaa.Pl
