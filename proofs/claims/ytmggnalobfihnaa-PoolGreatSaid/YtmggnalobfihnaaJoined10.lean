/-
  PACKAGE batch: Merge and Pack.
  PACKAGE pool: got (of a Merge that isn't too great), do, by kind.
-/
import Derived.Test.YtmggnalobfihnaaBatchWeave
import Derived.Test.YtmggnalobfihnaaPlMem
import Derived.Deep.CutRange
import Derived.Deep.RegionHeldLaw
import Derived.BigQuiet
namespace Go.Proofs.Ytmggnalobfihnaa.Batch
open Go.RowKit
set_option linter.unusedVariables false

theorem perm_wf {l l' : List Ch} (h : l.Perm l') (hw : ∀ x ∈ l', x.Wf) : ∀ x ∈ l, x.Wf := fun x hx => hw x (h.mem_iff.1 hx)
theorem sums_same {l l' : List Ch} (hl : ∀ x ∈ l, x.Wf) (hw : ∀ x ∈ l', x.Wf) (h : ∀ p t, wr (tot l p t) = wr (tot l' p t)) : sumsE l = sumsE l' ∧ sumsR l = sumsR l' := by
  have e1 : overK l = overK l' := overK_same hl hw h
  have e2 : sumL l = sumL l' := sumL_same hl hw h
  exact ⟨by unfold sumsE; rw [e1], by unfold sumsR; rw [e1, e2]⟩
theorem sums_perm {l l' : List Ch} (h : l.Perm l') (hw : ∀ x ∈ l', x.Wf) : sumsE l = sumsE l' ∧ sumsR l = sumsR l' :=
  sums_same (perm_wf h hw) hw fun p t => by rw [tot_perm h]
theorem sumsR_wf {l : List Ch} (h : ∀ x ∈ l, x.Wf) : ∀ x ∈ sumsR l, x.Wf := by
  unfold sumsR
  split
  · simp
  · exact sumL_wf h
theorem sumsR_length (l : List Ch) : (sumsR l).length ≤ l.length := by
  unfold sumsR
  split
  · simp
  · exact sumL_length l
theorem both_wf {A B : List Ch} (ha : ∀ x ∈ A, x.Wf) (hb : ∀ x ∈ B, x.Wf) : ∀ x ∈ A ++ B, x.Wf := fun x hx => (List.mem_append.1 hx).elim (ha x) (hb x)

set_option maxRecDepth 1000000 in
set_option maxHeartbeats 4000000 in
theorem merge_any {w : World} {va vb : Value} {A B : List Ch} (ha : Sl w va A) (hb : Sl w vb B) (hsa : Sorted A) (hsb : Sorted B) (hl : A.length + B.length ≤ 100000) :
    Calls Try.prog 65 #[va, vb] w fun e w' => ∃ v' : Value, (e = .returned (.tuple #[v', .int .i64 (sumsE (A ++ B))])) ∧ Own w' w.heap.size 58 v' (sumsR (A ++ B)) ∧ Below w.heap.size w w' := by
  have HWV := Lib.hid (weave_any ha hb hsa hsb hl)
  have HAB := Lib.hid (both_wf ha.wf hb.wf)
  have HL := Lib.hid hl
  obtain ⟨aa, ca, rfl, _⟩ := ha
  obtain ⟨ab, cb, rfl, _⟩ := hb
  clear hsa hsb hl
  go_enter Try.func65, Try.ntmps65
  go_wp2_with fail
  go_at_call 69
  refine HWV.out.mono ?_
  rintro e w1 ⟨v1, l, rfl, hperm, hsl, hown1, hb1⟩
  have hlen : l.length ≤ 100000 := by have := hperm.length_eq; have := HL.out; simp only [List.length_append] at *; omega
  have hrd := (hown1.rd (perm_wf hperm HAB.out))
  have HS := Lib.hid (sums_any hrd hsl hlen)
  have HP := Lib.hid (sums_perm hperm HAB.out)
  have HB1 := Lib.hid hb1
  obtain ⟨ao, cap, rfl, _⟩ := hrd
  clear hperm hsl hown1 hb1 hlen
  go_wp2_with fail
  go_at_call 68
  refine HS.out.mono ?_
  rintro e w2 ⟨v2, rfl, hown2, hb2⟩
  have HO2 := Lib.hid (hown2.mono HB1.out.size)
  have HB2 := Lib.hid (HB1.out.trans (hb2.mono HB1.out.size))
  clear hown2 hb2
  go_wp2_with fail
  go_ret2
  refine ⟨_, ret_two HP.out.1, ?_, HB2.out⟩
  rw [← HP.out.2]
  exact HO2.out

def firstWrong : List Ch → Int
  | [] => 0
  | x :: r => if wrongN x ≠ 0 then wrongN x else firstWrong r
def packE (l : List Ch) : Int := if 16 < l.length then 4 else if firstWrong l ≠ 0 then firstWrong l else sumsE l
def packR (l : List Ch) : List Ch := if 16 < l.length ∨ firstWrong l ≠ 0 then [] else sumsR l
theorem firstWrong_none {l : List Ch} (h : ∀ x ∈ l, wrongN x = 0) : firstWrong l = 0 := by
  induction l with
  | nil => rfl
  | cons x r ih => unfold firstWrong; rw [if_neg (fun hn => hn (h x (by simp)))]; exact ih (fun y hy => h y (by simp [hy]))
theorem firstWrong_at {l : List Ch} {i : Nat} {x : Ch} (hx : l[i]? = some x) (h : ∀ y ∈ l.take i, wrongN y = 0) (hn : wrongN x ≠ 0) : firstWrong l = wrongN x := by
  induction l generalizing i with
  | nil => simp at hx
  | cons y r ih =>
    cases i with
    | zero => simp at hx; subst hx; unfold firstWrong; rw [if_pos hn]
    | succ k =>
      unfold firstWrong
      rw [if_neg (fun hn => hn (h y (by simp)))]
      exact ih (by simpa using hx) (fun z hz => h z (by simp [hz]))
theorem pack_many {l : List Ch} (h : 16 < l.length) : packE l = 4 ∧ packR l = [] := ⟨if_pos h, if_pos (.inl h)⟩
theorem pack_wrong {l : List Ch} (h : ¬ 16 < l.length) (hn : firstWrong l ≠ 0) : packE l = firstWrong l ∧ packR l = [] := ⟨by unfold packE; rw [if_neg h, if_pos hn], if_pos (.inr hn)⟩
theorem pack_ok {l : List Ch} (h : ¬ 16 < l.length) (hn : firstWrong l = 0) : packE l = sumsE l ∧ packR l = sumsR l := ⟨by unfold packE; rw [if_neg h, if_neg (fun h => h hn)], if_neg (fun h' => h'.elim h (fun h => h hn))⟩

end Go.Proofs.Ytmggnalobfihnaa.Batch
namespace Go.Proofs.Ytmggnalobfihnaa.Pl
open Go.RowKit Rw Pk Go.Maps Mm
set_option linter.unusedVariables false
section
variable {w w' W : World} {S : Pi} {A A' : Pa} {n a s X i : Nat} {w0 wr : World} {fs zs zs' : List Nat} {P : List Int} {D D' : List (Int × Int)} {B B' : Nat → List Batch.Ch} {T T' l : List Batch.Ch} {M M' : Mm.St} {ga gb gc k : Nat} {v : Value}
theorem plget_wf (hG : Mm.Good ga gb gc k M) (who x : Int) : ∀ y ∈ Mm.getV M who x, y.Wf := by
  unfold Mm.getV
  split
  · rw [List.getD_eq_getElem?_getD]
    intro y hy
    cases h : M.bs[x.toNat]? with
    | none => rw [h] at hy; simp at hy
    | some L => rw [h] at hy; exact (hG.bx L (List.mem_of_getElem? h)).2 y hy
  · simp
/-- Behind do. -/
def DoQ (n : Nat) (w0 wr : World) (fs zs : List Nat) (a s : Nat) (S : Pi) (A : Pa) (P : List Int) (D : List (Int × Int)) (B : Nat → List Batch.Ch) (T : List Batch.Ch) (M : Mm.St) (rd : Int) (Z : Nat) (e : Ending) (w' : World) : Prop :=
  e = .returned (.bool true) ∧ ∃ zs' bx tk, (∀ j ∈ zs, j ∈ zs') ∧ (∀ j ∈ zs', j ∈ zs ∨ Z ≤ j) ∧ (∀ g, Blk { A with bx := bx, tk := tk, rd := rd } g → Blk A g ∨ Z ≤ g) ∧ Pg n w0 wr fs zs' a s S { A with bx := bx, tk := tk, rd := rd } P D B T M w'
theorem w_id {x : Int} (h : I64 x) : IntKind.i64.wrap x = x := by unfold I64 at h; rw [IntKind.wrap_i64]; omega
theorem w64_id {x : Int} (h : I64 x) : wrap64 x = x := by unfold I64 at h; unfold wrap64; omega
theorem i64_nat {i : Nat} (h : i < 8) : I64 (i : Int) := ⟨by omega, by omega⟩
theorem own_open {w : World} {base : Nat} {t : TypeId} {v : Value} {l : List Batch.Ch} (h : Batch.Own w base t v l) : ∃ ao n c, v = .slice ao n c := by
  rcases h.form with ⟨_, h⟩ | ⟨g, cap, h, _⟩
  · exact ⟨_, _, _, h⟩
  · exact ⟨_, _, _, h⟩
theorem sl_open {w : World} {v : Value} {l : List Batch.Ch} (h : Batch.Sl w v l) : ∃ ao n c, v = .slice ao n c := by
  obtain ⟨ao, cap, h, _⟩ := h
  exact ⟨_, _, _, h⟩
set_option maxRecDepth 1000000 in
set_option maxHeartbeats 16000000 in
theorem plgot_dr (h : Pg n w0 wr fs zs a s S A P D B T M w) (hdr : A.dr = true) (hv : Batch.Sl w v l) (hsT : Batch.Sorted T) (hsl : Batch.Sorted l) (hl : T.length + l.length ≤ 100000) (x : Int) :
    Calls Try.prog 49 #[.pointer (some ⟨a, 0, none⟩), .int .i64 x, v] w fun e w' => e = .returned (.tuple #[]) ∧ ∃ zs' tk, (∀ j ∈ zs, j ∈ zs') ∧ (∀ j ∈ zs', j ∈ zs ∨ w.heap.size ≤ j) ∧ (∀ g, tk.ownBlock = some g → w.heap.size ≤ g) ∧ Pg n w0 wr fs zs' a s S { A with tk := tk } P D B (Batch.sumsR (T ++ l)) M w' := by
  have HM := Lib.hid (Batch.merge_any h.tk hv hsT hsl hl)
  have HR := Lib.hid h
  have HW := Lib.hid (Batch.sumsR_wf (Batch.both_wf h.tk.wf hv.wf))
  have hal := h.pa.lt
  obtain ⟨tq, tn, tc, htk⟩ := sl_open h.tk
  obtain ⟨c0, c1, c2, c3, c12, c13, c14, c15, c16, cf⟩ := h.pa.cells
  rw [hdr] at c2
  rw [htk] at c13 HM
  clear h hdr hv hsT hsl hl htk
  go_enter Try.func49, Try.ntmps49
  go_wp2_with fail
  go_at_call 65
  refine HM.out.mono ?_
  rintro e w1 ⟨v', rfl, ho, hb⟩
  obtain ⟨vo, vn, vc, rfl⟩ := own_open ho
  have h1 := HR.out.all hb
  have hbl : ∀ g, (Value.slice vo vn vc).ownBlock = some g → g ∈ List.range' w.heap.size (w1.heap.size - w.heap.size) ++ zs ∧ g ≠ a := fun g hg => ⟨blk_mem (World.ownsRow.lt ho g hg).1 (World.ownsRow.lt ho g hg).2, fun e => by have := (World.ownsRow.lt ho g hg).1; omega⟩
  have HN := Lib.hid (fun g (hg : (Value.slice vo vn vc).ownBlock = some g) => (World.ownsRow.lt ho g hg).1)
  have HS := Lib.hid (h1.setT (ho.sl HW.out) hbl)
  obtain ⟨d0, d1, d2, d3, d12, d13, d14, d15, d16, df⟩ := h1.pa.cells
  clear h1 hbl ho hb c0 c1 c2 c3 c12 c13 c14 c15 c16 cf
  go_wp2_with fail
  ((try simp only [Exit.inBlock, Exit.then]); refine bodyPost_ret (results_none rfl _ _ _) rfl ?_)
  exact ⟨rfl, _, _, blk_old, blk_inv, HN.out, HS.out⟩
set_option maxRecDepth 1000000 in
set_option maxHeartbeats 16000000 in
theorem plgot_put (h : Pg n w0 wr fs zs a s S A P D B T M w) (hdr : A.dr = false) (hi : i < 8) (hv : Batch.Sl w v l) (hsT : Batch.Sorted (B i)) (hsl : Batch.Sorted l) (hl : l.length + (B i).length ≤ 100000) (hok : Batch.sumsE (l ++ B i) = 0) :
    Calls Try.prog 49 #[.pointer (some ⟨a, 0, none⟩), .int .i64 (i : Int), v] w fun e w' => e = .returned (.tuple #[]) ∧ ∃ zs' bv, (∀ j ∈ zs, j ∈ zs') ∧ (∀ j ∈ zs', j ∈ zs ∨ w.heap.size ≤ j) ∧ (∀ g, bv.ownBlock = some g → w.heap.size ≤ g) ∧ Pg n w0 wr fs zs' a s S (A.box i bv) P D (boxB B i (Batch.sumsR (l ++ B i))) T M w' := by
  have HM := Lib.hid (Batch.merge_any hv (h.bx i hi) hsl hsT hl)
  rw [hok] at HM
  have HR := Lib.hid h
  have HW := Lib.hid (Batch.sumsR_wf (Batch.both_wf hv.wf (h.bx i hi).wf))
  have hal := h.pa.lt
  obtain ⟨tq, tn, tc, htk⟩ := sl_open (h.bx i hi)
  have hbx := h.pa.boxAt hi
  obtain ⟨c0, c1, c2, c3, c12, c13, c14, c15, c16, cf⟩ := h.pa.cells
  rw [hdr] at c2
  rw [htk] at hbx HM
  have hi0 : (0 : Int) ≤ (i : Int) := Int.natCast_nonneg _
  have hi1 : (i : Int) < 8 := by omega
  have hw2 : wrap64 (i : Int) = (i : Int) := w64_id (i64_nat hi)
  have hw3 : IntKind.i64.wrap (i : Int) = (i : Int) := w_id (i64_nat hi)
  have HI := Lib.hid hi
  clear h hdr hv hsT hsl hl htk hok hi
  go_enter Try.func49, Try.ntmps49
  go_wp2_with fail
  go_at_call 65
  refine HM.out.mono ?_
  rintro e w1 ⟨v', rfl, ho, hb⟩
  obtain ⟨vo, vn, vc, rfl⟩ := own_open ho
  have h1 := HR.out.all hb
  have hbl : ∀ g, (Value.slice vo vn vc).ownBlock = some g → g ∈ List.range' w.heap.size (w1.heap.size - w.heap.size) ++ zs ∧ g ≠ a := fun g hg => ⟨blk_mem (World.ownsRow.lt ho g hg).1 (World.ownsRow.lt ho g hg).2, fun e => by have := (World.ownsRow.lt ho g hg).1; omega⟩
  have HN := Lib.hid (fun g (hg : (Value.slice vo vn vc).ownBlock = some g) => (World.ownsRow.lt ho g hg).1)
  have HS := Lib.hid (h1.setB HI.out (ho.sl HW.out) hbl)
  obtain ⟨d0, d1, d2, d3, d12, d13, d14, d15, d16, df⟩ := h1.pa.cells
  have hbx := h1.pa.boxAt HI.out
  clear h1 hbl ho hb c0 c1 c2 c3 c12 c13 c14 c15 c16 cf
  go_wp2_with fail
  first | go_ret | go_end0
  exact ⟨rfl, _, _, blk_old, blk_inv, HN.out, HS.out⟩
end
end Go.Proofs.Ytmggnalobfihnaa.Pl
