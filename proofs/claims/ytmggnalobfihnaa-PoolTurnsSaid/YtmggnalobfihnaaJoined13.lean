/-
  PACKAGE pool: got (of a Merge that isn't too great), do, by kind.
  PACKAGE pool: what a Put and a Drain have to do.
-/
import Derived.Test.YtmggnalobfihnaaPlMem
import Derived.Test.YtmggnalobfihnaaJoined4
import Derived.Deep.CutRange
import Derived.Deep.RegionHeldLaw
import Derived.BigQuiet
import Derived.Test.YtmggnalobfihnaaPlEach
import Derived.Deep.AppendLies
namespace Go.Proofs.Ytmggnalobfihnaa.Pl
open Go.RowKit Rw Pk Go.Maps Mm
set_option linter.unusedVariables false
section
variable {w w' W : World} {S : Pi} {A A' : Pa} {n a s X i : Nat} {w0 wr : World} {fs zs zs' : List Nat} {P : List Int} {D D' : List (Int × Int)} {B B' : Nat → List Batch.Ch} {T T' l : List Batch.Ch} {M M' : Mm.St} {ga gb gc k : Nat} {v : Value}
theorem plget_wf (hG : Mm.Good ga gb gc k M) (who x : Int) : ∀ y ∈ Mm.getV M who x, y.Wf := by
  unfold Mm.getV
  split
  · rw [List.getD_eq_getElem?_getD]
    intro y hy
    cases h : M.bs[x.toNat]? with
    | none => rw [h] at hy; simp at hy
    | some L => rw [h] at hy; exact (hG.bx L (List.mem_of_getElem? h)).2 y hy
  · simp
/-- Behind do. -/
def DoQ (n : Nat) (w0 wr : World) (fs zs : List Nat) (a s : Nat) (S : Pi) (A : Pa) (P : List Int) (D : List (Int × Int)) (B : Nat → List Batch.Ch) (T : List Batch.Ch) (M : Mm.St) (rd : Int) (Z : Nat) (e : Ending) (w' : World) : Prop :=
  e = .returned (.bool true) ∧ ∃ zs' bx tk, (∀ j ∈ zs, j ∈ zs') ∧ (∀ j ∈ zs', j ∈ zs ∨ Z ≤ j) ∧ (∀ g, Blk { A with bx := bx, tk := tk, rd := rd } g → Blk A g ∨ Z ≤ g) ∧ Pg n w0 wr fs zs' a s S { A with bx := bx, tk := tk, rd := rd } P D B T M w'
theorem w_id {x : Int} (h : I64 x) : IntKind.i64.wrap x = x := by unfold I64 at h; rw [IntKind.wrap_i64]; omega
theorem w64_id {x : Int} (h : I64 x) : wrap64 x = x := by unfold I64 at h; unfold wrap64; omega
theorem i64_nat {i : Nat} (h : i < 8) : I64 (i : Int) := ⟨by omega, by omega⟩
theorem own_open {w : World} {base : Nat} {t : TypeId} {v : Value} {l : List Batch.Ch} (h : Batch.Own w base t v l) : ∃ ao n c, v = .slice ao n c := by
  rcases h.form with ⟨_, h⟩ | ⟨g, cap, h, _⟩
  · exact ⟨_, _, _, h⟩
  · exact ⟨_, _, _, h⟩
theorem sl_open {w : World} {v : Value} {l : List Batch.Ch} (h : Batch.Sl w v l) : ∃ ao n c, v = .slice ao n c := by
  obtain ⟨ao, cap, h, _⟩ := h
  exact ⟨_, _, _, h⟩
set_option maxRecDepth 1000000 in
set_option maxHeartbeats 16000000 in
theorem plgot_dr (h : Pg n w0 wr fs zs a s S A P D B T M w) (hdr : A.dr = true) (hv : Batch.Sl w v l) (hsT : Batch.Sorted T) (hsl : Batch.Sorted l) (hl : T.length + l.length ≤ 100000) (x : Int) :
    Calls Try.prog 49 #[.pointer (some ⟨a, 0, none⟩), .int .i64 x, v] w fun e w' => e = .returned (.tuple #[]) ∧ ∃ zs' tk, (∀ j ∈ zs, j ∈ zs') ∧ (∀ j ∈ zs', j ∈ zs ∨ w.heap.size ≤ j) ∧ (∀ g, tk.ownBlock = some g → w.heap.size ≤ g) ∧ Pg n w0 wr fs zs' a s S { A with tk := tk } P D B (Batch.sumsR (T ++ l)) M w' := by
  have HM := Lib.hid (Batch.merge_any h.tk hv hsT hsl hl)
  have HR := Lib.hid h
  have HW := Lib.hid (Batch.sumsR_wf (Batch.both_wf h.tk.wf hv.wf))
  have hal := h.pa.lt
  obtain ⟨tq, tn, tc, htk⟩ := sl_open h.tk
  obtain ⟨c0, c1, c2, c3, c12, c13, c14, c15, c16, cf⟩ := h.pa.cells
  rw [hdr] at c2
  rw [htk] at c13 HM
  clear h hdr hv hsT hsl hl htk
  go_enter Try.func49, Try.ntmps49
  go_wp2_with fail
  go_at_call 65
  refine HM.out.mono ?_
  rintro e w1 ⟨v', rfl, ho, hb⟩
  obtain ⟨vo, vn, vc, rfl⟩ := own_open ho
  have h1 := HR.out.all hb
  have hbl : ∀ g, (Value.slice vo vn vc).ownBlock = some g → g ∈ List.range' w.heap.size (w1.heap.size - w.heap.size) ++ zs ∧ g ≠ a := fun g hg => ⟨blk_mem (World.ownsRow.lt ho g hg).1 (World.ownsRow.lt ho g hg).2, fun e => by have := (World.ownsRow.lt ho g hg).1; omega⟩
  have HN := Lib.hid (fun g (hg : (Value.slice vo vn vc).ownBlock = some g) => (World.ownsRow.lt ho g hg).1)
  have HS := Lib.hid (h1.setT (ho.sl HW.out) hbl)
  obtain ⟨d0, d1, d2, d3, d12, d13, d14, d15, d16, df⟩ := h1.pa.cells
  clear h1 hbl ho hb c0 c1 c2 c3 c12 c13 c14 c15 c16 cf
  go_wp2_with fail
  ((try simp only [Exit.inBlock, Exit.then]); refine bodyPost_ret (results_none rfl _ _ _) rfl ?_)
  exact ⟨rfl, _, _, blk_old, blk_inv, HN.out, HS.out⟩
set_option maxRecDepth 1000000 in
set_option maxHeartbeats 16000000 in
theorem plgot_put (h : Pg n w0 wr fs zs a s S A P D B T M w) (hdr : A.dr = false) (hi : i < 8) (hv : Batch.Sl w v l) (hsT : Batch.Sorted (B i)) (hsl : Batch.Sorted l) (hl : l.length + (B i).length ≤ 100000) (hok : Batch.sumsE (l ++ B i) = 0) :
    Calls Try.prog 49 #[.pointer (some ⟨a, 0, none⟩), .int .i64 (i : Int), v] w fun e w' => e = .returned (.tuple #[]) ∧ ∃ zs' bv, (∀ j ∈ zs, j ∈ zs') ∧ (∀ j ∈ zs', j ∈ zs ∨ w.heap.size ≤ j) ∧ (∀ g, bv.ownBlock = some g → w.heap.size ≤ g) ∧ Pg n w0 wr fs zs' a s S (A.box i bv) P D (boxB B i (Batch.sumsR (l ++ B i))) T M w' := by
  have HM := Lib.hid (Batch.merge_any hv (h.bx i hi) hsl hsT hl)
  rw [hok] at HM
  have HR := Lib.hid h
  have HW := Lib.hid (Batch.sumsR_wf (Batch.both_wf hv.wf (h.bx i hi).wf))
  have hal := h.pa.lt
  obtain ⟨tq, tn, tc, htk⟩ := sl_open (h.bx i hi)
  have hbx := h.pa.boxAt hi
  obtain ⟨c0, c1, c2, c3, c12, c13, c14, c15, c16, cf⟩ := h.pa.cells
  rw [hdr] at c2
  rw [htk] at hbx HM
  have hi0 : (0 : Int) ≤ (i : Int) := Int.natCast_nonneg _
  have hi1 : (i : Int) < 8 := by omega
  have hw2 : wrap64 (i : Int) = (i : Int) := w64_id (i64_nat hi)
  have hw3 : IntKind.i64.wrap (i : Int) = (i : Int) := w_id (i64_nat hi)
  have HI := Lib.hid hi
  clear h hdr hv hsT hsl hl htk hok hi
  go_enter Try.func49, Try.ntmps49
  go_wp2_with fail
  go_at_call 65
  refine HM.out.mono ?_
  rintro e w1 ⟨v', rfl, ho, hb⟩
  obtain ⟨vo, vn, vc, rfl⟩ := own_open ho
  have h1 := HR.out.all hb
  have hbl : ∀ g, (Value.slice vo vn vc).ownBlock = some g → g ∈ List.range' w.heap.size (w1.heap.size - w.heap.size) ++ zs ∧ g ≠ a := fun g hg => ⟨blk_mem (World.ownsRow.lt ho g hg).1 (World.ownsRow.lt ho g hg).2, fun e => by have := (World.ownsRow.lt ho g hg).1; omega⟩
  have HN := Lib.hid (fun g (hg : (Value.slice vo vn vc).ownBlock = some g) => (World.ownsRow.lt ho g hg).1)
  have HS := Lib.hid (h1.setB HI.out (ho.sl HW.out) hbl)
  obtain ⟨d0, d1, d2, d3, d12, d13, d14, d15, d16, df⟩ := h1.pa.cells
  have hbx := h1.pa.boxAt HI.out
  clear h1 hbl ho hb c0 c1 c2 c3 c12 c13 c14 c15 c16 cf
  go_wp2_with fail
  first | go_ret | go_end0
  exact ⟨rfl, _, _, blk_old, blk_inv, HN.out, HS.out⟩
end
end Go.Proofs.Ytmggnalobfihnaa.Pl
namespace Go.Proofs.Ytmggnalobfihnaa.Pl
open Go.RowKit Rw Pk Go.Maps Mm
set_option linter.unusedVariables false
theorem u_id {x : Int} (h : 0 ≤ x ∧ x ≤ 9223372036854775807) : IntKind.u64.wrap x = x := by rw [u64_of]; omega
theorem idx8_0 (v0 v1 v2 v3 v4 v5 v6 v7 : Value) (w : World) : (Instr.index 68 (.agg #[v0, v1, v2, v3, v4, v5, v6, v7]) (.int .i64 0)).run Try.prog w = .ok v0 w := by kernel_rfl
theorem idx8_1 (v0 v1 v2 v3 v4 v5 v6 v7 : Value) (w : World) : (Instr.index 68 (.agg #[v0, v1, v2, v3, v4, v5, v6, v7]) (.int .i64 1)).run Try.prog w = .ok v1 w := by kernel_rfl
theorem idx8_2 (v0 v1 v2 v3 v4 v5 v6 v7 : Value) (w : World) : (Instr.index 68 (.agg #[v0, v1, v2, v3, v4, v5, v6, v7]) (.int .i64 2)).run Try.prog w = .ok v2 w := by kernel_rfl
theorem idx8_3 (v0 v1 v2 v3 v4 v5 v6 v7 : Value) (w : World) : (Instr.index 68 (.agg #[v0, v1, v2, v3, v4, v5, v6, v7]) (.int .i64 3)).run Try.prog w = .ok v3 w := by kernel_rfl
theorem idx8_4 (v0 v1 v2 v3 v4 v5 v6 v7 : Value) (w : World) : (Instr.index 68 (.agg #[v0, v1, v2, v3, v4, v5, v6, v7]) (.int .i64 4)).run Try.prog w = .ok v4 w := by kernel_rfl
theorem idx8_5 (v0 v1 v2 v3 v4 v5 v6 v7 : Value) (w : World) : (Instr.index 68 (.agg #[v0, v1, v2, v3, v4, v5, v6, v7]) (.int .i64 5)).run Try.prog w = .ok v5 w := by kernel_rfl
theorem idx8_6 (v0 v1 v2 v3 v4 v5 v6 v7 : Value) (w : World) : (Instr.index 68 (.agg #[v0, v1, v2, v3, v4, v5, v6, v7]) (.int .i64 6)).run Try.prog w = .ok v6 w := by kernel_rfl
theorem idx8_7 (v0 v1 v2 v3 v4 v5 v6 v7 : Value) (w : World) : (Instr.index 68 (.agg #[v0, v1, v2, v3, v4, v5, v6, v7]) (.int .i64 7)).run Try.prog w = .ok v7 w := by kernel_rfl
/-- The changes of each shard. -/
def shB (N : Nat) (l : List Batch.Ch) (j : Nat) : List Batch.Ch := l.filter fun c => decide (c.p % (N : Int) = (j : Int))
/-- The shards below i that have any. -/
def shP (B : Nat → List Batch.Ch) (i : Nat) : List Int := ((List.range i).filter fun j => !(B j).isEmpty).map fun (j : Nat) => (j : Int)
def putD (P : List Int) : List (Int × Int) := (P.map fun x => ((4 : Int), x)) ++ (P.map fun x => ((2 : Int), x)) ++ (P.map fun x => ((3 : Int), x)) ++ [(0, 0)] ++ (P.map fun x => ((5 : Int), x))
def drD (P : List Int) : List (Int × Int) := (P.map fun x => ((4 : Int), x)) ++ (P.map fun x => ((2 : Int), x)) ++ (P.map fun x => ((3 : Int), x)) ++ [(0, 0), (1, 0)] ++ (P.map fun x => ((5 : Int), x))
theorem shB_nil (N j : Nat) : shB N [] j = [] := rfl
theorem shB_snoc {N : Nat} {l : List Batch.Ch} {i q : Nat} {c : Batch.Ch} (hx : l[i]? = some c) (hq : c.p % (N : Int) = (q : Int)) : shB N (l.take (i + 1)) = boxB (shB N (l.take i)) q (shB N (l.take i) q ++ [c]) := by
  funext j
  unfold boxB shB
  rw [Batch.take_succ' hx, List.filter_append]
  by_cases e : j = q
  · subst e
    rw [if_pos rfl]
    simp [hq]
  · rw [if_neg e]
    have : ¬ c.p % (N : Int) = (j : Int) := by omega
    simp [this]
theorem shB_len {N : Nat} {l : List Batch.Ch} {j : Nat} : (shB N l j).length ≤ l.length := List.length_filter_le _ _
theorem shB_mem {N : Nat} {l : List Batch.Ch} {j : Nat} {c : Batch.Ch} (h : c ∈ shB N l j) : c ∈ l ∧ c.p % (N : Int) = (j : Int) := by
  unfold shB at h
  rw [List.mem_filter] at h
  simpa using h
theorem own_open2 {w : World} {base n : Nat} {t : TypeId} {v : Value} {xs : List Value} (h : w.ownsRow base t 3 v n xs) : ∃ ao n c, v = .slice ao n c := by
  rcases h.2 with ⟨h, _⟩ | ⟨_, _, _, h, _⟩
  · exact ⟨_, _, _, h⟩
  · exact ⟨_, _, _, h⟩
theorem own_len {w : World} {base : Nat} {t : TypeId} {v : Value} {l : List Batch.Ch} (h : Batch.Own w base t v l) : ∃ ao n c, v = .slice ao n c ∧ n = l.length := by
  rcases h.form with ⟨hl, hv⟩ | ⟨g, cap, hv, _⟩
  · exact ⟨_, _, _, hv, by rw [hl]; rfl⟩
  · exact ⟨_, _, _, hv, rfl⟩
theorem shP_zero (B : Nat → List Batch.Ch) : shP B 0 = [] := rfl
theorem shP_succ (B : Nat → List Batch.Ch) (i : Nat) : shP B (i + 1) = if (B i).length = 0 then shP B i else shP B i ++ [(i : Int)] := by
  unfold shP
  rw [List.range_succ, List.filter_append, List.map_append]
  by_cases h : (B i).length = 0
  · rw [if_pos h]
    have : B i = [] := List.length_eq_zero_iff.1 h
    simp [this]
  · rw [if_neg h]
    have : B i ≠ [] := fun e => h (by rw [e]; rfl)
    simp [this]
theorem shP_mem {B : Nat → List Batch.Ch} {i : Nat} {x : Int} (h : x ∈ shP B i) : 0 ≤ x ∧ x < i := by
  unfold shP at h
  simp only [List.mem_map, List.mem_filter, List.mem_range] at h
  obtain ⟨j, ⟨h1, _⟩, rfl⟩ := h
  omega
theorem shP_len (B : Nat → List Batch.Ch) (i : Nat) : (shP B i).length ≤ i := by
  unfold shP
  rw [List.length_map]
  exact Nat.le_trans (List.length_filter_le _ _) (by simp)
theorem acc_i64 {x : Int} (h : 0 ≤ x ∧ x < 8) : I64 x := ⟨by omega, by omega⟩
theorem map_wf {P : List Int} (q : Int) (hq : I64 q) (h : ∀ x ∈ P, 0 ≤ x ∧ x < 8) : ∀ y ∈ P.map (fun x => (q, x)), accK.wf y := by
  intro y hy
  obtain ⟨x, hx, rfl⟩ := List.mem_map.1 hy
  exact ⟨hq, acc_i64 (h x hx)⟩
theorem putD_wf {P : List Int} (h : ∀ x ∈ P, 0 ≤ x ∧ x < 8) : ∀ y ∈ putD P, accK.wf y := by
  intro y hy
  unfold putD at hy
  simp only [List.mem_append, List.mem_cons, List.not_mem_nil, or_false] at hy
  rcases hy with (((hy | hy) | hy) | rfl) | hy
  · exact map_wf 4 ⟨by decide, by decide⟩ h y hy
  · exact map_wf 2 ⟨by decide, by decide⟩ h y hy
  · exact map_wf 3 ⟨by decide, by decide⟩ h y hy
  · exact ⟨⟨by decide, by decide⟩, ⟨by decide, by decide⟩⟩
  · exact map_wf 5 ⟨by decide, by decide⟩ h y hy
theorem drD_wf {P : List Int} (h : ∀ x ∈ P, 0 ≤ x ∧ x < 8) : ∀ y ∈ drD P, accK.wf y := by
  intro y hy
  unfold drD at hy
  simp only [List.mem_append, List.mem_cons, List.not_mem_nil, or_false] at hy
  rcases hy with (((hy | hy) | hy) | rfl | rfl) | hy
  · exact map_wf 4 ⟨by decide, by decide⟩ h y hy
  · exact map_wf 2 ⟨by decide, by decide⟩ h y hy
  · exact map_wf 3 ⟨by decide, by decide⟩ h y hy
  · exact ⟨⟨by decide, by decide⟩, ⟨by decide, by decide⟩⟩
  · exact ⟨⟨by decide, by decide⟩, ⟨by decide, by decide⟩⟩
  · exact map_wf 5 ⟨by decide, by decide⟩ h y hy
theorem lit_acc1 (w : World) (t : TypeId) (k : Nat) : Rr accK (w.alloc (.cells #[.int .i64 0, .int .i64 0] t)) (.slice (some ⟨w.heap.size, 0, none⟩) 1 1) [(0, 0)] := by
  have hn := heap_alloc_new w (.cells #[.int .i64 0, .int .i64 0] t)
  have hc : ∀ o, (w.alloc (.cells #[.int .i64 0, .int .i64 0] t)).cell? ⟨w.heap.size, o, none⟩ = #[Value.int .i64 0, .int .i64 0][o]? := fun o => cell_of_row _ _ _ _ _ _ hn
  refine rr_of (by decide) rfl (Nat.le_refl _) (by decide) (fun y hy => by simp at hy; subst hy; exact ⟨⟨by decide, by decide⟩, ⟨by decide, by decide⟩⟩) (fun i y hy c u hc' hu => ?_)
  match i, hy with
  | 0, hy =>
    simp at hy
    subst hy
    rw [show ((⟨w.heap.size, 0, none⟩ : Addr).add (0 * accK.k + c)) = ⟨w.heap.size, c, none⟩ by unfold Addr.add; split <;> simp_all]
    rw [hc]
    match c, hc', hu with
    | 0, _, hu => simpa [accK] using hu
    | 1, _, hu => simpa [accK] using hu
    | k + 2, hc', _ => exact absurd hc' (by show ¬ k + 2 < 2; omega)
  | k + 1, hy => simp at hy
theorem lit_acc2 (w : World) (t : TypeId) (k : Nat) : Rr accK (w.alloc (.cells #[.int .i64 0, .int .i64 0, .int .i64 1, .int .i64 0] t)) (.slice (some ⟨w.heap.size, 0, none⟩) 2 2) [(0, 0), (1, 0)] := by
  have hn := heap_alloc_new w (.cells #[.int .i64 0, .int .i64 0, .int .i64 1, .int .i64 0] t)
  have hc : ∀ o, (w.alloc (.cells #[.int .i64 0, .int .i64 0, .int .i64 1, .int .i64 0] t)).cell? ⟨w.heap.size, o, none⟩ = #[Value.int .i64 0, .int .i64 0, .int .i64 1, .int .i64 0][o]? := fun o => cell_of_row _ _ _ _ _ _ hn
  refine rr_of (by decide) rfl (Nat.le_refl _) (by decide) (fun y hy => by simp at hy; rcases hy with rfl | rfl <;> exact ⟨⟨by decide, by decide⟩, ⟨by decide, by decide⟩⟩) (fun i y hy c u hc' hu => ?_)
  have e : ∀ i, ((⟨w.heap.size, 0, none⟩ : Addr).add (i * accK.k + c)) = ⟨w.heap.size, i * 2 + c, none⟩ := fun i => by unfold Addr.add; split <;> simp_all [accK]
  rw [e, hc]
  match i, hy with
  | 0, hy =>
    simp at hy
    subst hy
    match c, hc', hu with
    | 0, _, hu => simpa [accK] using hu
    | 1, _, hu => simpa [accK] using hu
    | k + 2, hc', _ => exact absurd hc' (by show ¬ k + 2 < 2; omega)
  | 1, hy =>
    simp at hy
    subst hy
    match c, hc', hu with
    | 0, _, hu => simpa [accK] using hu
    | 1, _, hu => simpa [accK] using hu
    | k + 2, hc', _ => exact absurd hc' (by show ¬ k + 2 < 2; omega)
  | k + 2, hy => simp at hy
end Go.Proofs.Ytmggnalobfihnaa.Pl
