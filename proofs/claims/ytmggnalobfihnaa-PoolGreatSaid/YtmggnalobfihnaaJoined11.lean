/-
  PACKAGE pool: what a Put and a Drain have to do.
  PACKAGE pool: giveUp's closure, and the library's IndexFunc and DeleteFunc by it.
-/
import Derived.Test.YtmggnalobfihnaaPlEach
import Derived.Test.YtmggnalobfihnaaJoined10
import Derived.Deep.CutRange
import Derived.Deep.RegionHeldLaw
import Derived.Deep.AppendLies
import Derived.BigQuiet
import Derived.Test.YtmggnalobfihnaaJoined1
namespace Go.Proofs.Ytmggnalobfihnaa.Pl
open Go.RowKit Rw Pk Go.Maps Mm
set_option linter.unusedVariables false
theorem u_id {x : Int} (h : 0 ≤ x ∧ x ≤ 9223372036854775807) : IntKind.u64.wrap x = x := by rw [u64_of]; omega
theorem idx8_0 (v0 v1 v2 v3 v4 v5 v6 v7 : Value) (w : World) : (Instr.index 68 (.agg #[v0, v1, v2, v3, v4, v5, v6, v7]) (.int .i64 0)).run Try.prog w = .ok v0 w := by kernel_rfl
theorem idx8_1 (v0 v1 v2 v3 v4 v5 v6 v7 : Value) (w : World) : (Instr.index 68 (.agg #[v0, v1, v2, v3, v4, v5, v6, v7]) (.int .i64 1)).run Try.prog w = .ok v1 w := by kernel_rfl
theorem idx8_2 (v0 v1 v2 v3 v4 v5 v6 v7 : Value) (w : World) : (Instr.index 68 (.agg #[v0, v1, v2, v3, v4, v5, v6, v7]) (.int .i64 2)).run Try.prog w = .ok v2 w := by kernel_rfl
theorem idx8_3 (v0 v1 v2 v3 v4 v5 v6 v7 : Value) (w : World) : (Instr.index 68 (.agg #[v0, v1, v2, v3, v4, v5, v6, v7]) (.int .i64 3)).run Try.prog w = .ok v3 w := by kernel_rfl
theorem idx8_4 (v0 v1 v2 v3 v4 v5 v6 v7 : Value) (w : World) : (Instr.index 68 (.agg #[v0, v1, v2, v3, v4, v5, v6, v7]) (.int .i64 4)).run Try.prog w = .ok v4 w := by kernel_rfl
theorem idx8_5 (v0 v1 v2 v3 v4 v5 v6 v7 : Value) (w : World) : (Instr.index 68 (.agg #[v0, v1, v2, v3, v4, v5, v6, v7]) (.int .i64 5)).run Try.prog w = .ok v5 w := by kernel_rfl
theorem idx8_6 (v0 v1 v2 v3 v4 v5 v6 v7 : Value) (w : World) : (Instr.index 68 (.agg #[v0, v1, v2, v3, v4, v5, v6, v7]) (.int .i64 6)).run Try.prog w = .ok v6 w := by kernel_rfl
theorem idx8_7 (v0 v1 v2 v3 v4 v5 v6 v7 : Value) (w : World) : (Instr.index 68 (.agg #[v0, v1, v2, v3, v4, v5, v6, v7]) (.int .i64 7)).run Try.prog w = .ok v7 w := by kernel_rfl
/-- The changes of each shard. -/
def shB (N : Nat) (l : List Batch.Ch) (j : Nat) : List Batch.Ch := l.filter fun c => decide (c.p % (N : Int) = (j : Int))
/-- The shards below i that have any. -/
def shP (B : Nat → List Batch.Ch) (i : Nat) : List Int := ((List.range i).filter fun j => !(B j).isEmpty).map fun (j : Nat) => (j : Int)
def putD (P : List Int) : List (Int × Int) := (P.map fun x => ((4 : Int), x)) ++ (P.map fun x => ((2 : Int), x)) ++ (P.map fun x => ((3 : Int), x)) ++ [(0, 0)] ++ (P.map fun x => ((5 : Int), x))
def drD (P : List Int) : List (Int × Int) := (P.map fun x => ((4 : Int), x)) ++ (P.map fun x => ((2 : Int), x)) ++ (P.map fun x => ((3 : Int), x)) ++ [(0, 0), (1, 0)] ++ (P.map fun x => ((5 : Int), x))
theorem shB_nil (N j : Nat) : shB N [] j = [] := rfl
theorem shB_snoc {N : Nat} {l : List Batch.Ch} {i q : Nat} {c : Batch.Ch} (hx : l[i]? = some c) (hq : c.p % (N : Int) = (q : Int)) : shB N (l.take (i + 1)) = boxB (shB N (l.take i)) q (shB N (l.take i) q ++ [c]) := by
  funext j
  unfold boxB shB
  rw [Batch.take_succ' hx, List.filter_append]
  by_cases e : j = q
  · subst e
    rw [if_pos rfl]
    simp [hq]
  · rw [if_neg e]
    have : ¬ c.p % (N : Int) = (j : Int) := by omega
    simp [this]
theorem shB_len {N : Nat} {l : List Batch.Ch} {j : Nat} : (shB N l j).length ≤ l.length := List.length_filter_le _ _
theorem shB_mem {N : Nat} {l : List Batch.Ch} {j : Nat} {c : Batch.Ch} (h : c ∈ shB N l j) : c ∈ l ∧ c.p % (N : Int) = (j : Int) := by
  unfold shB at h
  rw [List.mem_filter] at h
  simpa using h
theorem own_open2 {w : World} {base n : Nat} {t : TypeId} {v : Value} {xs : List Value} (h : w.ownsRow base t 3 v n xs) : ∃ ao n c, v = .slice ao n c := by
  rcases h.2 with ⟨h, _⟩ | ⟨_, _, _, h, _⟩
  · exact ⟨_, _, _, h⟩
  · exact ⟨_, _, _, h⟩
theorem own_len {w : World} {base : Nat} {t : TypeId} {v : Value} {l : List Batch.Ch} (h : Batch.Own w base t v l) : ∃ ao n c, v = .slice ao n c ∧ n = l.length := by
  rcases h.form with ⟨hl, hv⟩ | ⟨g, cap, hv, _⟩
  · exact ⟨_, _, _, hv, by rw [hl]; rfl⟩
  · exact ⟨_, _, _, hv, rfl⟩
theorem shP_zero (B : Nat → List Batch.Ch) : shP B 0 = [] := rfl
theorem shP_succ (B : Nat → List Batch.Ch) (i : Nat) : shP B (i + 1) = if (B i).length = 0 then shP B i else shP B i ++ [(i : Int)] := by
  unfold shP
  rw [List.range_succ, List.filter_append, List.map_append]
  by_cases h : (B i).length = 0
  · rw [if_pos h]
    have : B i = [] := List.length_eq_zero_iff.1 h
    simp [this]
  · rw [if_neg h]
    have : B i ≠ [] := fun e => h (by rw [e]; rfl)
    simp [this]
theorem shP_mem {B : Nat → List Batch.Ch} {i : Nat} {x : Int} (h : x ∈ shP B i) : 0 ≤ x ∧ x < i := by
  unfold shP at h
  simp only [List.mem_map, List.mem_filter, List.mem_range] at h
  obtain ⟨j, ⟨h1, _⟩, rfl⟩ := h
  omega
theorem shP_len (B : Nat → List Batch.Ch) (i : Nat) : (shP B i).length ≤ i := by
  unfold shP
  rw [List.length_map]
  exact Nat.le_trans (List.length_filter_le _ _) (by simp)
theorem acc_i64 {x : Int} (h : 0 ≤ x ∧ x < 8) : I64 x := ⟨by omega, by omega⟩
theorem map_wf {P : List Int} (q : Int) (hq : I64 q) (h : ∀ x ∈ P, 0 ≤ x ∧ x < 8) : ∀ y ∈ P.map (fun x => (q, x)), accK.wf y := by
  intro y hy
  obtain ⟨x, hx, rfl⟩ := List.mem_map.1 hy
  exact ⟨hq, acc_i64 (h x hx)⟩
theorem putD_wf {P : List Int} (h : ∀ x ∈ P, 0 ≤ x ∧ x < 8) : ∀ y ∈ putD P, accK.wf y := by
  intro y hy
  unfold putD at hy
  simp only [List.mem_append, List.mem_cons, List.not_mem_nil, or_false] at hy
  rcases hy with (((hy | hy) | hy) | rfl) | hy
  · exact map_wf 4 ⟨by decide, by decide⟩ h y hy
  · exact map_wf 2 ⟨by decide, by decide⟩ h y hy
  · exact map_wf 3 ⟨by decide, by decide⟩ h y hy
  · exact ⟨⟨by decide, by decide⟩, ⟨by decide, by decide⟩⟩
  · exact map_wf 5 ⟨by decide, by decide⟩ h y hy
theorem drD_wf {P : List Int} (h : ∀ x ∈ P, 0 ≤ x ∧ x < 8) : ∀ y ∈ drD P, accK.wf y := by
  intro y hy
  unfold drD at hy
  simp only [List.mem_append, List.mem_cons, List.not_mem_nil, or_false] at hy
  rcases hy with (((hy | hy) | hy) | rfl | rfl) | hy
  · exact map_wf 4 ⟨by decide, by decide⟩ h y hy
  · exact map_wf 2 ⟨by decide, by decide⟩ h y hy
  · exact map_wf 3 ⟨by decide, by decide⟩ h y hy
  · exact ⟨⟨by decide, by decide⟩, ⟨by decide, by decide⟩⟩
  · exact ⟨⟨by decide, by decide⟩, ⟨by decide, by decide⟩⟩
  · exact map_wf 5 ⟨by decide, by decide⟩ h y hy
theorem lit_acc1 (w : World) (t : TypeId) (k : Nat) : Rr accK (w.alloc (.cells #[.int .i64 0, .int .i64 0] t)) (.slice (some ⟨w.heap.size, 0, none⟩) 1 1) [(0, 0)] := by
  have hn := heap_alloc_new w (.cells #[.int .i64 0, .int .i64 0] t)
  have hc : ∀ o, (w.alloc (.cells #[.int .i64 0, .int .i64 0] t)).cell? ⟨w.heap.size, o, none⟩ = #[Value.int .i64 0, .int .i64 0][o]? := fun o => cell_of_row _ _ _ _ _ _ hn
  refine rr_of (by decide) rfl (Nat.le_refl _) (by decide) (fun y hy => by simp at hy; subst hy; exact ⟨⟨by decide, by decide⟩, ⟨by decide, by decide⟩⟩) (fun i y hy c u hc' hu => ?_)
  match i, hy with
  | 0, hy =>
    simp at hy
    subst hy
    rw [show ((⟨w.heap.size, 0, none⟩ : Addr).add (0 * accK.k + c)) = ⟨w.heap.size, c, none⟩ by unfold Addr.add; split <;> simp_all]
    rw [hc]
    match c, hc', hu with
    | 0, _, hu => simpa [accK] using hu
    | 1, _, hu => simpa [accK] using hu
    | k + 2, hc', _ => exact absurd hc' (by show ¬ k + 2 < 2; omega)
  | k + 1, hy => simp at hy
theorem lit_acc2 (w : World) (t : TypeId) (k : Nat) : Rr accK (w.alloc (.cells #[.int .i64 0, .int .i64 0, .int .i64 1, .int .i64 0] t)) (.slice (some ⟨w.heap.size, 0, none⟩) 2 2) [(0, 0), (1, 0)] := by
  have hn := heap_alloc_new w (.cells #[.int .i64 0, .int .i64 0, .int .i64 1, .int .i64 0] t)
  have hc : ∀ o, (w.alloc (.cells #[.int .i64 0, .int .i64 0, .int .i64 1, .int .i64 0] t)).cell? ⟨w.heap.size, o, none⟩ = #[Value.int .i64 0, .int .i64 0, .int .i64 1, .int .i64 0][o]? := fun o => cell_of_row _ _ _ _ _ _ hn
  refine rr_of (by decide) rfl (Nat.le_refl _) (by decide) (fun y hy => by simp at hy; rcases hy with rfl | rfl <;> exact ⟨⟨by decide, by decide⟩, ⟨by decide, by decide⟩⟩) (fun i y hy c u hc' hu => ?_)
  have e : ∀ i, ((⟨w.heap.size, 0, none⟩ : Addr).add (i * accK.k + c)) = ⟨w.heap.size, i * 2 + c, none⟩ := fun i => by unfold Addr.add; split <;> simp_all [accK]
  rw [e, hc]
  match i, hy with
  | 0, hy =>
    simp at hy
    subst hy
    match c, hc', hu with
    | 0, _, hu => simpa [accK] using hu
    | 1, _, hu => simpa [accK] using hu
    | k + 2, hc', _ => exact absurd hc' (by show ¬ k + 2 < 2; omega)
  | 1, hy =>
    simp at hy
    subst hy
    match c, hc', hu with
    | 0, _, hu => simpa [accK] using hu
    | 1, _, hu => simpa [accK] using hu
    | k + 2, hc', _ => exact absurd hc' (by show ¬ k + 2 < 2; omega)
  | k + 2, hy => simp at hy
end Go.Proofs.Ytmggnalobfihnaa.Pl
namespace Go.Proofs.Ytmggnalobfihnaa.Pl
open Go.RowKit Rw Pk Go.Maps Mm
set_option linter.unusedVariables false
def m5 (L : List Int) : List (Int × Int) := L.map fun x => (5, x)
theorem m5_len (L : List Int) : (m5 L).length = L.length := List.length_map ..
theorem m5_at {L : List Int} {i : Nat} {x : Int} (h : L[i]? = some x) : (m5 L)[i]? = some (5, x) := by unfold m5; rw [List.getElem?_map, h]; rfl
theorem m5_set (L : List Int) (i : Nat) (x : Int) : m5 (L.set i x) = (m5 L).set i (5, x) := by unfold m5; rw [List.map_set]
theorem m5_take (L : List Int) (i : Nat) : m5 (L.take i) = (m5 L).take i := by unfold m5; rw [List.map_take]
/-- Where the closure's access lies. -/
def LastAt (w : World) (g : Nat) (q : Int) : Prop := w.cell? ⟨g, 0, none⟩ = some (.int .i64 5) ∧ w.cell? ⟨g, 1, none⟩ = some (.int .i64 q)
theorem LastAt.below {w w' : World} {B g : Nat} {q : Int} (h : LastAt w g q) (hb : Below B w w') (hg : g < B) : LastAt w' g q := ⟨(hb.cell (p := ⟨g, 0, none⟩) hg).trans h.1, (hb.cell (p := ⟨g, 1, none⟩) hg).trans h.2⟩
theorem LastAt.lt {w : World} {g : Nat} {q : Int} (h : LastAt w g q) : g < w.heap.size := Lib.lt_of_cell h.1
set_option maxRecDepth 1000000 in
set_option maxHeartbeats 4000000 in
theorem quit_any (x q : Int) {w : World} {g : Nat} (hg : LastAt w g q) :
    Calls Try.prog 71 #[.agg #[.int .i64 5, .int .i64 x], .pointer (some ⟨g, 0, none⟩)] w fun r w' => r = .returned (.bool (decide (x = q))) ∧ Below w.heap.size w w' := by
  obtain ⟨W1, hW1⟩ : ∃ W1, W1 = w.alloc (.cells #[.int .i64 5, .int .i64 x] 76) := ⟨_, rfl⟩
  have hb : Below w.heap.size w W1 := by rw [hW1]; exact (Below.refl _ _).alloc (Nat.le_refl _) _
  have hn : W1.heap[w.heap.size]? = some (.cells #[.int .i64 5, .int .i64 x] 76 (0, 0)) := by rw [hW1]; exact heap_alloc_new w _
  have s0 : W1.cell? ⟨w.heap.size, 0, none⟩ = some (.int .i64 5) := by simp [World.cell?, hn]
  have s1 : W1.cell? ⟨w.heap.size, 1, none⟩ = some (.int .i64 x) := by simp [World.cell?, hn]
  obtain ⟨t0, t1⟩ := hg.below hb hg.lt
  have HB := Lib.hid hb
  have HW1 := Lib.hid hW1
  clear hg hn hb hW1
  by_cases h1 : x = q
  · subst h1
    have HR : Hid (decide (x = x) = true) := Lib.hid (by simp)
    have h1' : (x == x) = true := by simp
    go_enter Try.func71, Try.ntmps71
    go_upto_region 1 with fail
    rw [← HW1.out]
    go_wp2_with fail
    go_ret
    exact ⟨by first | rfl | (rw [HR.out]; rfl), HB.out⟩
  · have h1' : (x == q) = false := by simpa using h1
    have HR : Hid (decide (x = q) = false) := Lib.hid (by simpa using h1)
    go_enter Try.func71, Try.ntmps71
    go_upto_region 1 with fail
    rw [← HW1.out]
    clear h1
    go_wp2_with fail
    go_ret
    exact ⟨by first | rfl | (rw [HR.out]; rfl), HB.out⟩
set_option maxRecDepth 1000000 in
set_option maxHeartbeats 8000000 in
theorem idxA_any {w : World} {v : Value} {L : List Int} (hv : Rr accK w v (m5 L)) (q : Int) {g : Nat} (hg : LastAt w g q) {i0 : Nat} (h0 : L[i0]? = some q) (hn : ∀ (j : Nat) x, j < i0 → L[j]? = some x → x ≠ q) :
    Calls Try.prog 75 #[v, .func (.func 71) #[] #[.pointer (some ⟨g, 0, none⟩)]] w fun r w' => r = .returned (.int .i64 (i0 : Int)) ∧ Below w.heap.size w w' := by
  have HV := Lib.hid hv
  have HG := Lib.hid hg
  have H0 := Lib.hid h0
  have HN := Lib.hid hn
  obtain ⟨ao, cap, rfl, hv1, hv2⟩ := hv.form
  have hl0 : i0 < L.length := (List.getElem?_eq_some_iff.1 h0).1
  have HL0 := Lib.hid hl0
  rw [m5_len] at hv1
  rw [m5_len]
  have hlm : L.length ≤ 9223372036854775807 := by omega
  clear hv hg h0 hn hv1 hl0
  go_enter Try.func75, Try.ntmps75
  go_wp2_with fail
  go_loopg [8] (i0 + 1) (fun k t wr => ∃ (i : Nat), i + k = i0 + 1 ∧ i ≤ i0 ∧ t = .int .i64 (i : Int) ∧ Hid (Below w.heap.size w wr))
  case atStart => exact ⟨0, by omega, by omega, rfl, Lib.hid (Below.refl _ _)⟩
  case round =>
    obtain ⟨i, hik, hil, rfl, HB⟩ := hrel
    have HIK := Lib.hid hik
    have HIL := Lib.hid hil
    have hlt : i < L.length := by have := HL0.out; omega
    obtain ⟨x, hx⟩ : ∃ x, L[i]? = some x := ⟨_, List.getElem?_eq_getElem hlt⟩
    have hv3 := HV.out
    obtain ⟨b, off, rfl, hbl, qx⟩ := hv3.at (m5_at hx)
    have qy := qx.below HB.out hbl
    have c0 := qy 0 _ (by decide) rfl
    have c1 := qy 1 _ (by decide) rfl
    simp only [show accK.k = 2 from rfl, Nat.add_zero] at c0 c1
    have hi0 : (0 : Int) ≤ (i : Int) := Int.natCast_nonneg _
    have hi1 : (i : Int) < (L.length : Int) := by omega
    have HX := Lib.hid hx
    clear hik hil hlt hx qx qy hv3
    go_wp2_with fail
    go_at_call 71
    refine (quit_any x q (HG.out.below HB.out HG.out.lt)).mono ?_
    rintro r w2 ⟨rfl, hb2⟩
    have HB2 := Lib.hid (HB.out.trans (hb2.mono HB.out.size))
    clear hb2
    by_cases hi : i = i0
    · subst hi
      have hz : decide (x = q) = true := by
        have := H0.out; rw [HX.out] at this; cases this; simp
      rw [hz]
      clear hz
      go_wp2_with fail
      go_ret
      exact ⟨rfl, HB2.out⟩
    · have hz : decide (x = q) = false := by have := HN.out i _ (by have := HIL.out; omega) HX.out; simpa using this
      rw [hz]
      have HI := Lib.hid hi
      clear hz hi
      go_wp2_with fail
      go_roundg (gk - 1)
      case measure => have := HIK.out; have := HIL.out; have := HI.out; omega
      case rel => exact ⟨i + 1, by have := HIK.out; have := HIL.out; have := HI.out; omega, by have := HIL.out; have := HI.out; omega, by go_num, HB2⟩
/-- A whole access is laid into a row of one's own. -/
theorem own_setAcc {w : World} {base g n cap : Nat} {T : TypeId} {L : List Int} (h : Own accK w base T (.slice (some ⟨g, 0, none⟩) n cap) (m5 L)) {i : Nat} (hi : i < L.length) (x : Int) :
    Own accK ((w.setCell ⟨g, i * 2, none⟩ (.int .i64 5)).setCell ⟨g, i * 2 + 1, none⟩ (.int .i64 x)) base T (.slice (some ⟨g, 0, none⟩) n cap) (m5 (L.set i x)) := by
  have hf : ∀ L : List Int, ∀ i x, i < L.length → accK.flat (m5 (L.set i x)) = ((accK.flat (m5 L)).set (i * 2) (.int .i64 5)).set (i * 2 + 1) (.int .i64 x) := by
    intro L
    induction L with
    | nil => intro i x h; simp at h
    | cons y r ih =>
      intro i x h
      have e : ∀ (z : Int) (q : List Int), accK.flat (m5 (z :: q)) = .int .i64 5 :: .int .i64 z :: accK.flat (m5 q) := fun _ _ => rfl
      cases i with
      | zero => rw [List.set_cons_zero, e, e]; rfl
      | succ k =>
        rw [List.set_cons_succ, e, e, ih k x (by simpa using h), show (k + 1) * 2 = k * 2 + 1 + 1 by omega]
        rfl
  unfold Own at h ⊢
  rw [hf L i x hi, m5_len, List.length_set]
  rw [m5_len] at h
  exact Rw.row_set (Rw.row_set h (show i * 2 < L.length * 2 by omega) _) (show i * 2 + 1 < L.length * 2 by omega) _
end Go.Proofs.Ytmggnalobfihnaa.Pl
