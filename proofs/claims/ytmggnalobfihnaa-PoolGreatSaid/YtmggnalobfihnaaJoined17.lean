/-
  THE LAW PoolGreat: its walk.
  THE ARGUMENTS OF THE LAWS OF PACKAGE batch: a slice of Changes that came in, cell by cell (after the guide's lemma for slices of structs).
  THE ARGUMENTS OF THE LAWS OF PACKAGE pick: a slice of numbers, an array of two numbers.
-/
import Derived.Test.YtmggnalobfihnaaJoined16
import Derived.Test.YtmggnalobfihnaaPlRef
import Derived.Test.YtmggnalobfihnaaBatchMem
import Derived.Test.YtmggnalobfihnaaRows
import Derived.WalkKit
import Derived.ProofKit
import Derived.OpenShut
import Derived.Deep.Slices
import Derived.Deep.Fields
import Derived.ChangeSame
import Derived.LaidHandle
import Derived.MakeChecks
import Derived.Carry
import Derived.Test.YtmggnalobfihnaaJoined2
import Derived.Lib.SmallJoins
namespace Go.Proofs.Ytmggnalobfihnaa.PlB
open Pl
open Go.RowKit Rw Pk Go.Maps Mm
open Batch (Ch tot sumsE sumsR)
set_option linter.unusedVariables false
theorem great_num (d : Int) : ∃ q : Int, 0 ≤ q ∧ q < 576460752303423488 ∧ (IntKind.u64.wrap d).tmod 576460752303423488 = q := by
  have h3 : (0 : Int) ≤ IntKind.u64.wrap d := by rw [u64_of]; exact Int.emod_nonneg _ (by decide)
  refine ⟨_, ?_, ?_, rfl⟩
  · exact Int.tmod_nonneg _ h3
  · exact Int.tmod_lt_of_pos _ (by decide)
theorem sl_newG (w : World) (L : List Ch) (T : TypeId) (hw : ∀ x ∈ L, x.Wf) (hl : L.length ≤ 100000) : Batch.Sl (w.alloc (.cells (Batch.cellsL L).toArray T)) (.slice (some ⟨w.heap.size, 0, none⟩) L.length L.length) L := by
  have hat : ∀ j, (w.alloc (.cells (Batch.cellsL L).toArray T)).cell? ⟨w.heap.size, j, none⟩ = (Batch.cellsL L)[j]? := by
    intro j
    have h := heap_alloc_new w (.cells (Batch.cellsL L).toArray T)
    unfold World.cell?
    simp only [h]
    simp
  refine ⟨_, _, rfl, .inr ⟨w.heap.size, 0, rfl, fun i x hx => ?_⟩, Nat.le_refl _, by omega, hw⟩
  have h0 := Batch.cellsL_at hx 0 (by omega)
  have h1 := Batch.cellsL_at hx 1 (by omega)
  have h2 := Batch.cellsL_at hx 2 (by omega)
  rw [Nat.zero_add]
  exact ⟨(hat _).trans h0, (hat _).trans h1, (hat _).trans h2⟩
theorem sl_three (w : World) (x : Int) (T : TypeId) (hx : 1 ≤ x ∧ x ≤ 576460752303423488) : Batch.Sl (w.alloc (.cells #[.int .i64 0, .int .u64 5, .int .i64 1, .int .i64 1, .int .u64 5, .int .i64 x, .int .i64 2, .int .u64 5, .int .i64 1] T)) (.slice (some ⟨w.heap.size, 0, none⟩) 3 3) (bG x) :=
  sl_newG w (bG x) T (bG_wf hx) (by simp [bG])
theorem fresh_m8 {dr : Bool} {k n : Nat} {b : List Ch} {X : Ax} (h : Fresh dr k n b X) (hn : n ≤ 8) : X.m ≤ 8 := by
  unfold Ax.m
  rw [h.hq]
  split
  · simp; exact hn
  · exact shQ_len n b
theorem upd_two (X Z : Ax) : updF (updF (updF (fun _ => none) 0 (some X)) 1 (some Z)) 0 none = updF (fun _ => none) 1 (some Z) := by
  funext i
  by_cases e : i = 0
  · subst e; rw [updF_same, updF_other (by decide)]
  · rw [updF_other e]
    by_cases e1 : i = 1
    · subst e1; rw [updF_same, updF_same]
    · rw [updF_other e1, updF_other e1, updF_other e]
set_option maxRecDepth 1000000 in
set_option maxHeartbeats 16000000 in
theorem great_any (x d : Int) (hd : -9223372036854775808 ≤ d ∧ d ≤ 9223372036854775807) (w : World) :
    Calls Try.prog 4 #[.int .i64 x, .int .i64 d] w fun e w' => e = .returned (.bool true) ∧ Below w.heap.size w w' := by
  obtain ⟨q, hq, _, p2, p3⟩ := plport_of (n := 8) x (by decide) (by decide)
  obtain ⟨n, hnp⟩ : ∃ n : Nat, n = q + 1 := ⟨_, rfl⟩
  have HN : Hid (1 ≤ n ∧ n ≤ 8) := Lib.hid (by omega)
  have HP := Lib.hid (And.intro p2 p3)
  obtain ⟨p6, p7⟩ := plone_more hnp (Nat.lt_trans hq (by decide))
  obtain ⟨g, hg0, hg1, hg2⟩ := great_num d
  obtain ⟨y, hy⟩ : ∃ y, y = 1 + g := ⟨_, rfl⟩
  have HY : Hid (1 ≤ y ∧ y ≤ 576460752303423488) := Lib.hid (by omega)
  have g3 : IntKind.i64.wrap g = g := w_id ⟨by omega, by omega⟩
  have g4 : wrap64 g = g := w64_id ⟨by omega, by omega⟩
  have g5 : IntKind.i64.wrap (1 + g) = y := by rw [hy]; exact w_id ⟨by omega, by omega⟩
  have g6 : wrap64 (1 + g) = y := by rw [hy]; exact w64_id ⟨by omega, by omega⟩
  clear hq hnp p2 p3 hg0 hg1 hy hd
  have p4 : wrap64 ((IntKind.u64.wrap x).tmod 8) = (q : Int) := HP.out.1
  have p5 : IntKind.i64.wrap ((IntKind.u64.wrap x).tmod 8) = (q : Int) := HP.out.2
  go_enter Try.func4, Try.ntmps4
  go_wp2_with fail
  go_at_call 5
  try rw [p6]
  refine (plbegin_any n HN.out w).mono ?_
  rintro e w1 ⟨p, s, zs0, rfl, h⟩
  have H0 := Lib.hid h
  clear h p4 p5 p6 p7
  go_wp2_with fail
  go_at_call 6
  refine (pltold_any w1).mono ?_
  rintro e w2 ⟨rfl, hb⟩
  have H1 := Lib.hid (H0.out.below hb)
  clear hb H0
  go_upto_region 6 with fail
  clear g3 g4 g5 g6 hg2
  go_wp2_with fail
  go_at_call 9
  have hb : Below w2.heap.size w2 (w2.alloc (.cells #[.int .i64 1, .int .u64 5, .int .i64 576460752303423488] 58)) := (Below.refl _ _).alloc (Nat.le_refl _) _
  refine (ps_put (k := 0) (H1.out.below hb) rfl HN.out (sl_newG w2 cG 58 cG_wf (by simp [cG])) cG_cg).mono ?_
  rintro e w11 ⟨X0, zs0, rfl, _, hfr, _, _, _, h⟩
  have HF0 := Lib.hid hfr
  have HP0 := Lib.hid h
  clear hfr h hb H1
  go_wp2_with fail
  go_at_call 23
  refine (ps_finish (KC := 0) (NC := 0) HP0.out (fun _ => rfl) (fun _ => rfl) HN.out (by decide) (by decide) (cg_nil (by decide)) (by rw [HF0.out.hb]; exact cG_cg) (by decide) (by decide) (fun _ => Int.le_refl _) (by decide) (by decide) HF0.out.hj (fresh_m8 HF0.out HN.out.2)).mono ?_
  rintro e w12 ⟨rfl, Y0, ys0, N0, ea, eok, erd, emk, _, _, eD, ej, _, _, _, h⟩
  have hC : aftC X0 [] = cG := by unfold aftC; rw [HF0.out.hdr, HF0.out.hb]; rfl
  have hR : aftR X0 0 = 0 := by unfold aftR; rw [HF0.out.hdr]; rfl
  rw [hC, hR] at h
  have HY0 := Lib.hid h
  have HE0 := Lib.hid (And.intro ea (And.intro eok (And.intro eD ej)))
  rw [← HE0.out.1]
  clear ea eok erd emk eD ej h hC hR HP0 HF0
  go_wp2_with fail
  go_at_call 17
  obtain ⟨o1, o2, _, _, _⟩ := HY0.out.over (updF_same _ _ _)
  refine (plok_any o1 o2).mono ?_
  rw [HE0.out.2.1, decide_eq_true HE0.out.2.2.1]
  rintro e w13 ⟨rfl, rfl⟩
  have hdd := HY0.out.drop (updF_same _ _ _) HE0.out.2.2.2
  rw [updF_none (f := fun _ => none) rfl] at hdd
  have H2 := Lib.hid hdd
  clear hdd o1 o2 HY0 HE0
  go_wp2_with fail
  go_at_call 9
  have hb : Below w12.heap.size w12 (w12.alloc (.cells #[.int .i64 0, .int .u64 5, .int .i64 1, .int .i64 1, .int .u64 5, .int .i64 y, .int .i64 2, .int .u64 5, .int .i64 1] 58)) := (Below.refl _ _).alloc (Nat.le_refl _) _
  refine (ps_put (k := 0) (H2.out.below hb) rfl HN.out (sl_three w12 y _ HY.out) (bG_cg HY.out)).mono ?_
  rintro e w21 ⟨X, zs1, rfl, _, hfr, _, _, _, h⟩
  have HFX := Lib.hid hfr
  have H3 := Lib.hid h
  clear hfr h hb H2
  go_wp2_with fail
  go_at_call 7
  refine (ps_drain (k := 1) H3.out rfl HN.out).mono ?_
  rintro e w22 ⟨Z, zs2, rfl, _, hfr, _, _, _, h⟩
  have HFZ := Lib.hid hfr
  have H4 := Lib.hid h
  clear hfr h H3
  go_wp2_with fail
  go_at_call 23
  refine (gb_finish HY.out HN.out (by decide) H4.out (by rw [updF_other (by decide), updF_same]) (fun k Y e => ?_) HFX.out).mono ?_
  · rcases updF_inv e with ⟨_, rfl⟩ | ⟨_, e⟩
    · exact HFZ.out.hj
    · rcases updF_inv e with ⟨_, rfl⟩ | ⟨_, e⟩
      · exact HFX.out.hj
      · cases e
  rintro e w23 ⟨rfl, A', zs3, M3, hpa, htd, hok, h⟩
  rw [upd_two] at h
  have HA := Lib.hid (And.intro hpa (And.intro htd hok))
  have H5 := Lib.hid h
  clear hpa htd hok h H4 HFX
  go_wp2_with fail
  go_at_call 17
  refine (plok_any HA.out.1 HA.out.2.1).mono ?_
  rw [HA.out.2.2]
  rintro e w24 ⟨rfl, rfl⟩
  clear HA
  go_wp2_with fail
  go_at_call 23
  refine (ps_finish (KC := 576460752303423488) (NC := 12) H5.out (fun _ => rfl) (fun _ => rfl) HN.out (by decide) (by decide) cG_cg (by rw [HFZ.out.hb]; exact cg_nil (by decide)) (by decide) (by decide) (fun e => by rw [HFZ.out.hdr] at e; cases e) (by decide) (by decide) HFZ.out.hj (fresh_m8 HFZ.out HN.out.2)).mono ?_
  rintro e w32 ⟨rfl, Y2, ys2, N2, ea, eok, erd, emk, eT, _, eD, ej, _, _, _, h⟩
  have hT := eT HFZ.out.hdr
  have HY2 := Lib.hid h
  have HE2 := Lib.hid (And.intro ea (And.intro eok (And.intro eD hT)))
  rw [← HE2.out.1]
  clear ea eok erd emk eT eD ej hT h H5 HFZ
  go_wp2_with fail
  go_at_call 20
  obtain ⟨o1, o2, o3, _, _⟩ := HY2.out.over (updF_same _ _ _)
  rw [HE2.out.2.2.2] at o3
  refine (plbatch_any o1 o2 o3 HE2.out.2.1 HE2.out.2.2.1 (by decide)).mono ?_
  rintro e w33 ⟨v1, rfl, ho, hb⟩
  rcases ho.form with ⟨hx, _⟩ | ⟨g1, cap1, rfl, _⟩
  · cases hx
  replace HY2 := Lib.hid (HY2.out.below hb)
  clear o1 o2 o3 ho hb
  go_wp2_with fail
  go_at_call 20
  obtain ⟨o1, o2, o3, _, _⟩ := HY2.out.over (updF_same _ _ _)
  rw [HE2.out.2.2.2] at o3
  refine (plbatch_any o1 o2 o3 HE2.out.2.1 HE2.out.2.2.1 (by decide)).mono ?_
  rintro e w34 ⟨v2, rfl, ho, hb⟩
  rcases ho.form with ⟨hx, _⟩ | ⟨g2, cap2, rfl, _⟩
  · cases hx
  obtain ⟨_, _, d2⟩ := ho.at (i := 0) (x := ⟨1, 5, 576460752303423488⟩) rfl
  simp only [Nat.zero_mul, Nat.zero_add] at d2
  replace HY2 := Lib.hid (HY2.out.below hb)
  clear o1 o2 o3 ho hb
  go_wp2_with fail
  go_ret
  exact ⟨rfl, HY2.out.kept⟩
end Go.Proofs.Ytmggnalobfihnaa.PlB
namespace Go.Proofs.Ytmggnalobfihnaa.Pl
open Go.RowKit
theorem poolGreat_any (x d : Int) (hd : -9223372036854775808 ≤ d ∧ d ≤ 9223372036854775807) (w : World) :
    Calls Try.prog 4 #[.int .i64 x, .int .i64 d] w fun e w' => e = .returned (.bool true) ∧ Below w.heap.size w w' := PlB.great_any x d hd w
end Go.Proofs.Ytmggnalobfihnaa.Pl
namespace Go.Proofs.Ytmggnalobfihnaa.Batch
open Go.ChangeShapes Go.WideShapes Go.ChangeAt Go.Deep Go.RowKit
set_option linter.unusedVariables false

section
variable {H : Type} {enc : TypeId × Value → H} {P : Program} {w : World} {base : Nat} {spare : Nat → Bool} {held : Bool}
theorem open_slice_fields {t e : TypeId} {fs : Array Field} {fuel : Nat} {cs : List Value} {x : DataW H × List MemPlace} (ht : P.underlying t = some (.slice e)) (he : P.underlying e = some (.struct fs))
    (hone : oneCellFields P fs = true) (hC : P.cellsOf e = fs.size) (h : DataW.trod enc P w base spare held fuel t cs = some x) :
    (cs = [.slice none 0 0] ∧ x = (.nil, [])) ∨
    ∃ (a : Addr) (len cap m : Nat) (D : Nat → DataW H) (Pl : Nat → List MemPlace), cs = [.slice (some a) len cap] ∧ base ≤ a.block ∧ len ≤ cap ∧ cap ≤ maxLen ∧ m = (if spare a.block then cap else len) ∧
      x = (.slice ((List.range len).map D) ((List.range (m - len)).map fun j => D (len + j)), MemPlace.row a (m * fs.size) ++ (List.range m).flatMap Pl) ∧
      ∀ i, i < m → ∃ (ys : List (DataW H × List MemPlace)) (n : Nat), D i = .agg (ys.map (·.1)) ∧ Pl i = ys.flatMap (·.2) ∧ ys.length = fs.size ∧
        ∀ (j : Nat) (f : Field), fs[j]? = some f → ∃ (v : Value) (y : DataW H × List MemPlace), w.cell? (a.add (i * fs.size + j)) = some v ∧ ys[j]? = some y ∧ DataW.trod enc P w base spare held n f.type [v] = some y := by
  rcases open_slice ht h with h0 | ⟨a, len, cap, m, n, D, Pl, hcs, hb, hl, hm, hmm, hx, hi⟩
  · exact .inl h0
  · refine .inr ⟨a, len, cap, m, D, Pl, hcs, hb, hl, hm, hmm, by rw [hC] at hx; exact hx, fun i him => ?_⟩
    obtain ⟨cs', hc, ht'⟩ := hi i him
    rw [hC] at hc
    obtain ⟨ys, n', hn', hy, hlen, hyl, hf⟩ := DataW.trod_struct he ht'
    obtain ⟨_, hcl, hat⟩ := World.cells?_some hc
    simp only [Prod.mk.injEq] at hy
    refine ⟨ys, n', hy.1, hy.2, hyl, fun j f hj => ?_⟩
    obtain ⟨ho, hk⟩ := hone_of hone j f hj
    have hjl : j < fs.size := (Array.getElem?_eq_some_iff.1 hj).1
    have hcell := hat j hjl
    have hv : cs'[j]? = some (cs'[j]'(by omega)) := List.getElem?_eq_getElem (by omega)
    have h1 := hf j f hj
    rw [ho, hk] at h1
    have hone' : (cs'.drop j).take 1 = [cs'[j]'(by omega)] := by
      rw [List.drop_eq_getElem_cons (by omega)]
      rfl
    rw [hone'] at h1
    have hys : ys[j]? = some (ys[j]'(by omega)) := List.getElem?_eq_getElem (by omega)
    refine ⟨_, _, ?_, hys, h1.trans hys⟩
    rw [← Go.Deep.add_add, hcell, hv]
end

theorem laidOut : laidOutB Try.prog = true := by kernel_rfl
theorem list_of {α : Type} (len : Nat) (Q : Nat → α → Prop) (h : ∀ i : Nat, i < len → ∃ x, Q i x) : ∃ l : List α, l.length = len ∧ ∀ i x, l[i]? = some x → Q i x := by
  induction len with
  | zero => exact ⟨[], rfl, by intro i x h; simp at h⟩
  | succ k ih =>
    obtain ⟨l, h1, h2⟩ := ih (fun i hi => h i (by omega))
    obtain ⟨x, hx⟩ := h k (by omega)
    refine ⟨l ++ [x], by simp [h1], fun i y hy => ?_⟩
    by_cases hik : i < l.length
    · rw [List.getElem?_append_left hik] at hy
      exact h2 i y hy
    · rw [List.getElem?_append_right (by omega)] at hy
      have hi0 : i - l.length = 0 := by
        rcases Nat.eq_zero_or_pos (i - l.length) with h0 | h0
        · exact h0
        · rw [List.getElem?_eq_none (by simp; omega)] at hy; cases hy
      rw [hi0] at hy
      obtain rfl : x = y := by simpa using hy
      have : i = k := by omega
      subst this
      exact hx
theorem add_plain' (b o j : Nat) : ((⟨b, o, none⟩ : Addr).add j) = ⟨b, o + j, none⟩ := by unfold Addr.add; split <;> simp_all
theorem own : ownKnob Try.prog.godebug = none := by kernel_rfl
theorem bounds_u64 {n : Int} (h : (Lit.int .u64 n).wf = true) : 0 ≤ n ∧ n ≤ 18446744073709551615 := by
  have h1 : IntKind.u64.min = 0 := rfl
  have h2 : IntKind.u64.max = 18446744073709551615 := rfl
  simp only [Lit.wf, Bool.and_eq_true, decide_eq_true_eq, h1, h2] at h
  exact h
theorem rd_of {H : Type} {enc : TypeId × Value → H} {w : World} {fuel : Nat} {ao : Option Addr} {len cap : Nat} {d : DataW H} {p : List MemPlace}
    (h : DataW.trod enc Try.prog w 0 (fun _ => true) true fuel 32 [.slice ao len cap] = some (d, p)) : ∃ l, Rd w (.slice ao len cap) l := by
  rcases open_slice_fields Try.underlying32 Try.underlying78 (by kernel_rfl) (by kernel_rfl) h with ⟨hcs, _⟩ | ⟨a, len', cap', m, D, Plc, hcs, _, hl, hm, hmm, _, hi⟩
  · simp at hcs
    obtain ⟨rfl, rfl, rfl⟩ := hcs
    exact ⟨[], none, 0, rfl, by simp, by simp, by simp, .inl rfl⟩
  · simp at hcs
    obtain ⟨rfl, rfl, rfl⟩ := hcs
    have hsome : ∀ i : Nat, i < len → ∃ x : Ch, (w.cell? (a.add (i * 3)) = some (.int .i64 x.p) ∧ w.cell? (a.add (i * 3 + 1)) = some (.int .u64 x.t) ∧ w.cell? (a.add (i * 3 + 2)) = some (.int .i64 x.d)) ∧ x.Wf := by
      intro i hil
      obtain ⟨ys, k, _, _, hys, hf⟩ := hi i (by rw [hmm]; simp; omega)
      obtain ⟨v0, y0, hc0, _, ht0⟩ := hf 0 _ rfl
      obtain ⟨v1, y1, hc1, _, ht1⟩ := hf 1 _ rfl
      obtain ⟨v2, y2, hc2, _, ht2⟩ := hf 2 _ rfl
      obtain ⟨n0, e0, _, w0⟩ := DataW.trod_int Try.underlying3 ht0
      obtain ⟨n1, e1, _, w1⟩ := DataW.trod_int Try.underlying24 ht1
      obtain ⟨n2, e2, _, w2⟩ := DataW.trod_int Try.underlying2 ht2
      simp at e0 e1 e2
      subst e0 e1 e2
      have b0 := bounds_i64 w0
      have b1 := bounds_u64 w1
      have b2 := bounds_i64 w2
      exact ⟨⟨n0, n1, n2⟩, ⟨hc0, hc1, hc2⟩, b0.1, b0.2, b1.1, b1.2, b2.1, b2.2⟩
    have hcap : cap ≤ 9223372036854775807 := by unfold maxLen at hm; omega
    obtain ⟨l, hl1, hl2⟩ := list_of len _ hsome
    subst hl1
    refine ⟨l, some a, cap, rfl, hl, hcap, fun x hx => ?_, ?_⟩
    · obtain ⟨i, hi⟩ := List.mem_iff_getElem?.1 hx
      exact (hl2 i x hi).2
    · by_cases h0 : l = []
      · exact .inl h0
      · have hpos : 0 < l.length := List.length_pos_iff.2 h0
        have h00 := (hl2 0 l[0] (List.getElem?_eq_getElem hpos)).1.1
        obtain ⟨b, off, spot⟩ := a
        have hspot : spot = none := by simpa [Addr.add] using World.cell?_spot h00
        subst hspot
        refine .inr ⟨b, off, rfl, fun i x hx => ?_⟩
        obtain ⟨⟨q0, q1, q2⟩, _⟩ := hl2 i x hx
        rw [add_plain'] at q0 q1 q2
        exact ⟨q0, by rw [Nat.add_assoc]; exact q1, by rw [Nat.add_assoc]; exact q2⟩
end Go.Proofs.Ytmggnalobfihnaa.Batch
namespace Go.Proofs.Ytmggnalobfihnaa.Pk
open Go.ChangeShapes Go.WideShapes Go.ChangeAt Go.Deep Go.RowKit Rw
set_option linter.unusedVariables false

theorem bounds_i64P {n : Int} (h : (Lit.int .i64 n).wf = true) : -9223372036854775808 ≤ n ∧ n ≤ 9223372036854775807 := by
  have h1 : IntKind.i64.min = -9223372036854775808 := rfl
  have h2 : IntKind.i64.max = 9223372036854775807 := rfl
  simp only [Lit.wf, Bool.and_eq_true, decide_eq_true_eq, h1, h2] at h
  exact h
theorem rri_of {H : Type} {enc : TypeId × Value → H} {w : World} {fuel : Nat} {v : Value} {d : DataW H} {p : List MemPlace}
    (h : DataW.trod enc Try.prog w 0 (fun _ => true) true fuel 23 [v] = some (d, p)) : ∃ l, Rr intK w v l := by
  rcases open_ints Try.underlying23 Try.underlying3 (by kernel_rfl) h with ⟨hcs, _⟩ | ⟨a, len, cap, zs, hcs, _, hl, hm, hz, _, hcell, hwf⟩
  · simp at hcs
    subst hcs
    exact ⟨[], none, 0, rfl, .inl rfl, by simp, by simp, by simp⟩
  · simp at hcs
    subst hcs
    have hcap : cap ≤ 9223372036854775807 := by unfold maxLen at hm; omega
    have hz' : zs.length = cap := by simpa using hz
    refine ⟨zs.take len, rr_of (by decide) (by rw [List.length_take]; omega) hl hcap (fun x hx => bounds_i64P (hwf x (List.mem_of_mem_take hx))) fun i x hx c u hc hu => ?_⟩
    obtain rfl : c = 0 := by have : c < 1 := hc; omega
    have hu' : u = .int .i64 x := by
      have : [Value.int IntKind.i64 x][0]? = some u := hu
      simpa using this.symm
    subst hu'
    have hi : i < len := by have := (List.getElem?_eq_some_iff.1 hx).1; rw [List.length_take] at this; omega
    rw [List.getElem?_take_of_lt hi] at hx
    have := hcell i (by omega)
    rw [List.getD_eq_getElem?_getD, hx] at this
    rw [show i * intK.k + 0 = i from Nat.mul_one i]
    exact this
section
variable {H : Type} {enc : TypeId × Value → H} {P : Program} {w : World} {base : Nat} {spare : Nat → Bool} {held : Bool}
theorem trod_array2 {t e : TypeId} {fuel : Nat} {c0 c1 : Value} {x : DataW H × List MemPlace} (ht : P.underlying t = some (.array 2 e)) (hce : P.cellsOf e = 1)
    (h : DataW.trod enc P w base spare held fuel t [c0, c1] = some x) :
    ∃ y0 y1 n, x = (.agg [y0.1, y1.1], y0.2 ++ y1.2) ∧ DataW.trod enc P w base spare held n e [c0] = some y0 ∧ DataW.trod enc P w base spare held n e [c1] = some y1 := by
  cases fuel with
  | zero => simp [DataW.trod] at h
  | succ n =>
    unfold DataW.trod at h
    rw [ht] at h
    have r2 : List.range 2 = [0, 1] := rfl
    simp [r2, hce] at h
    obtain ⟨_, h⟩ := h
    cases h0 : DataW.trod enc P w base spare held n e [c0] with
    | none => simp [h0] at h
    | some y0 =>
      cases h1 : DataW.trod enc P w base spare held n e [c1] with
      | none => simp [h0, h1] at h
      | some y1 =>
        simp [h0, h1] at h
        exact ⟨y0, y1, n, h.symm, h0, h1⟩
end
theorem cells_one : Try.prog.cellsOf 3 = 1 := by kernel_rfl
end Go.Proofs.Ytmggnalobfihnaa.Pk
