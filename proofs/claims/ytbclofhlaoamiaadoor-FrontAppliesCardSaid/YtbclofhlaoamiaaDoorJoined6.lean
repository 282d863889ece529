/-
  PACKAGE marchlandref04: Fix.
  FOR THE LAWS OF PACKAGE marchlandlaw06: what they share.
  PACKAGE front: a Reach that isn't there; a Graph that may not be.
-/
import Derived.Test.YtbclofhlaoamiaaDoorBagMath
import Derived.Test.YtbclofhlaoamiaaDoorJoined4
import Derived.Test.YtbclofhlaoamiaaDoorBatchSums
import Derived.Test.YtbclofhlaoamiaaDoorFrTold
import Derived.Test.YtbclofhlaoamiaaDoorBatchTo
import Derived.Test.YtbclofhlaoamiaaDoorFrReach
namespace Go.Proofs.YtbclofhlaoamiaaDoor.Batch
open Go.RowKit Go.Lib
set_option linter.unusedVariables false

theorem fixB_wrap (p t d : Int) : fixB ⟨p, t, d⟩ = ⟨p, t, wrap64 (1 + wrap64 ((IntKind.u64.wrap d).tmod 5))⟩ := by
  have h := fixB_d ⟨p, t, d⟩
  rw [fixB_mk] at *
  simp only at h
  rw [wrap64_wr, wrap64_wr, ← wr_i64 ((IntKind.u64.wrap d).tmod 5), wr_id (by omega) (by omega)]

end Go.Proofs.YtbclofhlaoamiaaDoor.Batch
namespace Go.Proofs.YtbclofhlaoamiaaDoor.Fr
open Go.RowKit Go.Deep Gr
set_option linter.unusedVariables false

theorem formE {w : World} {base : Nat} {T : TypeId} {v : Value} {l : List Ed} (h : Own w base T v l) : ∃ ao cap, v = .slice ao l.length cap := by
  rcases h.2 with ⟨h, h0⟩ | ⟨g, cap, cur, h, _⟩
  · exact ⟨none, 0, by rw [h, h0]⟩
  · exact ⟨_, _, h⟩
theorem inlenF {n : Nat} {E : List Ed} {I : List Int} (h : GOk n E I) : I.length ≤ 8 := by
  by_cases h8 : I.length ≤ 8
  · exact h8
  · have hc := h.chk
    unfold chkV at hc
    rw [if_neg (by have := h.n0; have := h.n1; omega), if_neg (by have := h.len; omega)] at hc
    by_cases he : (edgesV (n : Int) 0 E).2 ≠ 0
    · rw [if_pos he] at hc
      rw [hc] at he
      exact absurd rfl he
    · rw [if_neg he, if_pos (.inr (by omega))] at hc
      simp at hc
theorem FrontU.congr {B : List Batch.Ch} {M M' : Nat → Nat → Int} {n p : Nat} {v : Int} (hp : p < n) (he : ∀ i j, i < n → j < n → M i j = M' i j) (h : FrontU B M n p v) : FrontU B M' n p v := by
  refine ⟨h.1, fun x hx h0 h1 => ?_, ?_⟩
  · rw [← he _ _ (by omega) hp]; exact h.2.1 x hx h0 h1
  · rcases h.2.2 with e | ⟨x, hx, h0, h1, e⟩
    · exact .inl e
    · exact .inr ⟨x, hx, h0, h1, by rw [← he _ _ (by omega) hp]; exact e⟩
theorem front_bd {B : List Batch.Ch} {M : Nat → Nat → Int} {n p : Nat} (hw : ∀ x ∈ B, x.Wf) : ∀ x ∈ B, 0 ≤ x.p → x.p < n → plusN x.t (M x.p.toNat p) ≤ 18446744073709551615 := fun x hx _ _ => (plusN_le (hw x hx).t1).1
theorem front_same {B : List Batch.Ch} {M M2 : Nat → Nat → Int} {n : Nat} {F : Nat → Int} {l : List Int} {E : List Ed} (hw : ∀ x ∈ B, x.Wf) (hfr : ∀ p, p < n → FrontU B M n p (F p)) (hll : l.length = n) (hfl : ∀ p x, l[p]? = some x → FrontU B M2 n p x)
    (h1 : LeastM E true n M) (h2 : LeastM E true n M2) : (List.range n).map F = l := by
  apply List.ext_getElem?
  intro i
  by_cases hi : i < n
  · have hx : l[i]? = some l[i] := List.getElem?_eq_getElem (by omega)
    rw [List.getElem?_map, List.getElem?_range hi, hx]
    show some (F i) = some l[i]
    rw [FrontU.one (front_bd hw) ((hfr i hi).congr hi (h1.one h2)) (hfl i _ hx)]
  · rw [List.getElem?_eq_none (by simp; omega), List.getElem?_eq_none (by omega)]
end Go.Proofs.YtbclofhlaoamiaaDoor.Fr
namespace Go.Proofs.YtbclofhlaoamiaaDoor.Fr
open Go.RowKit Go.Deep Gr
set_option linter.unusedVariables false
set_option linter.unusedSimpArgs false

set_option maxRecDepth 1000000 in
set_option maxHeartbeats 4000000 in
theorem rapply_nil (w : World) (vc : Value) : Calls Tryd.prog 11 #[.pointer none, vc] w fun e w' => e = .returned (.int .i64 1) ∧ Below w.heap.size w w' := by
  go_enter Tryd.func11, Tryd.ntmps11
  go_wp2_with fail
  go_ret
  exact ⟨rfl, Below.refl _ _⟩
set_option maxRecDepth 1000000 in
set_option maxHeartbeats 4000000 in
theorem rbag_nil (w : World) : Calls Tryd.prog 15 #[.pointer none] w fun e w' => e = .returned (.slice none 0 0) ∧ Below w.heap.size w w' := by
  go_enter Tryd.func15, Tryd.ntmps15
  go_wp2_with fail
  go_ret
  exact ⟨rfl, Below.refl _ _⟩
set_option maxRecDepth 1000000 in
set_option maxHeartbeats 4000000 in
theorem fronts_nil (w : World) : Calls Tryd.prog 17 #[.pointer none] w fun e w' => e = .returned (.slice none 0 0) ∧ Below w.heap.size w w' := by
  go_enter Tryd.func17, Tryd.ntmps17
  go_wp2_with fail
  go_ret
  exact ⟨rfl, Below.refl _ _⟩
set_option maxRecDepth 1000000 in
set_option maxHeartbeats 4000000 in
theorem newbad_any {w : World} {ve vi : Value} {E : List Ed} {I : List Int} (n : Int) (hv : Rd w ve E) (hi : RdI w vi I) (hg : (chkV n E I).2 ≠ 0) :
    Calls Tryd.prog 5 #[.agg #[.int .i64 n, ve, vi]] w fun e w' => ∃ v, e = .returned (.tuple #[.pointer none, v]) ∧ ErrIs w' v (chkV n E I) ∧ Below w.heap.size w w' := by
  obtain ⟨w0, hw0⟩ : ∃ w0, w0 = w.alloc (.cells #[.int .i64 n, ve, vi] 35) := ⟨_, rfl⟩
  have hb0 : Below w.heap.size w w0 := by rw [hw0]; exact (Below.refl _ _).alloc (Nat.le_refl _) _
  have HV := Lib.hid (hv.below hb0)
  have HI := Lib.hid (hi.below hb0)
  have HG := Lib.hid hg
  have HB := Lib.hid hb0
  obtain ⟨ao, cap, hve⟩ : ∃ ao cap, ve = .slice ao E.length cap := by obtain ⟨ao, cap, h, _⟩ := hv; exact ⟨ao, cap, h⟩
  obtain ⟨aoi, capi, hvi⟩ : ∃ ao cap, vi = .slice ao I.length cap := by obtain ⟨ao, cap, h, _⟩ := hi; exact ⟨ao, cap, h⟩
  subst hve hvi
  clear hv hi hg hb0
  go_enter Tryd.func5, Tryd.ntmps5
  go_wp2_with fail
  go_at_call 20
  rw [← hw0]
  clear hw0
  refine (check_any n HV.out HI.out).mono ?_
  rintro e w1 ⟨v1, rfl, her, hb⟩
  have hif : ∃ u x, v1 = .iface u x := by
    rcases her with ⟨h, _⟩ | ⟨_, _, h⟩
    · exact absurd h HG.out
    · exact h
  obtain ⟨u, x, rfl⟩ := hif
  have HER := Lib.hid her
  replace HB := Lib.hid (HB.out.trans (hb.mono HB.out.size))
  clear her hb
  go_wp2_with fail
  exact bodyPost_ret (v := .tuple #[.pointer none, .iface u x]) (by simp [results, Tryd.results5, go_sem]) rfl ⟨_, rfl, HER.out, HB.out⟩
end Go.Proofs.YtbclofhlaoamiaaDoor.Fr
