/-
  PACKAGE marchlandlaw06: told.
-/
import Derived.Test.YtbclofhlaoamiaaDoorFrReach
import Derived.Test.YtbclofhlaoamiaaDoorGFix
import Derived.Test.YtbclofhlaoamiaaDoorJoined5
namespace Go.Proofs.YtbclofhlaoamiaaDoor.Fr
open Go.RowKit Go.Deep Gr
set_option linter.unusedVariables false
set_option linter.unusedSimpArgs false

theorem front_one {x : Batch.Ch} {M : Nat → Nat → Int} {n p : Nat} {v : Int} (h : FrontU [x] M n p v) (h0 : 0 ≤ x.p) (h1 : x.p < n) (hle : plusN x.t (M x.p.toNat p) ≤ 18446744073709551615) : v = plusN x.t (M x.p.toNat p) := by
  have h2 := h.2.1 x (by simp) h0 h1
  rcases h.2.2 with e | ⟨y, hy, _, _, e⟩
  · omega
  · simp at hy; subst hy; exact e
theorem Rch.stored {w w1 : World} {base b n : Nat} {M : Nat → Nat → Int} {vb u : Value} {B L : List Batch.Ch} (h : Rch w base b n M vb B) (hb : Below w.heap.size w w1) (ho : Batch.Own w1 w.heap.size 68 u L) (hw : ∀ x ∈ L, x.Wf) :
    Rch (w1.setCell ⟨b, 1, none⟩ u) base b n M u L ∧ Below base w (w1.setCell ⟨b, 1, none⟩ u) := by
  have hbw : b < w.heap.size := by obtain ⟨⟨g, r, hx, _⟩, _, _⟩ := h; exact (Array.getElem?_eq_some_iff.1 hx).1
  have hbl : base ≤ w.heap.size := Nat.le_trans h.lo (Nat.le_of_lt hbw)
  refine ⟨?_, (hb.mono hbl).setCell h.lo u⟩
  obtain ⟨⟨g, r, hx, hm, hg, hr⟩, hl, hs⟩ := h.below hb
  refine ⟨⟨g, r, ?_, ?_, hg, hr⟩, hl, ?_⟩
  · have := heap_setCell_same w1 b 1 _ _ u hx
    simpa using this
  · exact ⟨hm.top.setOther (by show g ≠ b; omega) _, fun i hi => (hm.row i hi).setOther (by have := hr i hi; show r i ≠ b; omega) _, hm.inj, hm.far, hm.lo, hm.los⟩
  · have h2 : Batch.Own (w1.setCell ⟨b, 1, none⟩ u) w.heap.size 68 u L := ownsRow_setCell_other ho (fun e => by have := (World.ownsRow.lt ho _ e).1; simp at this; omega) u
    exact h2.sl hw
theorem Rch.drew {w : World} {base b n : Nat} {M : Nat → Nat → Int} {vb : Value} {B : List Batch.Ch} (h : Rch w base b n M vb B) : Rch w.drew base b n M vb B := h.below ((Below.refl _ _).drew)

/-! the document's own little graph -/
def TG : List Ed := [⟨0, 1, 3⟩]
theorem tg_wf : ∀ x ∈ TG, x.Wf := by
  intro x hx
  unfold TG at hx
  simp at hx
  subst hx
  exact ⟨by decide, by decide, by decide, by decide, by decide, by decide⟩
theorem tg_fits : Fits TG 2 := by
  intro x hx
  unfold TG at hx
  simp at hx
  subst hx
  exact ⟨by decide, by decide, by decide, by decide, by decide, by decide⟩
theorem zeroF_ok (n : Int) (h : 1 ≤ n) : InOk n [0] ([0] : List Int).length := InOk.snoc (l := []) (fun j p hj => absurd hj (by simp)) ⟨Int.le_refl _, by omega⟩ (by simp)
theorem tg_rise : ∀ e ∈ TG, e.f < e.t ∨ 1 ≤ e.a := by
  intro x hx
  unfold TG at hx
  simp at hx
  subst hx
  decide
theorem tg_ok : GOk 2 TG [0] :=
  ⟨by decide, by decide, by decide, tg_fits, chkV_ok (by decide) (by decide) (by decide) tg_fits (by simp) (by decide) (zeroF_ok _ (by decide)) (no_round (fun e he => (tg_fits e he).2.2.2.2.1) tg_rise)⟩
theorem tg_paths {M : Nat → Nat → Int} (h : LeastM TG true 2 M) : M 0 0 = 0 ∧ M 0 1 = 3 := by
  have h00 := h 0 0 (by decide) (by decide)
  have h01 := h 0 1 (by decide) (by decide)
  have e0 : (⟨0, 1, 3⟩ : Ed) ∈ TG := by unfold TG; simp
  have a1 := h01.2 [⟨0, 1, 3⟩] (Way.edge (z := true) e0)
  refine ⟨h00.one (least_here tg_fits 0), ?_⟩
  have a2 : cost [(⟨0, 1, 3⟩ : Ed)] = 3 := rfl
  rw [a2] at a1
  rcases h01.1.2 with e | ⟨es, hw, hc⟩
  · omega
  · cases es with
    | nil =>
      have := hw.1
      exact absurd this (by show ¬ ((0 : Nat) : Int) = ((1 : Nat) : Int); decide)
    | cons x r =>
      obtain ⟨hm, _, hr⟩ := hw.1
      have h2 := cost_nonneg tg_fits (chn_mem hr)
      unfold TG at hm
      simp at hm
      subst hm
      unfold cost at hc
      dsimp only at hc
      omega
theorem m_bd {E : List Ed} {n : Nat} {M : Nat → Nat → Int} (h : LeastM E true n M) : ∀ i j, i < n → j < n → 0 ≤ M i j ∧ M i j ≤ 18446744073709551615 := fun i j hi hj => (h i j hi hj).1.1
def TB : List Batch.Ch := [⟨0, 5, 1⟩]
def TC : List Batch.Ch := [⟨2, 0, 1⟩]
theorem tb_wf : ∀ x ∈ TB, x.Wf := by
  intro x hx
  unfold TB at hx
  simp at hx
  subst hx
  exact Batch.wf_small ⟨by decide, by decide⟩ ⟨by decide, by decide⟩ ⟨by decide, by decide⟩
theorem tc_wf : ∀ x ∈ TC, x.Wf := by
  intro x hx
  unfold TC at hx
  simp at hx
  subst hx
  exact Batch.wf_small ⟨by decide, by decide⟩ ⟨by decide, by decide⟩ ⟨by decide, by decide⟩
theorem tb_right : Batch.RightP TB := Batch.one_right (by decide) (by decide)
theorem tc_right : Batch.RightP TC := Batch.one_right (by decide) (by decide)
theorem nil_right : Batch.RightP [] := ⟨fun x h => by simp at h, by simp⟩
theorem tb_app : Batch.applyE [] TB = 0 ∧ Batch.applyR [] TB = TB := ⟨by kernel_rfl, by kernel_rfl⟩
theorem f_tb : applyF 2 [] TB = 0 := (applyF_ok (Batch.rightB_true tb_right) (fun x hx => by unfold TB at hx; simp at hx; subst hx; decide)).trans tb_app.1
theorem f_tc : applyF 2 TB TC = 2 := applyF_port (x := ⟨2, 0, 1⟩) (Batch.rightB_true tc_right) (by unfold TC; simp) (by decide)
theorem rdu_two {w : World} {T : TypeId} (a b : Int) : RdU (w.alloc (.cells #[.int .u64 a, .int .u64 b] T)) (.slice (some ⟨w.heap.size, 0, none⟩) 2 2) [a, b] := by
  refine ⟨_, _, rfl, by simp, .inr ⟨w.heap.size, 0, rfl, fun i x hx => ?_⟩⟩
  obtain ⟨q0, q1, _⟩ := two_cells (heap_alloc_new w (.cells #[.int .u64 a, .int .u64 b] T))
  match i, hx with
  | 0, hx => simp at hx; subst hx; exact q0
  | 1, hx => simp at hx; subst hx; exact q1
  | i + 2, hx => simp at hx
set_option maxRecDepth 1000000 in
set_option maxHeartbeats 8000000 in
theorem frtold_any (w : World) : Calls Tryd.prog 7 #[] w fun e w' => e = .returned (.bool true) ∧ Below w.heap.size w w' := by
  obtain ⟨W1, hW1⟩ : ∃ W1, W1 = (w.alloc (.cells #[.int .i64 0, .int .i64 1, .int .u64 3] 67)).alloc (.cells #[.int .i64 0] 3) := ⟨_, rfl⟩
  have hb1 : Below w.heap.size w W1 := by rw [hW1]; exact ((Below.refl _ _).alloc (Nat.le_refl _) _).alloc (by simp) _
  have s1 : (w.alloc (.cells #[.int .i64 0, .int .i64 1, .int .u64 3] 67)).heap.size = w.heap.size + 1 := by simp
  have hrd : Rd W1 (.slice (some ⟨w.heap.size, 0, none⟩) 1 1) TG := by
    rw [hW1]
    refine Rd.below (w := w.alloc (.cells #[.int .i64 0, .int .i64 1, .int .u64 3] 67)) ?_ ((Below.refl _ _).alloc (Nat.le_refl _) _)
    refine ⟨_, _, rfl, Nat.le_refl _, by decide, tg_wf, .inr ⟨w.heap.size, 0, rfl, fun i x hx => ?_⟩⟩
    have h := heap_alloc_new w (.cells #[.int .i64 0, .int .i64 1, .int .u64 3] 67)
    have hi : i = 0 := by have := (List.getElem?_eq_some_iff.1 hx).1; simp [TG] at this; exact this
    subst hi
    simp [TG] at hx
    subst hx
    obtain ⟨q0, q1, q2, _⟩ := three_cells h
    exact ⟨q0, q1, q2⟩
  have hri : RdI W1 (.slice (some ⟨w.heap.size + 1, 0, none⟩) 1 1) [0] := by
    have h := (own1 (w := w.alloc (.cells #[.int .i64 0, .int .i64 1, .int .u64 3] 67)) (base := 0) (T := 3) 0 (Nat.zero_le _)).rd (by intro x hx; simp at hx; subst hx; decide)
    rw [hW1]
    rwa [s1] at h
  have HB := Lib.hid hb1
  have HRD := Lib.hid hrd
  have HBW1 := Lib.hid hb1
  have HRI := Lib.hid hri
  have HU := Lib.hid (show TB.length = 1 ∧ TC.length = 1 from ⟨rfl, rfl⟩)
  have hpp := reachnew_any HRD.out HRI.out tg_ok
  clear hb1 hrd hri s1
  go_enter Tryd.func7, Tryd.ntmps7
  go_wp2_with fail
  go_at_call 5
  rw [← hW1]
  clear hW1
  refine hpp.mono ?_
  rintro e w2 ⟨b, M, rfl, hr, hl, hb⟩
  have HR := Lib.hid hr
  have HL := Lib.hid hl
  replace HB := Lib.hid (HB.out.trans (hb.mono HB.out.size))
  clear hr hl hb hpp HRD HRI
  go_wp2_with fail
  obtain ⟨w3, hw3⟩ : ∃ w3, w3 = w2.alloc (.cells #[.int .i64 0, .int .u64 5, .int .i64 1] 68) := ⟨_, rfl⟩
  have hb3 : Below w2.heap.size w2 w3 := by rw [hw3]; exact (Below.refl _ _).alloc (Nat.le_refl _) _
  have hs3 : Batch.Sl w3 (.slice (some ⟨w2.heap.size, 0, none⟩) 1 1) TB := by rw [hw3]; exact Batch.sl_new w2 TB 68 tb_wf (by decide)
  replace HR := Lib.hid (HR.out.below hb3)
  replace HB := Lib.hid (HB.out.trans (hb3.mono HB.out.size))
  go_at_call 11
  rw [← hw3]
  clear hw3 hb3
  refine (rapply_any HR.out nil_right hs3 (by decide)).mono ?_
  rintro e w4 ⟨w5, u, hb5, rfl, hcase⟩
  rw [f_tb] at hcase ⊢
  rcases hcase with ⟨h, _⟩ | ⟨_, hown, rfl⟩
  · exact absurd rfl h
  rw [tb_app.2] at hown
  obtain ⟨hr5, hb6⟩ := HR.out.stored hb5 hown tb_wf
  have hbase : w.heap.size ≤ W1.heap.size := HBW1.out.size
  replace HB := Lib.hid (HB.out.trans (hb6.mono hbase))
  replace HR := Lib.hid hr5
  generalize w5.setCell ⟨b, 1, none⟩ u = w6 at HB HR ⊢
  clear hs3 hb5 hown hr5 hb6
  go_wp2_with fail
  go_at_call 17
  refine (fronts_any HR.out (m_bd HL.out) tb_right.2 (by decide) (by decide) (by decide)).mono ?_
  rintro e w7 ⟨g, F, rfl, hg, hrow, hfr, hb⟩
  have hF0 : F 0 = 5 := by
    have h := front_one (x := ⟨0, 5, 1⟩) (hfr 0 (by decide)) (by decide) (by decide) (by show plusN 5 (M 0 0) ≤ _; rw [(tg_paths HL.out).1]; decide)
    rw [h]
    show plusN 5 (M 0 0) = 5
    rw [(tg_paths HL.out).1]; decide
  have hF1 : F 1 = 8 := by
    have h := front_one (x := ⟨0, 5, 1⟩) (hfr 1 (by decide)) (by decide) (by decide) (by show plusN 5 (M 0 1) ≤ _; rw [(tg_paths HL.out).2]; decide)
    rw [h]
    show plusN 5 (M 0 1) = 8
    rw [(tg_paths HL.out).2]; decide
  have hru := rdu_row hrow (by decide)
  rw [show (List.range 2).map F = [5, 8] by simp [List.range, List.range.loop, hF0, hF1]] at hru
  have HRU := Lib.hid hru
  replace HR := Lib.hid (HR.out.below hb)
  replace HB := Lib.hid (HB.out.trans (hb.mono HB.out.size))
  clear hg hrow hfr hb hF0 hF1 hru
  go_wp2_with fail
  obtain ⟨w8, hw8⟩ : ∃ w8, w8 = w7.alloc (.cells #[.int .u64 5, .int .u64 8] 42) := ⟨_, rfl⟩
  have hb8 : Below w7.heap.size w7 w8 := by rw [hw8]; exact (Below.refl _ _).alloc (Nat.le_refl _) _
  have hr8 : RdU w8 (.slice (some ⟨w7.heap.size, 0, none⟩) 2 2) [5, 8] := by rw [hw8]; exact rdu_two 5 8
  replace HR := Lib.hid (HR.out.below hb8)
  replace HRU := Lib.hid (HRU.out.below hb8)
  replace HB := Lib.hid (HB.out.trans (hb8.mono HB.out.size))
  go_at_call 16
  rw [← hw8]
  clear hw8 hb8
  refine (frsame_any HRU.out hr8).mono ?_
  rintro e w9 ⟨rfl, hb⟩
  replace HR := Lib.hid (HR.out.below hb)
  replace HB := Lib.hid (HB.out.trans (hb.mono HB.out.size))
  clear hb hr8 HRU
  go_wp2_with fail
  go_at_call 15
  refine (rbag_any HR.out (by decide)).mono ?_
  rintro e w10 ⟨vg, rfl, hown, hb⟩
  obtain ⟨ag, cg, hvg⟩ : ∃ ag cg, vg = .slice ag 1 cg := by
    rcases hown.form with ⟨h, _⟩ | ⟨g, cap, hv, _⟩
    · exact absurd h (by unfold TB; simp)
    · exact ⟨_, _, hv⟩
  subst hvg
  replace HR := Lib.hid (HR.out.below hb)
  replace HB := Lib.hid (HB.out.trans (hb.mono HB.out.size))
  clear hb hown
  go_wp2_with fail
  obtain ⟨w11, hw11⟩ : ∃ w11, w11 = w10.alloc (.cells #[.int .i64 2, .int .u64 0, .int .i64 1] 68) := ⟨_, rfl⟩
  have hb11 : Below w10.heap.size w10 w11 := by rw [hw11]; exact (Below.refl _ _).alloc (Nat.le_refl _) _
  have hs11 : Batch.Sl w11 (.slice (some ⟨w10.heap.size, 0, none⟩) 1 1) TC := by rw [hw11]; exact Batch.sl_new w10 TC 68 tc_wf (by decide)
  replace HR := Lib.hid (HR.out.below hb11)
  replace HB := Lib.hid (HB.out.trans (hb11.mono HB.out.size))
  go_at_call 11
  rw [← hw11]
  clear hw11 hb11
  refine (rapply_any HR.out tb_right hs11 (by decide)).mono ?_
  rintro e w12 ⟨w13, u2, hb13, rfl, hcase⟩
  rw [f_tc] at hcase ⊢
  have hw12 : w12 = w13 := by
    rcases hcase with ⟨_, h⟩ | ⟨h, _⟩
    · exact h
    · exact absurd h (by decide)
  subst hw12
  replace HB := Lib.hid (HB.out.trans (hb13.mono HB.out.size))
  clear hb13 hs11 HR
  go_wp2_with fail
  go_ret
  exact ⟨rfl, HB.out⟩
end Go.Proofs.YtbclofhlaoamiaaDoor.Fr
