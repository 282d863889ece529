/-
  PACKAGE pool: giveUp.
-/
import Derived.Test.YtmggnalobfihnaaPlDel
import Derived.Deep.CutRange
import Derived.Deep.RegionHeldLaw
import Derived.BigQuiet
namespace Go.Proofs.Ytmggnalobfihnaa.Pl
open Go.RowKit Rw Pk Go.Maps Mm
set_option linter.unusedVariables false
theorem concat4_any {w : World} {t : TypeId} {s1 s2 s3 s4 : Sv} {L1 L2 L3 L4 : List (Int × Int)} (h1 : Rr accK w s1.val L1) (h2 : Rr accK w s2.val L2) (h3 : Rr accK w s3.val L3) (h4 : Rr accK w s4.val L4) (hn : L1.length + L2.length + L3.length + L4.length ≤ 1000) :
    Calls Try.prog 30 #[.slice (some ⟨w.heap.size, 0, none⟩) 4 4] (w.alloc (.cells #[s1.val, s2.val, s3.val, s4.val] t)) fun e w' => ∃ v, e = .returned v ∧ Own accK w' w.heap.size 76 v (L1 ++ L2 ++ L3 ++ L4) ∧ Below w.heap.size w w' := by
  have hh := heap_alloc_new w (.cells #[s1.val, s2.val, s3.val, s4.val] t)
  have hb : Below w.heap.size w (w.alloc (.cells #[s1.val, s2.val, s3.val, s4.val] t)) := (Below.refl _ _).alloc (Nat.le_refl _) _
  refine (concat_any (g := w.heap.size) (ss := [s1, s2, s3, s4]) (P := [L1, L2, L3, L4]) ?_ rfl ?_ (by unfold lens; simp; omega) (by simp)).mono ?_
  · intro j s hs
    refine (cell_of_row _ _ _ _ _ _ hh).trans ?_
    match j, hs with
    | 0, hs => simp at hs; subst hs; rfl
    | 1, hs => simp at hs; subst hs; rfl
    | 2, hs => simp at hs; subst hs; rfl
    | 3, hs => simp at hs; subst hs; rfl
    | k + 4, hs => simp at hs
  · intro j s l hs hl
    match j, hs, hl with
    | 0, hs, hl => simp at hs hl; subst hs hl; exact h1.below hb
    | 1, hs, hl => simp at hs hl; subst hs hl; exact h2.below hb
    | 2, hs, hl => simp at hs hl; subst hs hl; exact h3.below hb
    | 3, hs, hl => simp at hs hl; subst hs hl; exact h4.below hb
    | k + 4, hs, hl => simp at hs
  · rintro e w' ⟨v, he, ho, hb2⟩
    refine ⟨v, he, ?_, hb.trans (hb2.mono (by simp))⟩
    have := Own.mono ho (base' := w.heap.size) (by simp)
    simpa using this
theorem lit_accq (w : World) (t : TypeId) (x q : Int) (hx : I64 x) (hq : I64 q) : Rr accK (w.alloc (.cells #[.int .i64 x, .int .i64 q] t)) (.slice (some ⟨w.heap.size, 0, none⟩) 1 1) [(x, q)] := by
  have hn := heap_alloc_new w (.cells #[.int .i64 x, .int .i64 q] t)
  have hc : ∀ o, (w.alloc (.cells #[.int .i64 x, .int .i64 q] t)).cell? ⟨w.heap.size, o, none⟩ = #[Value.int .i64 x, .int .i64 q][o]? := fun o => cell_of_row _ _ _ _ _ _ hn
  refine rr_of (by decide) rfl (Nat.le_refl _) (by decide) (fun y hy => by simp at hy; subst hy; exact ⟨hx, hq⟩) (fun i y hy c u hc' hu => ?_)
  match i, hy with
  | 0, hy =>
    simp at hy
    subst hy
    rw [show ((⟨w.heap.size, 0, none⟩ : Addr).add (0 * accK.k + c)) = ⟨w.heap.size, c, none⟩ by unfold Addr.add; split <;> simp_all]
    rw [hc]
    match c, hc', hu with
    | 0, _, hu => simpa [accK] using hu
    | 1, _, hu => simpa [accK] using hu
    | k + 2, hc', _ => exact absurd hc' (by show ¬ k + 2 < 2; omega)
  | k + 1, hy => simp at hy
section
variable {w w' W : World} {S : Pi} {A A' : Pa} {n a s : Nat} {w0 wr : World} {fs zs zs' : List Nat} {P : List Int} {D' : List (Int × Int)} {D0 : Int × Int} {B : Nat → List Batch.Ch} {T : List Batch.Ch} {M : Mm.St}
/-- What is to be done when it gives up. -/
def giveD (P : List Int) (i0 : Nat) (q : Int) : List (Int × Int) := (0, 0) :: (m5 (P.eraseIdx i0) ++ [(5, q)])
set_option maxRecDepth 1000000 in
set_option maxHeartbeats 16000000 in
theorem plgive_any (h : Pg n w0 wr fs zs a s S A P (D0 :: D') B T M w) (hP : P.length ≤ 8) (hPw : ∀ x ∈ P, 0 ≤ x ∧ x < 8) {i0 : Nat} {q : Int} (h0 : P[i0]? = some q) (hnq : ∀ (j : Nat) x, P[j]? = some x → j ≠ i0 → x ≠ q) :
    Calls Try.prog 66 #[.pointer (some ⟨a, 0, none⟩), .int .i64 q] w fun e w' => e = .returned (.tuple #[]) ∧ ∃ zs' dv, (∀ j ∈ zs, j ∈ zs') ∧ (∀ j ∈ zs', j ∈ zs ∨ w.heap.size ≤ j) ∧ (∀ g, dv.ownBlock = some g → w.heap.size ≤ g) ∧ Pg n w0 wr fs zs' a s S { A with ok := false, dv := dv } P (D0 :: giveD P i0 q) B T M w' := by
  have hqw : 0 ≤ q ∧ q < 8 := hPw q (List.mem_of_getElem? h0)
  have HQI : Hid (I64 q) := Lib.hid (acc_i64 hqw)
  have HP := Lib.hid (And.intro hP (And.intro hPw (And.intro h0 hnq)))
  have HR1 := Lib.hid (h.setOk false)
  obtain ⟨c0, c1, c2, c3, c12, c13, c14, c15, c16, cf⟩ := h.pa.cells
  have hsz : (w.setCell ⟨a, 15, none⟩ (.bool false)).heap.size = w.heap.size := Mm.size_setCell _ _ _
  have HSZ := Lib.hid hsz
  have HAL := Lib.hid h.pa.lt
  clear h hP hPw h0 hnq hqw hsz
  go_enter Try.func66, Try.ntmps66
  go_upto_region 1 with fail
  clear c0 c1 c2 c3 c12 c13 c14 c15 c16 cf
  generalize w.setCell ⟨a, 15, none⟩ (.bool false) = W1 at *
  have hb2 : Below W1.heap.size W1 (W1.alloc (.cells #[.int .i64 5, .int .i64 q] 76)) := (Below.refl _ _).alloc (Nat.le_refl _) _
  have hl2 : LastAt (W1.alloc (.cells #[.int .i64 5, .int .i64 q] 76)) W1.heap.size q := ⟨(cell_of_row _ _ 0 _ _ _ (heap_alloc_new W1 (.cells #[.int .i64 5, .int .i64 q] 76))).trans rfl, (cell_of_row _ _ 1 _ _ _ (heap_alloc_new W1 (.cells #[.int .i64 5, .int .i64 q] 76))).trans rfl⟩
  have HS2 : Hid ((W1.alloc (.cells #[.int .i64 5, .int .i64 q] 76)).heap.size = W1.heap.size + 1) := Lib.hid (by simp)
  have HB2 := Lib.hid hb2
  have HL2 := Lib.hid hl2
  clear hb2 hl2
  go_upto_region 2 with fail
  generalize W1.alloc (.cells #[.int .i64 5, .int .i64 q] 76) = W2 at *
  have hmf : ∀ (fn : Fn) (first cap : Array Value) (w : World), (Instr.makeFunc fn first cap).run Try.prog w = .ok (.func fn first cap) w := fun _ _ _ _ => rfl
  go_wp2_with fail
  go_at_call 31
  have HD2 := Lib.hid (HR1.out.below HB2.out)
  refine (pleach_any HD2.out.pa HD2.out.po (by have := HP.out.1; omega) 5).mono ?_
  rintro e W3 ⟨v3, rfl, ho, hb3⟩
  have hne3 : ∃ g3 c3, v3 = .slice (some ⟨g3, 0, none⟩) P.length c3 ∧ W2.heap.size ≤ g3 := by
    rcases ho.form with ⟨e, _⟩ | ⟨g3, c3, e, e2, _⟩
    · have h1 := HP.out.2.2.1
      have h2 := congrArg List.length e
      rw [List.length_map] at h2
      have := (List.getElem?_eq_some_iff.1 h1).1
      simp at h2
      rw [h2] at this
      simp at this
    · rw [List.length_map] at e
      exact ⟨g3, c3, e, e2⟩
  obtain ⟨g3, c3, rfl, hg3⟩ := hne3
  have HO3 := Lib.hid (show Own accK W3 W2.heap.size 76 (.slice (some ⟨g3, 0, none⟩) P.length c3) (m5 P) from ho)
  have HL3 := Lib.hid (HL2.out.below hb3 HL2.out.lt)
  have HG3 := Lib.hid hg3
  have HB3 := Lib.hid (HB2.out.trans (hb3.mono (by rw [HS2.out]; exact Nat.le_succ _)))
  have HS3 := Lib.hid hb3.size
  have HH3 := Lib.hid hb3
  clear ho hb3 hg3
  go_wp2_with fail
  go_at_call 70
  refine (delA_any HO3.out q HL3.out (by have := HG3.out; have := HS2.out; omega) HP.out.2.2.1 HP.out.2.2.2 (by have := HP.out.1; omega) (map_wf 5 ⟨by decide, by decide⟩ HP.out.2.1) HS3.out).mono ?_
  rintro e W4 ⟨v4, rfl, ho4, hb4, hl4⟩
  obtain ⟨o4, d4, rfl⟩ := ho4.form2
  have HO4 := Lib.hid ho4
  have HL4 := Lib.hid hl4
  have HB4 := Lib.hid (HB3.out.trans (hb4.mono (by rw [HS2.out]; exact Nat.le_succ _)))
  have HD4 := Lib.hid (HR1.out.below HB4.out)
  clear ho4 hb4 hl4 HO3 HL3 HG3 HB3 HS3 HH3 HL2 HB2 HD2
  have hm4 : (m5 (P.eraseIdx i0)).length = (P.eraseIdx i0).length := m5_len _
  rw [hm4]
  generalize hpe : (P.eraseIdx i0).length = n4 at *
  have HPE := Lib.hid hpe
  have HM4 := Lib.hid hm4
  clear hpe hm4
  obtain ⟨c0, c1, c2, cc3, c12, c13, c14, c15, c16, cf⟩ := HD4.out.pa.cells
  simp only at c12
  obtain ⟨eao, ecap, hev, hec0, hec⟩ := HD4.out.tod.form
  have htod := HD4.out.tod
  simp only at hev htod
  rw [hev] at c12 htod
  obtain ⟨eb, eoff, rfl, heb, hx⟩ := htod.at (i := 0) (x := D0) rfl
  have HT1 := Lib.hid (htod.take (k := 1) (by simp))
  have HEV := Lib.hid hev
  have HTW : Hid (accK.wf D0) := Lib.hid (HD4.out.tod.wf D0 (List.mem_cons_self ..))
  have hec1 : 1 ≤ ecap := by simp at hec0; omega
  have hec2 : (1 : Int) ≤ (ecap : Int) := by omega
  generalize hnd : (D0 :: D').length = nd at *
  have HND := Lib.hid hnd
  clear hnd
  have l0 := HL4.out.1
  have l1 := HL4.out.2
  clear hev htod hx hec0 heb c0 c1 c2 cc3 c13 c14 c15 c16
  go_upto_region 3 with fail
  have HB0 : Hid (Below W4.heap.size W4 W4.drew) := Lib.hid (Below.refl _ _).drew
  have HKEEP : Hid (∀ W, Below W4.heap.size W4 W → W.cell? ⟨a, 12, none⟩ = some (.slice (some ⟨eb, eoff, none⟩) nd ecap) ∧ W.cell? ⟨W1.heap.size, 0, none⟩ = some (.int .i64 5) ∧ W.cell? ⟨W1.heap.size, 1, none⟩ = some (.int .i64 q)) := Lib.hid (fun W hW => ⟨(hW.cell (p := ⟨a, 12, none⟩) (Lib.lt_of_cell c12)).trans c12, (hW.cell (p := ⟨W1.heap.size, 0, none⟩) (Lib.lt_of_cell l0)).trans l0, (hW.cell (p := ⟨W1.heap.size, 1, none⟩) (Lib.lt_of_cell l1)).trans l1⟩)
  have HWM : ∀ x ∈ m5 (P.eraseIdx i0), accK.wf x := map_wf 5 ⟨by decide, by decide⟩ (fun x hx => HP.out.2.1 x (List.mem_of_mem_eraseIdx hx))
  have HWD : Hid (∀ x ∈ List.take 1 (D0 :: D') ++ [(0, 0)] ++ m5 (P.eraseIdx i0) ++ [(5, q)], accK.wf x) := Lib.hid (fun x hx => by
    rw [show List.take 1 (D0 :: D') = [D0] from rfl] at hx
    simp only [List.mem_append, List.mem_cons, List.not_mem_nil, or_false] at hx
    rcases hx with ((rfl | rfl) | hx) | rfl
    · exact HTW.out
    · exact ⟨⟨by decide, by decide⟩, ⟨by decide, by decide⟩⟩
    · exact HWM x hx
    · exact ⟨⟨by show -9223372036854775808 ≤ (5 : Int); decide, by show (5 : Int) ≤ 9223372036854775807; decide⟩, HQI.out⟩)
  have HN4 : Hid (n4 ≤ 8) := Lib.hid (by have h1 := HPE.out; have h2 := HP.out.1; have h3 := List.length_eraseIdx_le P i0; omega)
  have HR4 : Hid (Rr accK W4 (.slice o4 n4 d4) (m5 (P.eraseIdx i0))) := Lib.hid (by have h := (HO4.out.sl HWM).rr; rwa [HM4.out] at h)
  clear HWM
  refine wp_region_held_drew (S := (fun w' => w'.cell? ⟨W1.heap.size, 0, none⟩ = some (.int .i64 5) ∧ w'.cell? ⟨W1.heap.size, 1, none⟩ = some (.int .i64 q))) (by kernel_rfl) ?_ (fun hHeld => ?_)
  · ((try dsimp only); exact ⟨l0, l1⟩)
  refine wpAnyH_take (i := 0) (v := ?_) rfl (by kernel_rfl) (by kernel_rfl) (by kernel_rfl) (fun _ _ _ h => h) (Or.inl ⟨by rfl, ?_⟩) (by assumption) ?_
  rotate_left 1
  · (intro w hSw; (try dsimp only at hSw); first | (go_simp; done) | (go_simp; with_reducible rfl))
  try simp only [Act.put, List.setIfInBounds_toArray, List.set_cons_zero, List.set_cons_succ, List.getElem_toArray, List.getElem_cons_zero]
  refine wpAnyH_take (i := 1) (v := ?_) rfl (by kernel_rfl) (by kernel_rfl) (by kernel_rfl) (fun _ _ _ h => h) (Or.inl ⟨by rfl, ?_⟩) (by assumption) ?_
  rotate_left 1
  · (intro w hSw; (try dsimp only at hSw); first | (go_simp; done) | (go_simp; with_reducible rfl))
  try simp only [Act.put, List.setIfInBounds_toArray, List.set_cons_zero, List.set_cons_succ, List.getElem_toArray, List.getElem_cons_zero, List.getElem_cons_succ]
  refine wpAnyH_take (i := 2) (v := ?_) rfl (by kernel_rfl) (by kernel_rfl) (by kernel_rfl) (fun _ _ _ h => h) (Or.inl ⟨by rfl, ?_⟩) (by assumption) ?_
  rotate_left 1
  · (intro w hSw; (try dsimp only at hSw); first | (go_simp; done) | (go_simp; with_reducible rfl))
  try simp only [Act.put, List.setIfInBounds_toArray, List.set_cons_zero, List.set_cons_succ, List.getElem_toArray, List.getElem_cons_zero, List.getElem_cons_succ]
  refine wpAnyH_take (i := 3) (v := ?_) rfl (by kernel_rfl) (by kernel_rfl) (by kernel_rfl) (fun _ _ _ h => h) (Or.inl ⟨by rfl, ?_⟩) (by assumption) ?_
  rotate_left 1
  · (intro w hSw; (try dsimp only at hSw); first | (go_simp; done) | (go_simp; with_reducible rfl))
  try simp only [Act.put, List.setIfInBounds_toArray, List.set_cons_zero, List.set_cons_succ, List.getElem_toArray, List.getElem_cons_zero, List.getElem_cons_succ]
  refine wpAnyH_take (i := 6) (v := ?_) rfl (by kernel_rfl) (by kernel_rfl) (by kernel_rfl) (fun _ _ _ h => h) (Or.inl ⟨by rfl, ?_⟩) (by assumption) ?_
  rotate_left 1
  · (intro w hSw; (try dsimp only at hSw); first | (go_simp; done) | (go_simp; with_reducible rfl))
  try simp only [Act.put, List.setIfInBounds_toArray, List.set_cons_zero, List.set_cons_succ, List.getElem_toArray, List.getElem_cons_zero, List.getElem_cons_succ]
  refine wpAnyH_take (i := 8) (v := ?_) rfl (by kernel_rfl) (by kernel_rfl) (by kernel_rfl) (fun _ _ _ h => h) (Or.inl ⟨by rfl, ?_⟩) (by assumption) ?_
  rotate_left 1
  · (intro w hSw; (try dsimp only at hSw); first | (go_simp; done) | (go_simp; with_reducible rfl))
  try simp only [Act.put, List.setIfInBounds_toArray, List.set_cons_zero, List.set_cons_succ, List.getElem_toArray, List.getElem_cons_zero, List.getElem_cons_succ]
  refine wpAnyH_take (i := 9) (v := ?_) rfl (by kernel_rfl) (by kernel_rfl) (by kernel_rfl) (fun _ _ _ h => h) (Or.inl ⟨by rfl, ?_⟩) (by assumption) ?_
  rotate_left 1
  · (intro w hSw; (try dsimp only at hSw); first | (go_simp; done) | (go_simp; with_reducible rfl))
  try simp only [Act.put, List.setIfInBounds_toArray, List.set_cons_zero, List.set_cons_succ, List.getElem_toArray, List.getElem_cons_zero, List.getElem_cons_succ]
  replace HT1 := Lib.hid (HT1.out.below (Below.refl _ _).drew)
  replace HR4 := Lib.hid (HR4.out.below (Below.refl _ _).drew)
  generalize W4.drew = Wd at *
  clear c12 l0 l1
  refine wpAnyH_ready (rs := [4, 7, 10]) (by kernel_rfl) (by simp) ?_
  refine AllReadyH.cons rfl (fun K hK => ?_) (AllReadyH.cons rfl (fun K hK => ?_) (AllReadyH.cons rfl (fun K hK => ?_) AllReadyH.nil))
  · skip
    have hc12 := (HKEEP.out _ HB0.out).1
    go_simp
    have HBn1 := Lib.hid HB0.out
    try go_wp2_with fail
    refine hK.out _ _ ?_ (fun hHeld => ?_)
    · exact (HKEEP.out _ HBn1.out).2
    clear hK K
    try simp only [Act.put, List.setIfInBounds_toArray, List.set_cons_zero, List.set_cons_succ, List.getElem_toArray, List.getElem_cons_zero, List.getElem_cons_succ]
    clear hc12
    refine wpAnyH_take (i := 5) (v := ?_) rfl (by kernel_rfl) (by kernel_rfl) (by kernel_rfl) (fun _ _ _ h => h) (Or.inl ⟨by rfl, ?_⟩) (by assumption) ?_
    rotate_left 1
    · (intro w hSw; (try dsimp only at hSw); first | (go_simp; done) | (go_simp; with_reducible rfl))
    try simp only [Act.put, List.setIfInBounds_toArray, List.set_cons_zero, List.set_cons_succ, List.getElem_toArray, List.getElem_cons_zero, List.getElem_cons_succ]
    refine wpAnyH_ready (rs := [7, 10]) (by kernel_rfl) (by simp) ?_
    refine AllReadyH.cons rfl (fun K hK => ?_) (AllReadyH.cons rfl (fun K hK => ?_) AllReadyH.nil)
    · skip
      go_simp
      have hbd : Below Wd.heap.size Wd (Wd.alloc (.cells #[.int .i64 0, .int .i64 0] 76)) := (Below.refl _ _).alloc (Nat.le_refl _) _
      have HBn2 := Lib.hid (show Below W4.heap.size W4 (Wd.alloc (.cells #[.int .i64 0, .int .i64 0] 76)) from HBn1.out.alloc HBn1.out.size _)
      have HF7 : Hid (Rr accK (Wd.alloc (.cells #[.int .i64 0, .int .i64 0] 76)) (.slice (some ⟨Wd.heap.size, 0, none⟩) 1 1) [(0, 0)]) := Lib.hid (lit_accq Wd 76 0 0 ⟨by decide, by decide⟩ ⟨by decide, by decide⟩)
      replace HT1 := Lib.hid (HT1.out.below hbd)
      replace HR4 := Lib.hid (HR4.out.below hbd)
      clear hbd
      try go_wp2_with fail
      refine hK.out _ _ ?_ (fun hHeld => ?_)
      · exact (HKEEP.out _ HBn2.out).2
      clear hK K
      try simp only [Act.put, List.setIfInBounds_toArray, List.set_cons_zero, List.set_cons_succ, List.getElem_toArray, List.getElem_cons_zero, List.getElem_cons_succ]
      generalize Wd.alloc (.cells #[.int .i64 0, .int .i64 0] 76) = Wn2 at *
      generalize Wd.heap.size = y7 at *
      refine wpAnyH_ready (rs := [10]) (by kernel_rfl) (by simp) ?_
      refine AllReadyH.cons rfl (fun K hK => ?_) AllReadyH.nil
      go_simp
      have hbd : Below Wn2.heap.size Wn2 (Wn2.alloc (.cells #[.int .i64 5, .int .i64 q] 76)) := (Below.refl _ _).alloc (Nat.le_refl _) _
      have HBn3 := Lib.hid (show Below W4.heap.size W4 (Wn2.alloc (.cells #[.int .i64 5, .int .i64 q] 76)) from HBn2.out.alloc HBn2.out.size _)
      have HF10 : Hid (Rr accK (Wn2.alloc (.cells #[.int .i64 5, .int .i64 q] 76)) (.slice (some ⟨Wn2.heap.size, 0, none⟩) 1 1) [(5, q)]) := Lib.hid (lit_accq Wn2 76 5 q ⟨by decide, by decide⟩ HQI.out)
      replace HT1 := Lib.hid (HT1.out.below hbd)
      replace HR4 := Lib.hid (HR4.out.below hbd)
      replace HF7 := Lib.hid (HF7.out.below hbd)
      clear hbd
      try go_wp2_with fail
      refine hK.out _ _ ?_ (fun hHeld => ?_)
      · exact (HKEEP.out _ HBn3.out).2
      clear hK K
      try simp only [Act.put, List.setIfInBounds_toArray, List.set_cons_zero, List.set_cons_succ, List.getElem_toArray, List.getElem_cons_zero, List.getElem_cons_succ]
      generalize Wn2.alloc (.cells #[.int .i64 5, .int .i64 q] 76) = Wn3 at *
      generalize Wn2.heap.size = y10 at *
      refine wpAnyH_ready (rs := [11]) (by kernel_rfl) (by simp) ?_
      refine AllReadyH.cons rfl (fun K hK => ?_) AllReadyH.nil
      go_simp
      try go_wp2_with fail
      refine hK.out _ _ ?_ (fun hHeld => ?_)
      · exact (HKEEP.out _ (HBn3.out.alloc HBn3.out.size _)).2
      clear hK K
      try simp only [Act.put, List.setIfInBounds_toArray, List.set_cons_zero, List.set_cons_succ, List.getElem_toArray, List.getElem_cons_zero, List.getElem_cons_succ]
      refine wpAnyH_ready (rs := [12]) (by kernel_rfl) (by simp) ?_
      refine AllReadyH.cons rfl (fun K hK => ?_) AllReadyH.nil
      go_simp
      go_at_call 30
      refine (concat4_any (w := Wn3) (s1 := ⟨some ⟨eb, eoff, none⟩, 1, ecap⟩) (s2 := ⟨some ⟨y7, 0, none⟩, 1, 1⟩) (s3 := ⟨o4, n4, d4⟩) (s4 := ⟨some ⟨y10, 0, none⟩, 1, 1⟩) HT1.out HF7.out HR4.out HF10.out (by have h1 := HM4.out; have h2 := HN4.out; simp; omega)).mono ?_
      rintro e W7 ⟨v7, rfl, ho7, hb7⟩
      have HB7 := Lib.hid (HBn3.out.trans (hb7.mono HBn3.out.size))
      obtain ⟨o7, d7, rfl⟩ := ho7.form2
      have hW7 : Below W1.heap.size W1 W7 := HB4.out.trans (HB7.out.mono HB4.out.size)
      have hd7 := HR1.out.all hW7
      have hv7 := World.ownsRow.lt ho7
      have HS7 := Lib.hid ((ho7.sl HWD.out).rr)
      generalize hn7 : (List.take 1 (D0 :: D') ++ [(0, 0)] ++ m5 (P.eraseIdx i0) ++ [(5, q)]).length = n7 at *
      have HV7 : Hid (∀ g, (Value.slice o7 n7 d7).ownBlock = some g → w.heap.size ≤ g) := Lib.hid (fun g hg => by
        have h1 := (hv7 g hg).1
        have h2 := HSZ.out
        have h3 := HB4.out.size
        have h4 := HBn3.out.size
        omega)
      have HE7 := Lib.hid (hd7.setD HS7.out (fun g hg => ⟨blk_mem (by have := HV7.out g hg; have := HSZ.out; omega) (hv7 g hg).2, fun e => by have := HV7.out g hg; have := HAL.out; omega⟩))
      obtain ⟨k0, k1, k2, k3, k12, k13, k14, k15, k16, kf⟩ := hd7.pa.cells
      have HNX : Hid (W1.heap.size ≠ a) := Lib.hid (by have := HSZ.out; have := HAL.out; omega)
      clear ho7 hb7 hW7 hd7 hn7 hv7
      try go_wp2_with fail
      refine hK.out _ _ ?_ (fun hHeld => ?_)
      · exact (HKEEP.out _ HB7.out).2
      clear hK K
      try simp only [Act.put, List.setIfInBounds_toArray, List.set_cons_zero, List.set_cons_succ, List.getElem_toArray, List.getElem_cons_zero, List.getElem_cons_succ]
      refine wpAnyH_take (i := 13) (v := ?_) rfl (by kernel_rfl) (by kernel_rfl) (by kernel_rfl) (fun _ _ _ h => h) (Or.inl ⟨by rfl, ?_⟩) (by assumption) ?_
      rotate_left 1
      · (intro w hSw; (try dsimp only at hSw); first | (go_simp; done) | (go_simp; with_reducible rfl))
      try simp only [Act.put, List.setIfInBounds_toArray, List.set_cons_zero, List.set_cons_succ, List.getElem_toArray, List.getElem_cons_zero, List.getElem_cons_succ]
      refine wpAnyH_take (i := 14) (v := ?_) rfl (by kernel_rfl) (by kernel_rfl) (by kernel_rfl) (fun _ _ _ h => h) (Or.inl ⟨by rfl, ?_⟩) (by assumption) ?_
      rotate_left 1
      · (intro w hSw; (try dsimp only at hSw); first | (go_simp; done) | (go_simp; with_reducible rfl))
      try simp only [Act.put, List.setIfInBounds_toArray, List.set_cons_zero, List.set_cons_succ, List.getElem_toArray, List.getElem_cons_zero, List.getElem_cons_succ]
      refine wpAnyH_ready (rs := [15]) (by kernel_rfl) (by simp) ?_
      refine AllReadyH.cons rfl (fun K hK => ?_) AllReadyH.nil
      go_simp
      try go_wp2_with fail
      refine hK.out _ _ ?_ (fun hHeld => ?_)
      · exact ⟨(World.cell?_setCell_far _ _ _ _ (Ne.symm HNX.out)).trans (HKEEP.out _ HB7.out).2.1, (World.cell?_setCell_far _ _ _ _ (Ne.symm HNX.out)).trans (HKEEP.out _ HB7.out).2.2⟩
      clear hK K
      try simp only [Act.put, List.setIfInBounds_toArray, List.set_cons_zero, List.set_cons_succ, List.getElem_toArray, List.getElem_cons_zero, List.getElem_cons_succ]
      refine wpAnyH_done (by kernel_rfl) ?_ _
      go_wp2_with fail
      first | go_ret | go_end0
      refine ⟨rfl, _, _, ?_, ?_, HV7.out, HE7.out⟩
      · exact blk_old
      · rw [← HSZ.out]; exact blk_inv
    · skip
      go_simp
      have hbd : Below Wd.heap.size Wd (Wd.alloc (.cells #[.int .i64 5, .int .i64 q] 76)) := (Below.refl _ _).alloc (Nat.le_refl _) _
      have HBn2 := Lib.hid (show Below W4.heap.size W4 (Wd.alloc (.cells #[.int .i64 5, .int .i64 q] 76)) from HBn1.out.alloc HBn1.out.size _)
      have HF10 : Hid (Rr accK (Wd.alloc (.cells #[.int .i64 5, .int .i64 q] 76)) (.slice (some ⟨Wd.heap.size, 0, none⟩) 1 1) [(5, q)]) := Lib.hid (lit_accq Wd 76 5 q ⟨by decide, by decide⟩ HQI.out)
      replace HT1 := Lib.hid (HT1.out.below hbd)
      replace HR4 := Lib.hid (HR4.out.below hbd)
      clear hbd
      try go_wp2_with fail
      refine hK.out _ _ ?_ (fun hHeld => ?_)
      · exact (HKEEP.out _ HBn2.out).2
      clear hK K
      try simp only [Act.put, List.setIfInBounds_toArray, List.set_cons_zero, List.set_cons_succ, List.getElem_toArray, List.getElem_cons_zero, List.getElem_cons_succ]
      generalize Wd.alloc (.cells #[.int .i64 5, .int .i64 q] 76) = Wn2 at *
      generalize Wd.heap.size = y10 at *
      refine wpAnyH_ready (rs := [7]) (by kernel_rfl) (by simp) ?_
      refine AllReadyH.cons rfl (fun K hK => ?_) AllReadyH.nil
      go_simp
      have hbd : Below Wn2.heap.size Wn2 (Wn2.alloc (.cells #[.int .i64 0, .int .i64 0] 76)) := (Below.refl _ _).alloc (Nat.le_refl _) _
      have HBn3 := Lib.hid (show Below W4.heap.size W4 (Wn2.alloc (.cells #[.int .i64 0, .int .i64 0] 76)) from HBn2.out.alloc HBn2.out.size _)
      have HF7 : Hid (Rr accK (Wn2.alloc (.cells #[.int .i64 0, .int .i64 0] 76)) (.slice (some ⟨Wn2.heap.size, 0, none⟩) 1 1) [(0, 0)]) := Lib.hid (lit_accq Wn2 76 0 0 ⟨by decide, by decide⟩ ⟨by decide, by decide⟩)
      replace HT1 := Lib.hid (HT1.out.below hbd)
      replace HR4 := Lib.hid (HR4.out.below hbd)
      replace HF10 := Lib.hid (HF10.out.below hbd)
      clear hbd
      try go_wp2_with fail
      refine hK.out _ _ ?_ (fun hHeld => ?_)
      · exact (HKEEP.out _ HBn3.out).2
      clear hK K
      try simp only [Act.put, List.setIfInBounds_toArray, List.set_cons_zero, List.set_cons_succ, List.getElem_toArray, List.getElem_cons_zero, List.getElem_cons_succ]
      generalize Wn2.alloc (.cells #[.int .i64 0, .int .i64 0] 76) = Wn3 at *
      generalize Wn2.heap.size = y7 at *
      refine wpAnyH_ready (rs := [11]) (by kernel_rfl) (by simp) ?_
      refine AllReadyH.cons rfl (fun K hK => ?_) AllReadyH.nil
      go_simp
      try go_wp2_with fail
      refine hK.out _ _ ?_ (fun hHeld => ?_)
      · exact (HKEEP.out _ (HBn3.out.alloc HBn3.out.size _)).2
      clear hK K
      try simp only [Act.put, List.setIfInBounds_toArray, List.set_cons_zero, List.set_cons_succ, List.getElem_toArray, List.getElem_cons_zero, List.getElem_cons_succ]
      refine wpAnyH_ready (rs := [12]) (by kernel_rfl) (by simp) ?_
      refine AllReadyH.cons rfl (fun K hK => ?_) AllReadyH.nil
      go_simp
      go_at_call 30
      refine (concat4_any (w := Wn3) (s1 := ⟨some ⟨eb, eoff, none⟩, 1, ecap⟩) (s2 := ⟨some ⟨y7, 0, none⟩, 1, 1⟩) (s3 := ⟨o4, n4, d4⟩) (s4 := ⟨some ⟨y10, 0, none⟩, 1, 1⟩) HT1.out HF7.out HR4.out HF10.out (by have h1 := HM4.out; have h2 := HN4.out; simp; omega)).mono ?_
      rintro e W7 ⟨v7, rfl, ho7, hb7⟩
      have HB7 := Lib.hid (HBn3.out.trans (hb7.mono HBn3.out.size))
      obtain ⟨o7, d7, rfl⟩ := ho7.form2
      have hW7 : Below W1.heap.size W1 W7 := HB4.out.trans (HB7.out.mono HB4.out.size)
      have hd7 := HR1.out.all hW7
      have hv7 := World.ownsRow.lt ho7
      have HS7 := Lib.hid ((ho7.sl HWD.out).rr)
      generalize hn7 : (List.take 1 (D0 :: D') ++ [(0, 0)] ++ m5 (P.eraseIdx i0) ++ [(5, q)]).length = n7 at *
      have HV7 : Hid (∀ g, (Value.slice o7 n7 d7).ownBlock = some g → w.heap.size ≤ g) := Lib.hid (fun g hg => by
        have h1 := (hv7 g hg).1
        have h2 := HSZ.out
        have h3 := HB4.out.size
        have h4 := HBn3.out.size
        omega)
      have HE7 := Lib.hid (hd7.setD HS7.out (fun g hg => ⟨blk_mem (by have := HV7.out g hg; have := HSZ.out; omega) (hv7 g hg).2, fun e => by have := HV7.out g hg; have := HAL.out; omega⟩))
      obtain ⟨k0, k1, k2, k3, k12, k13, k14, k15, k16, kf⟩ := hd7.pa.cells
      have HNX : Hid (W1.heap.size ≠ a) := Lib.hid (by have := HSZ.out; have := HAL.out; omega)
      clear ho7 hb7 hW7 hd7 hn7 hv7
      try go_wp2_with fail
      refine hK.out _ _ ?_ (fun hHeld => ?_)
      · exact (HKEEP.out _ HB7.out).2
      clear hK K
      try simp only [Act.put, List.setIfInBounds_toArray, List.set_cons_zero, List.set_cons_succ, List.getElem_toArray, List.getElem_cons_zero, List.getElem_cons_succ]
      refine wpAnyH_take (i := 13) (v := ?_) rfl (by kernel_rfl) (by kernel_rfl) (by kernel_rfl) (fun _ _ _ h => h) (Or.inl ⟨by rfl, ?_⟩) (by assumption) ?_
      rotate_left 1
      · (intro w hSw; (try dsimp only at hSw); first | (go_simp; done) | (go_simp; with_reducible rfl))
      try simp only [Act.put, List.setIfInBounds_toArray, List.set_cons_zero, List.set_cons_succ, List.getElem_toArray, List.getElem_cons_zero, List.getElem_cons_succ]
      refine wpAnyH_take (i := 14) (v := ?_) rfl (by kernel_rfl) (by kernel_rfl) (by kernel_rfl) (fun _ _ _ h => h) (Or.inl ⟨by rfl, ?_⟩) (by assumption) ?_
      rotate_left 1
      · (intro w hSw; (try dsimp only at hSw); first | (go_simp; done) | (go_simp; with_reducible rfl))
      try simp only [Act.put, List.setIfInBounds_toArray, List.set_cons_zero, List.set_cons_succ, List.getElem_toArray, List.getElem_cons_zero, List.getElem_cons_succ]
      refine wpAnyH_ready (rs := [15]) (by kernel_rfl) (by simp) ?_
      refine AllReadyH.cons rfl (fun K hK => ?_) AllReadyH.nil
      go_simp
      try go_wp2_with fail
      refine hK.out _ _ ?_ (fun hHeld => ?_)
      · exact ⟨(World.cell?_setCell_far _ _ _ _ (Ne.symm HNX.out)).trans (HKEEP.out _ HB7.out).2.1, (World.cell?_setCell_far _ _ _ _ (Ne.symm HNX.out)).trans (HKEEP.out _ HB7.out).2.2⟩
      clear hK K
      try simp only [Act.put, List.setIfInBounds_toArray, List.set_cons_zero, List.set_cons_succ, List.getElem_toArray, List.getElem_cons_zero, List.getElem_cons_succ]
      refine wpAnyH_done (by kernel_rfl) ?_ _
      go_wp2_with fail
      first | go_ret | go_end0
      refine ⟨rfl, _, _, ?_, ?_, HV7.out, HE7.out⟩
      · exact blk_old
      · rw [← HSZ.out]; exact blk_inv
  · skip
    go_simp
    have hbd : Below Wd.heap.size Wd (Wd.alloc (.cells #[.int .i64 0, .int .i64 0] 76)) := (Below.refl _ _).alloc (Nat.le_refl _) _
    have HBn1 := Lib.hid (show Below W4.heap.size W4 (Wd.alloc (.cells #[.int .i64 0, .int .i64 0] 76)) from HB0.out.alloc HB0.out.size _)
    have HF7 : Hid (Rr accK (Wd.alloc (.cells #[.int .i64 0, .int .i64 0] 76)) (.slice (some ⟨Wd.heap.size, 0, none⟩) 1 1) [(0, 0)]) := Lib.hid (lit_accq Wd 76 0 0 ⟨by decide, by decide⟩ ⟨by decide, by decide⟩)
    replace HT1 := Lib.hid (HT1.out.below hbd)
    replace HR4 := Lib.hid (HR4.out.below hbd)
    clear hbd
    try go_wp2_with fail
    refine hK.out _ _ ?_ (fun hHeld => ?_)
    · exact (HKEEP.out _ HBn1.out).2
    clear hK K
    try simp only [Act.put, List.setIfInBounds_toArray, List.set_cons_zero, List.set_cons_succ, List.getElem_toArray, List.getElem_cons_zero, List.getElem_cons_succ]
    generalize Wd.alloc (.cells #[.int .i64 0, .int .i64 0] 76) = Wn1 at *
    generalize Wd.heap.size = y7 at *
    refine wpAnyH_ready (rs := [4, 10]) (by kernel_rfl) (by simp) ?_
    refine AllReadyH.cons rfl (fun K hK => ?_) (AllReadyH.cons rfl (fun K hK => ?_) AllReadyH.nil)
    · skip
      have hc12 := (HKEEP.out _ HBn1.out).1
      go_simp
      have HBn2 := Lib.hid HBn1.out
      try go_wp2_with fail
      refine hK.out _ _ ?_ (fun hHeld => ?_)
      · exact (HKEEP.out _ HBn2.out).2
      clear hK K
      try simp only [Act.put, List.setIfInBounds_toArray, List.set_cons_zero, List.set_cons_succ, List.getElem_toArray, List.getElem_cons_zero, List.getElem_cons_succ]
      clear hc12
      refine wpAnyH_take (i := 5) (v := ?_) rfl (by kernel_rfl) (by kernel_rfl) (by kernel_rfl) (fun _ _ _ h => h) (Or.inl ⟨by rfl, ?_⟩) (by assumption) ?_
      rotate_left 1
      · (intro w hSw; (try dsimp only at hSw); first | (go_simp; done) | (go_simp; with_reducible rfl))
      try simp only [Act.put, List.setIfInBounds_toArray, List.set_cons_zero, List.set_cons_succ, List.getElem_toArray, List.getElem_cons_zero, List.getElem_cons_succ]
      refine wpAnyH_ready (rs := [10]) (by kernel_rfl) (by simp) ?_
      refine AllReadyH.cons rfl (fun K hK => ?_) AllReadyH.nil
      go_simp
      have hbd : Below Wn1.heap.size Wn1 (Wn1.alloc (.cells #[.int .i64 5, .int .i64 q] 76)) := (Below.refl _ _).alloc (Nat.le_refl _) _
      have HBn3 := Lib.hid (show Below W4.heap.size W4 (Wn1.alloc (.cells #[.int .i64 5, .int .i64 q] 76)) from HBn2.out.alloc HBn2.out.size _)
      have HF10 : Hid (Rr accK (Wn1.alloc (.cells #[.int .i64 5, .int .i64 q] 76)) (.slice (some ⟨Wn1.heap.size, 0, none⟩) 1 1) [(5, q)]) := Lib.hid (lit_accq Wn1 76 5 q ⟨by decide, by decide⟩ HQI.out)
      replace HT1 := Lib.hid (HT1.out.below hbd)
      replace HR4 := Lib.hid (HR4.out.below hbd)
      replace HF7 := Lib.hid (HF7.out.below hbd)
      clear hbd
      try go_wp2_with fail
      refine hK.out _ _ ?_ (fun hHeld => ?_)
      · exact (HKEEP.out _ HBn3.out).2
      clear hK K
      try simp only [Act.put, List.setIfInBounds_toArray, List.set_cons_zero, List.set_cons_succ, List.getElem_toArray, List.getElem_cons_zero, List.getElem_cons_succ]
      generalize Wn1.alloc (.cells #[.int .i64 5, .int .i64 q] 76) = Wn3 at *
      generalize Wn1.heap.size = y10 at *
      refine wpAnyH_ready (rs := [11]) (by kernel_rfl) (by simp) ?_
      refine AllReadyH.cons rfl (fun K hK => ?_) AllReadyH.nil
      go_simp
      try go_wp2_with fail
      refine hK.out _ _ ?_ (fun hHeld => ?_)
      · exact (HKEEP.out _ (HBn3.out.alloc HBn3.out.size _)).2
      clear hK K
      try simp only [Act.put, List.setIfInBounds_toArray, List.set_cons_zero, List.set_cons_succ, List.getElem_toArray, List.getElem_cons_zero, List.getElem_cons_succ]
      refine wpAnyH_ready (rs := [12]) (by kernel_rfl) (by simp) ?_
      refine AllReadyH.cons rfl (fun K hK => ?_) AllReadyH.nil
      go_simp
      go_at_call 30
      refine (concat4_any (w := Wn3) (s1 := ⟨some ⟨eb, eoff, none⟩, 1, ecap⟩) (s2 := ⟨some ⟨y7, 0, none⟩, 1, 1⟩) (s3 := ⟨o4, n4, d4⟩) (s4 := ⟨some ⟨y10, 0, none⟩, 1, 1⟩) HT1.out HF7.out HR4.out HF10.out (by have h1 := HM4.out; have h2 := HN4.out; simp; omega)).mono ?_
      rintro e W7 ⟨v7, rfl, ho7, hb7⟩
      have HB7 := Lib.hid (HBn3.out.trans (hb7.mono HBn3.out.size))
      obtain ⟨o7, d7, rfl⟩ := ho7.form2
      have hW7 : Below W1.heap.size W1 W7 := HB4.out.trans (HB7.out.mono HB4.out.size)
      have hd7 := HR1.out.all hW7
      have hv7 := World.ownsRow.lt ho7
      have HS7 := Lib.hid ((ho7.sl HWD.out).rr)
      generalize hn7 : (List.take 1 (D0 :: D') ++ [(0, 0)] ++ m5 (P.eraseIdx i0) ++ [(5, q)]).length = n7 at *
      have HV7 : Hid (∀ g, (Value.slice o7 n7 d7).ownBlock = some g → w.heap.size ≤ g) := Lib.hid (fun g hg => by
        have h1 := (hv7 g hg).1
        have h2 := HSZ.out
        have h3 := HB4.out.size
        have h4 := HBn3.out.size
        omega)
      have HE7 := Lib.hid (hd7.setD HS7.out (fun g hg => ⟨blk_mem (by have := HV7.out g hg; have := HSZ.out; omega) (hv7 g hg).2, fun e => by have := HV7.out g hg; have := HAL.out; omega⟩))
      obtain ⟨k0, k1, k2, k3, k12, k13, k14, k15, k16, kf⟩ := hd7.pa.cells
      have HNX : Hid (W1.heap.size ≠ a) := Lib.hid (by have := HSZ.out; have := HAL.out; omega)
      clear ho7 hb7 hW7 hd7 hn7 hv7
      try go_wp2_with fail
      refine hK.out _ _ ?_ (fun hHeld => ?_)
      · exact (HKEEP.out _ HB7.out).2
      clear hK K
      try simp only [Act.put, List.setIfInBounds_toArray, List.set_cons_zero, List.set_cons_succ, List.getElem_toArray, List.getElem_cons_zero, List.getElem_cons_succ]
      refine wpAnyH_take (i := 13) (v := ?_) rfl (by kernel_rfl) (by kernel_rfl) (by kernel_rfl) (fun _ _ _ h => h) (Or.inl ⟨by rfl, ?_⟩) (by assumption) ?_
      rotate_left 1
      · (intro w hSw; (try dsimp only at hSw); first | (go_simp; done) | (go_simp; with_reducible rfl))
      try simp only [Act.put, List.setIfInBounds_toArray, List.set_cons_zero, List.set_cons_succ, List.getElem_toArray, List.getElem_cons_zero, List.getElem_cons_succ]
      refine wpAnyH_take (i := 14) (v := ?_) rfl (by kernel_rfl) (by kernel_rfl) (by kernel_rfl) (fun _ _ _ h => h) (Or.inl ⟨by rfl, ?_⟩) (by assumption) ?_
      rotate_left 1
      · (intro w hSw; (try dsimp only at hSw); first | (go_simp; done) | (go_simp; with_reducible rfl))
      try simp only [Act.put, List.setIfInBounds_toArray, List.set_cons_zero, List.set_cons_succ, List.getElem_toArray, List.getElem_cons_zero, List.getElem_cons_succ]
      refine wpAnyH_ready (rs := [15]) (by kernel_rfl) (by simp) ?_
      refine AllReadyH.cons rfl (fun K hK => ?_) AllReadyH.nil
      go_simp
      try go_wp2_with fail
      refine hK.out _ _ ?_ (fun hHeld => ?_)
      · exact ⟨(World.cell?_setCell_far _ _ _ _ (Ne.symm HNX.out)).trans (HKEEP.out _ HB7.out).2.1, (World.cell?_setCell_far _ _ _ _ (Ne.symm HNX.out)).trans (HKEEP.out _ HB7.out).2.2⟩
      clear hK K
      try simp only [Act.put, List.setIfInBounds_toArray, List.set_cons_zero, List.set_cons_succ, List.getElem_toArray, List.getElem_cons_zero, List.getElem_cons_succ]
      refine wpAnyH_done (by kernel_rfl) ?_ _
      go_wp2_with fail
      first | go_ret | go_end0
      refine ⟨rfl, _, _, ?_, ?_, HV7.out, HE7.out⟩
      · exact blk_old
      · rw [← HSZ.out]; exact blk_inv
    · skip
      go_simp
      have hbd : Below Wn1.heap.size Wn1 (Wn1.alloc (.cells #[.int .i64 5, .int .i64 q] 76)) := (Below.refl _ _).alloc (Nat.le_refl _) _
      have HBn2 := Lib.hid (show Below W4.heap.size W4 (Wn1.alloc (.cells #[.int .i64 5, .int .i64 q] 76)) from HBn1.out.alloc HBn1.out.size _)
      have HF10 : Hid (Rr accK (Wn1.alloc (.cells #[.int .i64 5, .int .i64 q] 76)) (.slice (some ⟨Wn1.heap.size, 0, none⟩) 1 1) [(5, q)]) := Lib.hid (lit_accq Wn1 76 5 q ⟨by decide, by decide⟩ HQI.out)
      replace HT1 := Lib.hid (HT1.out.below hbd)
      replace HR4 := Lib.hid (HR4.out.below hbd)
      replace HF7 := Lib.hid (HF7.out.below hbd)
      clear hbd
      try go_wp2_with fail
      refine hK.out _ _ ?_ (fun hHeld => ?_)
      · exact (HKEEP.out _ HBn2.out).2
      clear hK K
      try simp only [Act.put, List.setIfInBounds_toArray, List.set_cons_zero, List.set_cons_succ, List.getElem_toArray, List.getElem_cons_zero, List.getElem_cons_succ]
      generalize Wn1.alloc (.cells #[.int .i64 5, .int .i64 q] 76) = Wn2 at *
      generalize Wn1.heap.size = y10 at *
      refine wpAnyH_ready (rs := [4]) (by kernel_rfl) (by simp) ?_
      refine AllReadyH.cons rfl (fun K hK => ?_) AllReadyH.nil
      have hc12 := (HKEEP.out _ HBn2.out).1
      go_simp
      have HBn3 := Lib.hid HBn2.out
      try go_wp2_with fail
      refine hK.out _ _ ?_ (fun hHeld => ?_)
      · exact (HKEEP.out _ HBn3.out).2
      clear hK K
      try simp only [Act.put, List.setIfInBounds_toArray, List.set_cons_zero, List.set_cons_succ, List.getElem_toArray, List.getElem_cons_zero, List.getElem_cons_succ]
      clear hc12
      refine wpAnyH_take (i := 5) (v := ?_) rfl (by kernel_rfl) (by kernel_rfl) (by kernel_rfl) (fun _ _ _ h => h) (Or.inl ⟨by rfl, ?_⟩) (by assumption) ?_
      rotate_left 1
      · (intro w hSw; (try dsimp only at hSw); first | (go_simp; done) | (go_simp; with_reducible rfl))
      try simp only [Act.put, List.setIfInBounds_toArray, List.set_cons_zero, List.set_cons_succ, List.getElem_toArray, List.getElem_cons_zero, List.getElem_cons_succ]
      refine wpAnyH_ready (rs := [11]) (by kernel_rfl) (by simp) ?_
      refine AllReadyH.cons rfl (fun K hK => ?_) AllReadyH.nil
      go_simp
      try go_wp2_with fail
      refine hK.out _ _ ?_ (fun hHeld => ?_)
      · exact (HKEEP.out _ (HBn3.out.alloc HBn3.out.size _)).2
      clear hK K
      try simp only [Act.put, List.setIfInBounds_toArray, List.set_cons_zero, List.set_cons_succ, List.getElem_toArray, List.getElem_cons_zero, List.getElem_cons_succ]
      refine wpAnyH_ready (rs := [12]) (by kernel_rfl) (by simp) ?_
      refine AllReadyH.cons rfl (fun K hK => ?_) AllReadyH.nil
      go_simp
      go_at_call 30
      refine (concat4_any (w := Wn2) (s1 := ⟨some ⟨eb, eoff, none⟩, 1, ecap⟩) (s2 := ⟨some ⟨y7, 0, none⟩, 1, 1⟩) (s3 := ⟨o4, n4, d4⟩) (s4 := ⟨some ⟨y10, 0, none⟩, 1, 1⟩) HT1.out HF7.out HR4.out HF10.out (by have h1 := HM4.out; have h2 := HN4.out; simp; omega)).mono ?_
      rintro e W7 ⟨v7, rfl, ho7, hb7⟩
      have HB7 := Lib.hid (HBn3.out.trans (hb7.mono HBn3.out.size))
      obtain ⟨o7, d7, rfl⟩ := ho7.form2
      have hW7 : Below W1.heap.size W1 W7 := HB4.out.trans (HB7.out.mono HB4.out.size)
      have hd7 := HR1.out.all hW7
      have hv7 := World.ownsRow.lt ho7
      have HS7 := Lib.hid ((ho7.sl HWD.out).rr)
      generalize hn7 : (List.take 1 (D0 :: D') ++ [(0, 0)] ++ m5 (P.eraseIdx i0) ++ [(5, q)]).length = n7 at *
      have HV7 : Hid (∀ g, (Value.slice o7 n7 d7).ownBlock = some g → w.heap.size ≤ g) := Lib.hid (fun g hg => by
        have h1 := (hv7 g hg).1
        have h2 := HSZ.out
        have h3 := HB4.out.size
        have h4 := HBn3.out.size
        omega)
      have HE7 := Lib.hid (hd7.setD HS7.out (fun g hg => ⟨blk_mem (by have := HV7.out g hg; have := HSZ.out; omega) (hv7 g hg).2, fun e => by have := HV7.out g hg; have := HAL.out; omega⟩))
      obtain ⟨k0, k1, k2, k3, k12, k13, k14, k15, k16, kf⟩ := hd7.pa.cells
      have HNX : Hid (W1.heap.size ≠ a) := Lib.hid (by have := HSZ.out; have := HAL.out; omega)
      clear ho7 hb7 hW7 hd7 hn7 hv7
      try go_wp2_with fail
      refine hK.out _ _ ?_ (fun hHeld => ?_)
      · exact (HKEEP.out _ HB7.out).2
      clear hK K
      try simp only [Act.put, List.setIfInBounds_toArray, List.set_cons_zero, List.set_cons_succ, List.getElem_toArray, List.getElem_cons_zero, List.getElem_cons_succ]
      refine wpAnyH_take (i := 13) (v := ?_) rfl (by kernel_rfl) (by kernel_rfl) (by kernel_rfl) (fun _ _ _ h => h) (Or.inl ⟨by rfl, ?_⟩) (by assumption) ?_
      rotate_left 1
      · (intro w hSw; (try dsimp only at hSw); first | (go_simp; done) | (go_simp; with_reducible rfl))
      try simp only [Act.put, List.setIfInBounds_toArray, List.set_cons_zero, List.set_cons_succ, List.getElem_toArray, List.getElem_cons_zero, List.getElem_cons_succ]
      refine wpAnyH_take (i := 14) (v := ?_) rfl (by kernel_rfl) (by kernel_rfl) (by kernel_rfl) (fun _ _ _ h => h) (Or.inl ⟨by rfl, ?_⟩) (by assumption) ?_
      rotate_left 1
      · (intro w hSw; (try dsimp only at hSw); first | (go_simp; done) | (go_simp; with_reducible rfl))
      try simp only [Act.put, List.setIfInBounds_toArray, List.set_cons_zero, List.set_cons_succ, List.getElem_toArray, List.getElem_cons_zero, List.getElem_cons_succ]
      refine wpAnyH_ready (rs := [15]) (by kernel_rfl) (by simp) ?_
      refine AllReadyH.cons rfl (fun K hK => ?_) AllReadyH.nil
      go_simp
      try go_wp2_with fail
      refine hK.out _ _ ?_ (fun hHeld => ?_)
      · exact ⟨(World.cell?_setCell_far _ _ _ _ (Ne.symm HNX.out)).trans (HKEEP.out _ HB7.out).2.1, (World.cell?_setCell_far _ _ _ _ (Ne.symm HNX.out)).trans (HKEEP.out _ HB7.out).2.2⟩
      clear hK K
      try simp only [Act.put, List.setIfInBounds_toArray, List.set_cons_zero, List.set_cons_succ, List.getElem_toArray, List.getElem_cons_zero, List.getElem_cons_succ]
      refine wpAnyH_done (by kernel_rfl) ?_ _
      go_wp2_with fail
      first | go_ret | go_end0
      refine ⟨rfl, _, _, ?_, ?_, HV7.out, HE7.out⟩
      · exact blk_old
      · rw [← HSZ.out]; exact blk_inv
  · skip
    go_simp
    have hbd : Below Wd.heap.size Wd (Wd.alloc (.cells #[.int .i64 5, .int .i64 q] 76)) := (Below.refl _ _).alloc (Nat.le_refl _) _
    have HBn1 := Lib.hid (show Below W4.heap.size W4 (Wd.alloc (.cells #[.int .i64 5, .int .i64 q] 76)) from HB0.out.alloc HB0.out.size _)
    have HF10 : Hid (Rr accK (Wd.alloc (.cells #[.int .i64 5, .int .i64 q] 76)) (.slice (some ⟨Wd.heap.size, 0, none⟩) 1 1) [(5, q)]) := Lib.hid (lit_accq Wd 76 5 q ⟨by decide, by decide⟩ HQI.out)
    replace HT1 := Lib.hid (HT1.out.below hbd)
    replace HR4 := Lib.hid (HR4.out.below hbd)
    clear hbd
    try go_wp2_with fail
    refine hK.out _ _ ?_ (fun hHeld => ?_)
    · exact (HKEEP.out _ HBn1.out).2
    clear hK K
    try simp only [Act.put, List.setIfInBounds_toArray, List.set_cons_zero, List.set_cons_succ, List.getElem_toArray, List.getElem_cons_zero, List.getElem_cons_succ]
    generalize Wd.alloc (.cells #[.int .i64 5, .int .i64 q] 76) = Wn1 at *
    generalize Wd.heap.size = y10 at *
    refine wpAnyH_ready (rs := [4, 7]) (by kernel_rfl) (by simp) ?_
    refine AllReadyH.cons rfl (fun K hK => ?_) (AllReadyH.cons rfl (fun K hK => ?_) AllReadyH.nil)
    · skip
      have hc12 := (HKEEP.out _ HBn1.out).1
      go_simp
      have HBn2 := Lib.hid HBn1.out
      try go_wp2_with fail
      refine hK.out _ _ ?_ (fun hHeld => ?_)
      · exact (HKEEP.out _ HBn2.out).2
      clear hK K
      try simp only [Act.put, List.setIfInBounds_toArray, List.set_cons_zero, List.set_cons_succ, List.getElem_toArray, List.getElem_cons_zero, List.getElem_cons_succ]
      clear hc12
      refine wpAnyH_take (i := 5) (v := ?_) rfl (by kernel_rfl) (by kernel_rfl) (by kernel_rfl) (fun _ _ _ h => h) (Or.inl ⟨by rfl, ?_⟩) (by assumption) ?_
      rotate_left 1
      · (intro w hSw; (try dsimp only at hSw); first | (go_simp; done) | (go_simp; with_reducible rfl))
      try simp only [Act.put, List.setIfInBounds_toArray, List.set_cons_zero, List.set_cons_succ, List.getElem_toArray, List.getElem_cons_zero, List.getElem_cons_succ]
      refine wpAnyH_ready (rs := [7]) (by kernel_rfl) (by simp) ?_
      refine AllReadyH.cons rfl (fun K hK => ?_) AllReadyH.nil
      go_simp
      have hbd : Below Wn1.heap.size Wn1 (Wn1.alloc (.cells #[.int .i64 0, .int .i64 0] 76)) := (Below.refl _ _).alloc (Nat.le_refl _) _
      have HBn3 := Lib.hid (show Below W4.heap.size W4 (Wn1.alloc (.cells #[.int .i64 0, .int .i64 0] 76)) from HBn2.out.alloc HBn2.out.size _)
      have HF7 : Hid (Rr accK (Wn1.alloc (.cells #[.int .i64 0, .int .i64 0] 76)) (.slice (some ⟨Wn1.heap.size, 0, none⟩) 1 1) [(0, 0)]) := Lib.hid (lit_accq Wn1 76 0 0 ⟨by decide, by decide⟩ ⟨by decide, by decide⟩)
      replace HT1 := Lib.hid (HT1.out.below hbd)
      replace HR4 := Lib.hid (HR4.out.below hbd)
      replace HF10 := Lib.hid (HF10.out.below hbd)
      clear hbd
      try go_wp2_with fail
      refine hK.out _ _ ?_ (fun hHeld => ?_)
      · exact (HKEEP.out _ HBn3.out).2
      clear hK K
      try simp only [Act.put, List.setIfInBounds_toArray, List.set_cons_zero, List.set_cons_succ, List.getElem_toArray, List.getElem_cons_zero, List.getElem_cons_succ]
      generalize Wn1.alloc (.cells #[.int .i64 0, .int .i64 0] 76) = Wn3 at *
      generalize Wn1.heap.size = y7 at *
      refine wpAnyH_ready (rs := [11]) (by kernel_rfl) (by simp) ?_
      refine AllReadyH.cons rfl (fun K hK => ?_) AllReadyH.nil
      go_simp
      try go_wp2_with fail
      refine hK.out _ _ ?_ (fun hHeld => ?_)
      · exact (HKEEP.out _ (HBn3.out.alloc HBn3.out.size _)).2
      clear hK K
      try simp only [Act.put, List.setIfInBounds_toArray, List.set_cons_zero, List.set_cons_succ, List.getElem_toArray, List.getElem_cons_zero, List.getElem_cons_succ]
      refine wpAnyH_ready (rs := [12]) (by kernel_rfl) (by simp) ?_
      refine AllReadyH.cons rfl (fun K hK => ?_) AllReadyH.nil
      go_simp
      go_at_call 30
      refine (concat4_any (w := Wn3) (s1 := ⟨some ⟨eb, eoff, none⟩, 1, ecap⟩) (s2 := ⟨some ⟨y7, 0, none⟩, 1, 1⟩) (s3 := ⟨o4, n4, d4⟩) (s4 := ⟨some ⟨y10, 0, none⟩, 1, 1⟩) HT1.out HF7.out HR4.out HF10.out (by have h1 := HM4.out; have h2 := HN4.out; simp; omega)).mono ?_
      rintro e W7 ⟨v7, rfl, ho7, hb7⟩
      have HB7 := Lib.hid (HBn3.out.trans (hb7.mono HBn3.out.size))
      obtain ⟨o7, d7, rfl⟩ := ho7.form2
      have hW7 : Below W1.heap.size W1 W7 := HB4.out.trans (HB7.out.mono HB4.out.size)
      have hd7 := HR1.out.all hW7
      have hv7 := World.ownsRow.lt ho7
      have HS7 := Lib.hid ((ho7.sl HWD.out).rr)
      generalize hn7 : (List.take 1 (D0 :: D') ++ [(0, 0)] ++ m5 (P.eraseIdx i0) ++ [(5, q)]).length = n7 at *
      have HV7 : Hid (∀ g, (Value.slice o7 n7 d7).ownBlock = some g → w.heap.size ≤ g) := Lib.hid (fun g hg => by
        have h1 := (hv7 g hg).1
        have h2 := HSZ.out
        have h3 := HB4.out.size
        have h4 := HBn3.out.size
        omega)
      have HE7 := Lib.hid (hd7.setD HS7.out (fun g hg => ⟨blk_mem (by have := HV7.out g hg; have := HSZ.out; omega) (hv7 g hg).2, fun e => by have := HV7.out g hg; have := HAL.out; omega⟩))
      obtain ⟨k0, k1, k2, k3, k12, k13, k14, k15, k16, kf⟩ := hd7.pa.cells
      have HNX : Hid (W1.heap.size ≠ a) := Lib.hid (by have := HSZ.out; have := HAL.out; omega)
      clear ho7 hb7 hW7 hd7 hn7 hv7
      try go_wp2_with fail
      refine hK.out _ _ ?_ (fun hHeld => ?_)
      · exact (HKEEP.out _ HB7.out).2
      clear hK K
      try simp only [Act.put, List.setIfInBounds_toArray, List.set_cons_zero, List.set_cons_succ, List.getElem_toArray, List.getElem_cons_zero, List.getElem_cons_succ]
      refine wpAnyH_take (i := 13) (v := ?_) rfl (by kernel_rfl) (by kernel_rfl) (by kernel_rfl) (fun _ _ _ h => h) (Or.inl ⟨by rfl, ?_⟩) (by assumption) ?_
      rotate_left 1
      · (intro w hSw; (try dsimp only at hSw); first | (go_simp; done) | (go_simp; with_reducible rfl))
      try simp only [Act.put, List.setIfInBounds_toArray, List.set_cons_zero, List.set_cons_succ, List.getElem_toArray, List.getElem_cons_zero, List.getElem_cons_succ]
      refine wpAnyH_take (i := 14) (v := ?_) rfl (by kernel_rfl) (by kernel_rfl) (by kernel_rfl) (fun _ _ _ h => h) (Or.inl ⟨by rfl, ?_⟩) (by assumption) ?_
      rotate_left 1
      · (intro w hSw; (try dsimp only at hSw); first | (go_simp; done) | (go_simp; with_reducible rfl))
      try simp only [Act.put, List.setIfInBounds_toArray, List.set_cons_zero, List.set_cons_succ, List.getElem_toArray, List.getElem_cons_zero, List.getElem_cons_succ]
      refine wpAnyH_ready (rs := [15]) (by kernel_rfl) (by simp) ?_
      refine AllReadyH.cons rfl (fun K hK => ?_) AllReadyH.nil
      go_simp
      try go_wp2_with fail
      refine hK.out _ _ ?_ (fun hHeld => ?_)
      · exact ⟨(World.cell?_setCell_far _ _ _ _ (Ne.symm HNX.out)).trans (HKEEP.out _ HB7.out).2.1, (World.cell?_setCell_far _ _ _ _ (Ne.symm HNX.out)).trans (HKEEP.out _ HB7.out).2.2⟩
      clear hK K
      try simp only [Act.put, List.setIfInBounds_toArray, List.set_cons_zero, List.set_cons_succ, List.getElem_toArray, List.getElem_cons_zero, List.getElem_cons_succ]
      refine wpAnyH_done (by kernel_rfl) ?_ _
      go_wp2_with fail
      first | go_ret | go_end0
      refine ⟨rfl, _, _, ?_, ?_, HV7.out, HE7.out⟩
      · exact blk_old
      · rw [← HSZ.out]; exact blk_inv
    · skip
      go_simp
      have hbd : Below Wn1.heap.size Wn1 (Wn1.alloc (.cells #[.int .i64 0, .int .i64 0] 76)) := (Below.refl _ _).alloc (Nat.le_refl _) _
      have HBn2 := Lib.hid (show Below W4.heap.size W4 (Wn1.alloc (.cells #[.int .i64 0, .int .i64 0] 76)) from HBn1.out.alloc HBn1.out.size _)
      have HF7 : Hid (Rr accK (Wn1.alloc (.cells #[.int .i64 0, .int .i64 0] 76)) (.slice (some ⟨Wn1.heap.size, 0, none⟩) 1 1) [(0, 0)]) := Lib.hid (lit_accq Wn1 76 0 0 ⟨by decide, by decide⟩ ⟨by decide, by decide⟩)
      replace HT1 := Lib.hid (HT1.out.below hbd)
      replace HR4 := Lib.hid (HR4.out.below hbd)
      replace HF10 := Lib.hid (HF10.out.below hbd)
      clear hbd
      try go_wp2_with fail
      refine hK.out _ _ ?_ (fun hHeld => ?_)
      · exact (HKEEP.out _ HBn2.out).2
      clear hK K
      try simp only [Act.put, List.setIfInBounds_toArray, List.set_cons_zero, List.set_cons_succ, List.getElem_toArray, List.getElem_cons_zero, List.getElem_cons_succ]
      generalize Wn1.alloc (.cells #[.int .i64 0, .int .i64 0] 76) = Wn2 at *
      generalize Wn1.heap.size = y7 at *
      refine wpAnyH_ready (rs := [4]) (by kernel_rfl) (by simp) ?_
      refine AllReadyH.cons rfl (fun K hK => ?_) AllReadyH.nil
      have hc12 := (HKEEP.out _ HBn2.out).1
      go_simp
      have HBn3 := Lib.hid HBn2.out
      try go_wp2_with fail
      refine hK.out _ _ ?_ (fun hHeld => ?_)
      · exact (HKEEP.out _ HBn3.out).2
      clear hK K
      try simp only [Act.put, List.setIfInBounds_toArray, List.set_cons_zero, List.set_cons_succ, List.getElem_toArray, List.getElem_cons_zero, List.getElem_cons_succ]
      clear hc12
      refine wpAnyH_take (i := 5) (v := ?_) rfl (by kernel_rfl) (by kernel_rfl) (by kernel_rfl) (fun _ _ _ h => h) (Or.inl ⟨by rfl, ?_⟩) (by assumption) ?_
      rotate_left 1
      · (intro w hSw; (try dsimp only at hSw); first | (go_simp; done) | (go_simp; with_reducible rfl))
      try simp only [Act.put, List.setIfInBounds_toArray, List.set_cons_zero, List.set_cons_succ, List.getElem_toArray, List.getElem_cons_zero, List.getElem_cons_succ]
      refine wpAnyH_ready (rs := [11]) (by kernel_rfl) (by simp) ?_
      refine AllReadyH.cons rfl (fun K hK => ?_) AllReadyH.nil
      go_simp
      try go_wp2_with fail
      refine hK.out _ _ ?_ (fun hHeld => ?_)
      · exact (HKEEP.out _ (HBn3.out.alloc HBn3.out.size _)).2
      clear hK K
      try simp only [Act.put, List.setIfInBounds_toArray, List.set_cons_zero, List.set_cons_succ, List.getElem_toArray, List.getElem_cons_zero, List.getElem_cons_succ]
      refine wpAnyH_ready (rs := [12]) (by kernel_rfl) (by simp) ?_
      refine AllReadyH.cons rfl (fun K hK => ?_) AllReadyH.nil
      go_simp
      go_at_call 30
      refine (concat4_any (w := Wn2) (s1 := ⟨some ⟨eb, eoff, none⟩, 1, ecap⟩) (s2 := ⟨some ⟨y7, 0, none⟩, 1, 1⟩) (s3 := ⟨o4, n4, d4⟩) (s4 := ⟨some ⟨y10, 0, none⟩, 1, 1⟩) HT1.out HF7.out HR4.out HF10.out (by have h1 := HM4.out; have h2 := HN4.out; simp; omega)).mono ?_
      rintro e W7 ⟨v7, rfl, ho7, hb7⟩
      have HB7 := Lib.hid (HBn3.out.trans (hb7.mono HBn3.out.size))
      obtain ⟨o7, d7, rfl⟩ := ho7.form2
      have hW7 : Below W1.heap.size W1 W7 := HB4.out.trans (HB7.out.mono HB4.out.size)
      have hd7 := HR1.out.all hW7
      have hv7 := World.ownsRow.lt ho7
      have HS7 := Lib.hid ((ho7.sl HWD.out).rr)
      generalize hn7 : (List.take 1 (D0 :: D') ++ [(0, 0)] ++ m5 (P.eraseIdx i0) ++ [(5, q)]).length = n7 at *
      have HV7 : Hid (∀ g, (Value.slice o7 n7 d7).ownBlock = some g → w.heap.size ≤ g) := Lib.hid (fun g hg => by
        have h1 := (hv7 g hg).1
        have h2 := HSZ.out
        have h3 := HB4.out.size
        have h4 := HBn3.out.size
        omega)
      have HE7 := Lib.hid (hd7.setD HS7.out (fun g hg => ⟨blk_mem (by have := HV7.out g hg; have := HSZ.out; omega) (hv7 g hg).2, fun e => by have := HV7.out g hg; have := HAL.out; omega⟩))
      obtain ⟨k0, k1, k2, k3, k12, k13, k14, k15, k16, kf⟩ := hd7.pa.cells
      have HNX : Hid (W1.heap.size ≠ a) := Lib.hid (by have := HSZ.out; have := HAL.out; omega)
      clear ho7 hb7 hW7 hd7 hn7 hv7
      try go_wp2_with fail
      refine hK.out _ _ ?_ (fun hHeld => ?_)
      · exact (HKEEP.out _ HB7.out).2
      clear hK K
      try simp only [Act.put, List.setIfInBounds_toArray, List.set_cons_zero, List.set_cons_succ, List.getElem_toArray, List.getElem_cons_zero, List.getElem_cons_succ]
      refine wpAnyH_take (i := 13) (v := ?_) rfl (by kernel_rfl) (by kernel_rfl) (by kernel_rfl) (fun _ _ _ h => h) (Or.inl ⟨by rfl, ?_⟩) (by assumption) ?_
      rotate_left 1
      · (intro w hSw; (try dsimp only at hSw); first | (go_simp; done) | (go_simp; with_reducible rfl))
      try simp only [Act.put, List.setIfInBounds_toArray, List.set_cons_zero, List.set_cons_succ, List.getElem_toArray, List.getElem_cons_zero, List.getElem_cons_succ]
      refine wpAnyH_take (i := 14) (v := ?_) rfl (by kernel_rfl) (by kernel_rfl) (by kernel_rfl) (fun _ _ _ h => h) (Or.inl ⟨by rfl, ?_⟩) (by assumption) ?_
      rotate_left 1
      · (intro w hSw; (try dsimp only at hSw); first | (go_simp; done) | (go_simp; with_reducible rfl))
      try simp only [Act.put, List.setIfInBounds_toArray, List.set_cons_zero, List.set_cons_succ, List.getElem_toArray, List.getElem_cons_zero, List.getElem_cons_succ]
      refine wpAnyH_ready (rs := [15]) (by kernel_rfl) (by simp) ?_
      refine AllReadyH.cons rfl (fun K hK => ?_) AllReadyH.nil
      go_simp
      try go_wp2_with fail
      refine hK.out _ _ ?_ (fun hHeld => ?_)
      · exact ⟨(World.cell?_setCell_far _ _ _ _ (Ne.symm HNX.out)).trans (HKEEP.out _ HB7.out).2.1, (World.cell?_setCell_far _ _ _ _ (Ne.symm HNX.out)).trans (HKEEP.out _ HB7.out).2.2⟩
      clear hK K
      try simp only [Act.put, List.setIfInBounds_toArray, List.set_cons_zero, List.set_cons_succ, List.getElem_toArray, List.getElem_cons_zero, List.getElem_cons_succ]
      refine wpAnyH_done (by kernel_rfl) ?_ _
      go_wp2_with fail
      first | go_ret | go_end0
      refine ⟨rfl, _, _, ?_, ?_, HV7.out, HE7.out⟩
      · exact blk_old
      · rw [← HSZ.out]; exact blk_inv
end
end Go.Proofs.Ytmggnalobfihnaa.Pl
