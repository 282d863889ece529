/-
  THE LAW BatchGreat, walked.
-/
import Derived.Test.YtcjbmeebenaonaaBatchLawMath
import Derived.Test.YtcjbmeebenaonaaBatchTold
import Derived.IntWalk
namespace Go.Proofs.Ytcjbmeebenaonaa.Batch
open Go.RowKit
set_option linter.unusedVariables false

def one0 (n : Int) : Int := if n.tmod 576460752303423489 = 0 then 1 else n.tmod 576460752303423489
theorem one0_range (n : Int) : -576460752303423488 ≤ one0 n ∧ one0 n ≤ 576460752303423488 ∧ one0 n ≠ 0 := by
  have h1 := Int.tmod_lt_of_pos n (show (0 : Int) < 576460752303423489 by decide)
  have h2 := Int.tmod_lt_of_pos (-n) (show (0 : Int) < 576460752303423489 by decide)
  rw [Int.neg_tmod] at h2
  unfold one0
  split <;> omega
theorem two_cells {w : World} {G : Nat} {x y : Int} {T : TypeId} (h : w.heap[G]? = some (.cells #[.int .i64 x, .int .i64 y] T (0, 0))) : w.cell? ⟨G, 0, none⟩ = some (.int .i64 x) ∧ w.cell? ⟨G, 1, none⟩ = some (.int .i64 y) ∧ ∀ o, w.frozen? ⟨G, o, none⟩ = false := by
  refine ⟨?_, ?_, fun o => ?_⟩ <;> simp [World.cell?, World.frozen?, h]
theorem two_set0 {w : World} {G : Nat} {x y z : Int} {T : TypeId} (h : w.heap[G]? = some (.cells #[.int .i64 x, .int .i64 y] T (0, 0))) : (w.setCell ⟨G, 0, none⟩ (.int .i64 z)).heap[G]? = some (.cells #[.int .i64 z, .int .i64 y] T (0, 0)) := heap_setCell_same w G 0 _ T _ h
theorem two_set1 {w : World} {G : Nat} {x y z : Int} {T : TypeId} (h : w.heap[G]? = some (.cells #[.int .i64 x, .int .i64 y] T (0, 0))) : (w.setCell ⟨G, 1, none⟩ (.int .i64 z)).heap[G]? = some (.cells #[.int .i64 x, .int .i64 z] T (0, 0)) := heap_setCell_same w G 1 _ T _ h
theorem blk_keep {w w1 : World} {G : Nat} {o : Obj} (h : w.heap[G]? = some o) (hb : Below w.heap.size w w1) : w1.heap[G]? = some o := (hb.block G (Array.getElem?_eq_some_iff.1 h).1).trans h
theorem two_new (w : World) (x y : Ch) (T : TypeId) (hx : x.Wf) (hy : y.Wf) : Sl (((w.alloc (.cells #[.int .i64 x.p, .int .u64 x.t, .int .i64 x.d] T)).alloc (.cells #[.int .i64 y.p, .int .u64 y.t, .int .i64 y.d] T)).drew) (.slice (some ⟨w.heap.size, 0, none⟩) 1 1) [x] ∧
    Sl (((w.alloc (.cells #[.int .i64 x.p, .int .u64 x.t, .int .i64 x.d] T)).alloc (.cells #[.int .i64 y.p, .int .u64 y.t, .int .i64 y.d] T)).drew) (.slice (some ⟨w.heap.size + 1, 0, none⟩) 1 1) [y] ∧ Below w.heap.size w (((w.alloc (.cells #[.int .i64 x.p, .int .u64 x.t, .int .i64 x.d] T)).alloc (.cells #[.int .i64 y.p, .int .u64 y.t, .int .i64 y.d] T)).drew) := by
  have h1 := sl_new w [x] T (by intro z hz; simp at hz; subst hz; exact hx) (by simp)
  have h2 := sl_new (w.alloc (.cells #[.int .i64 x.p, .int .u64 x.t, .int .i64 x.d] T)) [y] T (by intro z hz; simp at hz; subst hz; exact hy) (by simp)
  have e : (w.alloc (.cells #[.int .i64 x.p, .int .u64 x.t, .int .i64 x.d] T)).heap.size = w.heap.size + 1 := by simp
  have h1 : Sl (w.alloc (.cells #[.int .i64 x.p, .int .u64 x.t, .int .i64 x.d] T)) (.slice (some ⟨w.heap.size, 0, none⟩) 1 1) [x] := h1
  rw [e] at h2
  have b1 : Below w.heap.size w (w.alloc (.cells #[.int .i64 x.p, .int .u64 x.t, .int .i64 x.d] T)) := (Below.refl _ _).alloc (Nat.le_refl _) _
  have b2 : Below (w.heap.size + 1) (w.alloc (.cells #[.int .i64 x.p, .int .u64 x.t, .int .i64 x.d] T)) (((w.alloc (.cells #[.int .i64 x.p, .int .u64 x.t, .int .i64 x.d] T)).alloc (.cells #[.int .i64 y.p, .int .u64 y.t, .int .i64 y.d] T)).drew) := by
    have := ((Below.refl (w.alloc (.cells #[.int .i64 x.p, .int .u64 x.t, .int .i64 x.d] T)).heap.size (w.alloc (.cells #[.int .i64 x.p, .int .u64 x.t, .int .i64 x.d] T))).alloc (Nat.le_refl _) (.cells #[.int .i64 y.p, .int .u64 y.t, .int .i64 y.d] T)).drew
    rw [e] at this
    exact this
  refine ⟨h1.below (by rw [e]; exact b2), h2.below (((Below.refl _ _).drew)), b1.trans (b2.mono (Nat.le_succ _))⟩
theorem ch_wf {P T V : Int} (h0 : 0 ≤ P) (h1 : P < 64) (h2 : 0 ≤ T) (h3 : T < 18446744073709551615) (h4 : -576460752303423488 ≤ V) (h5 : V ≤ 576460752303423488) : (⟨P, T, V⟩ : Ch).Wf := ⟨by simp only; omega, by simp only; omega, by simp only; omega, by simp only; omega, by simp only; omega, by simp only; omega⟩
theorem great_tab (P T V0 V1 : Int) : tab ([⟨P, T, V0⟩] ++ [⟨P, T, V1⟩]) = [⟨P, T, wr (V0 + V1)⟩] := by
  show add ⟨P, T, V1⟩ [⟨P, T, V0⟩] = _
  unfold add
  rw [if_neg (fun h => h.not_key ⟨rfl, rfl⟩), if_pos ⟨rfl, rfl⟩]
theorem great_over {P T V0 V1 : Int} (h : V0 + V1 < -576460752303423488 ∨ 576460752303423488 < V0 + V1) (h0 : -2000000000000000000 ≤ V0 + V1) (h1 : V0 + V1 ≤ 2000000000000000000) : sumsE ([⟨P, T, V0⟩] ++ [⟨P, T, V1⟩]) = 10 ∧ sumsR ([⟨P, T, V0⟩] ++ [⟨P, T, V1⟩]) = [] := by
  refine sums_over ?_
  unfold overK
  rw [great_tab, wr_id (by omega) (by omega)]
  simp only [List.any_cons, List.any_nil, Bool.or_false]
  exact decide_eq_true h
theorem great_ok {P T V0 V1 : Int} (h : ¬ (V0 + V1 < -576460752303423488 ∨ 576460752303423488 < V0 + V1)) : sumsE ([⟨P, T, V0⟩] ++ [⟨P, T, V1⟩]) = 0 ∧ sumsR ([⟨P, T, V0⟩] ++ [⟨P, T, V1⟩]) = if V0 + V1 = 0 then [] else [⟨P, T, V0 + V1⟩] := by
  have hk : overK ([⟨P, T, V0⟩] ++ [⟨P, T, V1⟩]) = false := by
    unfold overK
    rw [great_tab, wr_id (by omega) (by omega)]
    simp only [List.any_cons, List.any_nil, Bool.or_false]
    exact decide_eq_false h
  obtain ⟨h1, h2⟩ := sums_ok hk
  refine ⟨h1, ?_⟩
  rw [h2]
  unfold sumL
  rw [great_tab, wr_id (by omega) (by omega)]
  unfold nzB
  by_cases h0 : V0 + V1 = 0
  · rw [if_pos h0]; simp [h0]
  · rw [if_neg h0]; simp [h0]
theorem tot_lone (P T V p t : Int) : tot [⟨P, T, V⟩] p t = if P = p ∧ T = t then V else 0 := by simp [tot]
/-- The two that are laid, up to i. -/
def Laid2 (n0 n1 : Int) (i : Nat) (x y : Int) : Prop := (0 < i → x = one0 n0) ∧ (1 < i → y = one0 n1)
set_option maxRecDepth 1000000 in
set_option maxHeartbeats 8000000 in
theorem great_any {w : World} (p t n0 n1 : Int) (ht0 : 0 ≤ t) :
    Calls Try.prog 5 #[.int .i64 p, .int .u64 t, .agg #[.int .i64 n0, .int .i64 n1]] w fun e w' => e = .returned (.bool true) ∧ Below w.heap.size w w' := by
  obtain ⟨P, hP⟩ : ∃ P, wrap64 ((IntKind.u64.wrap p).tmod 64) = P := ⟨_, rfl⟩
  have hP' : IntKind.i64.wrap ((IntKind.u64.wrap p).tmod 64) = P := by rw [← hP, wrap64_wr, wr_i64]
  obtain ⟨T, hT⟩ : ∃ T, t.tmod 18446744073709551615 = T := ⟨_, rfl⟩
  have HP := Lib.hid (show 0 ≤ P ∧ P < 64 by
    have h := tmod_pos (u64_wrap_range p).1 (show (0 : Int) < 64 by decide)
    rw [← hP, wrap64_wr, wr_id (by omega) (by omega)]
    exact h)
  have HT := Lib.hid (show 0 ≤ T ∧ T < 18446744073709551615 by rw [← hT]; exact tmod_pos ht0 (by decide))
  clear ht0
  go_enter Try.func5, Try.ntmps5
  go_wp2_with fail
  clear hP hP' hT
  go_loopg [10] 2 (fun k c wr => ∃ (i : Nat) (x y : Int), i + k = 2 ∧ c = .int .i64 i ∧ Laid2 n0 n1 i x y ∧ Below w.heap.size w wr ∧ wr.heap[w.heap.size]? = some (.cells #[.int .i64 n0, .int .i64 n1] 43 (0, 0)) ∧ wr.heap[w.heap.size + 1]? = some (.cells #[.int .i64 x, .int .i64 y] 43 (0, 0)))
  case atStart =>
    refine ⟨0, 0, 0, rfl, rfl, ⟨fun h => absurd h (by decide), fun h => absurd h (by decide)⟩, ((Below.refl _ _).alloc (Nat.le_refl _) _).alloc (by simp) _, ?_, ?_⟩
    · rw [heap_alloc_old _ _ (by simp)]
      exact heap_alloc_new w _
    · have h := heap_alloc_new (w.alloc (.cells #[.int .i64 n0, .int .i64 n1] 43)) (.cells #[.int .i64 0, .int .i64 0] 43)
      simpa using h
  case round =>
    obtain ⟨i, x, y, hik, hc, hl, hbw, hn, hv⟩ := hrel
    obtain ⟨a0, a1, af⟩ := two_cells hn
    obtain ⟨b0, b1, bf⟩ := two_cells hv
    have hl := Lib.hid hl
    have HIK := Lib.hid hik
    have HBW := Lib.hid hbw
    have HN := Lib.hid hn
    have HV2 := Lib.hid hv
    clear hbw hn hv
    rcases (show i = 0 ∨ i = 1 ∨ i = 2 by omega) with rfl | rfl | rfl
    all_goals
      obtain rfl := hc
      clear hik
    · by_cases hm : n0.tmod 576460752303423489 = 0
      · have HV := Lib.hid (show 1 = one0 n0 by unfold one0; rw [if_pos hm])
        go_wp2_with fail
        go_roundg 1
        case measure => have := HIK.out; omega
        case rel =>
          refine ⟨1, _, _, rfl, by go_num, ⟨fun _ => HV.out, fun h => absurd h (by decide)⟩, (HBW.out.setCell (by simp) _).setCell (by simp) _, ?_, two_set0 (two_set0 HV2.out)⟩
          rw [heap_setCell_other _ _ _ _ (by simp), heap_setCell_other _ _ _ _ (by simp)]
          exact HN.out
      · have he : (n0.tmod 576460752303423489 == 0) = false := by rw [beq_eq_false_iff_ne]; exact hm
        have HV := Lib.hid (show n0.tmod 576460752303423489 = one0 n0 by unfold one0; rw [if_neg hm])
        clear hm
        go_wp2_with fail
        go_roundg 1
        case measure => have := HIK.out; omega
        case rel =>
          refine ⟨1, _, _, rfl, by go_num, ⟨fun _ => HV.out, fun h => absurd h (by decide)⟩, HBW.out.setCell (by simp) _, ?_, two_set0 HV2.out⟩
          rw [heap_setCell_other _ _ _ _ (by simp)]
          exact HN.out
    · by_cases hm : n1.tmod 576460752303423489 = 0
      · have HV := Lib.hid (show 1 = one0 n1 by unfold one0; rw [if_pos hm])
        go_wp2_with fail
        go_roundg 0
        case measure => have := HIK.out; omega
        case rel =>
          refine ⟨2, _, _, rfl, by go_num, ⟨fun _ => hl.out.1 (by decide), fun _ => HV.out⟩, (HBW.out.setCell (by simp) _).setCell (by simp) _, ?_, two_set1 (two_set1 HV2.out)⟩
          rw [heap_setCell_other _ _ _ _ (by simp), heap_setCell_other _ _ _ _ (by simp)]
          exact HN.out
      · have he : (n1.tmod 576460752303423489 == 0) = false := by rw [beq_eq_false_iff_ne]; exact hm
        have HV := Lib.hid (show n1.tmod 576460752303423489 = one0 n1 by unfold one0; rw [if_neg hm])
        clear hm
        go_wp2_with fail
        go_roundg 0
        case measure => have := HIK.out; omega
        case rel =>
          refine ⟨2, _, _, rfl, by go_num, ⟨fun _ => hl.out.1 (by decide), fun _ => HV.out⟩, HBW.out.setCell (by simp) _, ?_, two_set1 HV2.out⟩
          rw [heap_setCell_other _ _ _ _ (by simp)]
          exact HN.out
    · have hx := hl.out.1 (by decide)
      have hy := hl.out.2 (by decide)
      subst hx hy
      have hG : w.heap.size + 1 < wr.heap.size := (Array.getElem?_eq_some_iff.1 HV2.out).1
      have hG1 : w.heap.size + 1 ≠ wr.heap.size := by omega
      have hG2 : w.heap.size + 1 ≠ wr.heap.size + 1 := by omega
      have HV0 := Lib.hid (one0_range n0)
      have HV1 := Lib.hid (one0_range n1)
      generalize one0 n0 = V0 at *
      generalize one0 n1 = V1 at *
      clear hl a0 a1 af
      have hV0 := HV0.out.1
      have hV0' := HV0.out.2
      have hV1 := HV1.out.1
      have hV1' := HV1.out.2
      have HWa := Lib.hid (ch_wf HP.out.1 HP.out.2 HT.out.1 HT.out.2 hV0 hV0'.1)
      have HWb := Lib.hid (ch_wf HP.out.1 HP.out.2 HT.out.1 HT.out.2 hV1 hV1'.1)
      clear hV0 hV0' hV1 hV1'
      go_wp2_with fail
      go_region
      focus
        obtain ⟨hsa, hsb, hbn⟩ := two_new wr ⟨P, T, V0⟩ ⟨P, T, V1⟩ 45 HWa.out HWb.out
        have HA := Lib.hid hsa
        have HBb := Lib.hid hsb
        have HBn := Lib.hid hbn
        clear hsa hsb hbn
      rotate_left 1
      focus
        obtain ⟨hsb, hsa, hbn⟩ := two_new wr ⟨P, T, V1⟩ ⟨P, T, V0⟩ 45 HWb.out HWa.out
        have HA := Lib.hid hsa
        have HBb := Lib.hid hsb
        have HBn := Lib.hid hbn
        clear hsa hsb hbn
      all_goals
        have HB := Lib.hid (HBW.out.trans (HBn.out.mono HBW.out.size))
        have HVc := Lib.hid (blk_keep HV2.out HBn.out)
        clear HBW HBn HV2 HN b0 b1 bf hG hG1 hG2
        go_wp2_with fail
        go_at_call 7
        refine (to_any HA.out.rd (by simp)).mono ?_
        rintro e w1 ⟨v, rfl, hown, hb⟩
        replace HA := Lib.hid (HA.out.below hb)
        replace HBb := Lib.hid (HBb.out.below hb)
        replace HB := Lib.hid (HB.out.trans (hb.mono HB.out.size))
        have HA1 := Lib.hid (hown.sl HA.out.wf)
        obtain ⟨ao1, cap1, rfl, _⟩ := hown.form'
        replace HVc := Lib.hid (blk_keep HVc.out hb)
        clear hown hb
        go_wp2_with fail
        go_at_call 7
        refine (to_any HBb.out.rd (by simp)).mono ?_
        rintro e w2 ⟨v, rfl, hown, hb⟩
        replace HA := Lib.hid (HA.out.below hb)
        replace HBb := Lib.hid (HBb.out.below hb)
        replace HA1 := Lib.hid (HA1.out.below hb)
        replace HB := Lib.hid (HB.out.trans (hb.mono HB.out.size))
        have HB1 := Lib.hid (hown.sl HBb.out.wf)
        obtain ⟨ao2, cap2, rfl, _⟩ := hown.form'
        replace HVc := Lib.hid (blk_keep HVc.out hb)
        clear hown hb
        have hs1 : Sorted [(⟨P, T, V0⟩ : Ch)] := by unfold Sorted; simp
        have hs2 : Sorted [(⟨P, T, V1⟩ : Ch)] := by unfold Sorted; simp
        have HMG := Lib.hid (merge_any HA1.out HB1.out hs1 hs2 (by simp))
        clear hs1 hs2
        have hV0 := HV0.out.1
        have hV0' := HV0.out.2.1
        have hV1 := HV1.out.1
        have hV1' := HV1.out.2.1
        by_cases hov : V0 + V1 < -576460752303423488 ∨ 576460752303423488 < V0 + V1
        · have HG := Lib.hid (great_over (P := P) (T := T) hov (by omega) (by omega))
          have HOV := Lib.hid hov
          go_wp2_with fail
          go_at_call 16
          refine HMG.out.mono ?_
          rw [HG.out.1, HG.out.2]
          rintro e wm ⟨v, rfl, hown, hb⟩
          replace HB := Lib.hid (HB.out.trans (hb.mono HB.out.size))
          replace HVc := Lib.hid (blk_keep HVc.out hb)
          obtain ⟨aom, capm, rfl, _⟩ := hown.form'
          obtain ⟨b0, b1, bf⟩ := two_cells HVc.out
          clear hown hb
          rcases hov with hov | hov
          case' inl => have hnot : ¬ (576460752303423488 < V0 + V1) := by omega
          all_goals
            go_wp2_with fail
            go_at_call 10
            refine (told_any _).mono ?_
            rintro e wt ⟨rfl, hb⟩
            replace HB := Lib.hid (HB.out.trans (hb.mono HB.out.size))
            clear hb
            go_wp2_with fail
            go_ret
            exact ⟨rfl, HB.out⟩
        · have HG := Lib.hid (great_ok (P := P) (T := T) hov)
          have hn1 : ¬ (576460752303423488 < V0 + V1) := fun h => hov (.inr h)
          have hn2 : ¬ (V0 + V1 < -576460752303423488) := fun h => hov (.inl h)
          clear hov
          by_cases hz : V0 + V1 = 0
          case' pos =>
            have HG2 := Lib.hid (show sumsR ([⟨P, T, V0⟩] ++ [⟨P, T, V1⟩]) = [] by rw [HG.out.2, if_pos hz])
            have HSx := Lib.hid (show (∀ x ∈ ([] : List Ch), x.Wf) ∧ ([] : List Ch).Pairwise Lt ∧ tot [] P T = V0 + V1 by rw [hz]; exact ⟨by simp, by simp, rfl⟩)
            have hze : (V0 + V1 == 0) = true := by rw [beq_iff_eq]; exact hz
          case' neg =>
            have HG2 := Lib.hid (show sumsR ([⟨P, T, V0⟩] ++ [⟨P, T, V1⟩]) = [⟨P, T, V0 + V1⟩] by rw [HG.out.2, if_neg hz])
            have HSx := Lib.hid (show (∀ x ∈ [(⟨P, T, V0 + V1⟩ : Ch)], x.Wf) ∧ [(⟨P, T, V0 + V1⟩ : Ch)].Pairwise Lt ∧ tot [(⟨P, T, V0 + V1⟩ : Ch)] P T = V0 + V1 from
              ⟨by intro x hx; simp at hx; subst hx; exact ch_wf HP.out.1 HP.out.2 HT.out.1 HT.out.2 (by omega) (by omega), by simp, by rw [tot_lone, if_pos ⟨rfl, rfl⟩]⟩)
            have hze : (V0 + V1 == 0) = false := by rw [beq_eq_false_iff_ne]; exact hz
          all_goals
            clear hz
            go_wp2_with fail
            go_at_call 16
            refine HMG.out.mono ?_
            rw [HG.out.1, HG2.out]
            rintro e wm ⟨v, rfl, hown, hb⟩
            replace HB := Lib.hid (HB.out.trans (hb.mono HB.out.size))
            replace HVc := Lib.hid (blk_keep HVc.out hb)
            replace HA := Lib.hid (HA.out.below hb)
            have HX := Lib.hid (hown.sl HSx.out.1)
            obtain ⟨aom, capm, rfl, _⟩ := hown.form'
            obtain ⟨b0, b1, bf⟩ := two_cells HVc.out
            have HGl := Lib.hid (show w.heap.size + 1 < wm.heap.size from (Array.getElem?_eq_some_iff.1 HVc.out).1)
            have HOx := Lib.hid (fun W (h : Below wm.heap.size wm W) => of_any P T (HX.out.below h) HSx.out.2.1 (by simp))
            have HTo := Lib.hid (fun W (h : Below wm.heap.size wm W) => to_any (HA.out.below h).rd (by simp))
            have HTx := Lib.hid HSx.out.2.2
            have HP1 := Lib.hid (show [(⟨P, T, V0⟩ : Ch)].Pairwise Lt by simp)
            have HTa := Lib.hid (show tot [(⟨P, T, V0⟩ : Ch)] P T = V0 by rw [tot_lone, if_pos ⟨rfl, rfl⟩])
            have HTb := Lib.hid (show tot [(⟨P, T, V0⟩ : Ch)] P (T + 1) = 0 by rw [tot_lone, if_neg (by omega)])
            have hT1 : 0 ≤ T := HT.out.1
            have hT2 : T < 18446744073709551615 := HT.out.2
            have hTw : IntKind.u64.wrap (T + 1) = T + 1 := by rw [IntKind.wrap_u64]; omega
            have hSw : IntKind.i64.wrap (V0 + V1) = V0 + V1 := IntWalk.i64_in _ (by omega)
            clear hown hb
            go_wp2_with fail
            refine wp_region_held_drew (S := (fun w' => w'.cell? ⟨w.heap.size + 1, 0, none⟩ = some (.int .i64 V0))) (by kernel_rfl) ?_ (fun hHeld => ?_)
            · ((try dsimp only); go_keep)
            refine wpAnyH_ready (rs := [0]) (by kernel_rfl) (by simp) ?_
            refine AllReadyH.cons rfl (fun K hK => ?_) AllReadyH.nil
            go_simp
            (go_at_call 10; refine (told_any _).mono ?_; rintro e wa ⟨rfl, hcb⟩; have HK := Lib.hid (((Below.refl wm.heap.size wm).drew).trans (hcb.mono (by simp))); clear hcb)
            try go_wp2_with fail
            refine hK.out _ _ ?_ (fun hHeld => ?_)
            · ((try dsimp only); (rw [HK.out.cell (by have := HGl.out; simp; omega)]; assumption))
            clear hK K
            try simp only [Act.put, List.setIfInBounds_toArray, List.set_cons_zero, List.set_cons_succ, List.getElem_toArray, List.getElem_cons_zero]
            refine wpAnyH_take (i := 1) (v := ?_) rfl (by kernel_rfl) (by kernel_rfl) (by kernel_rfl) (fun _ _ _ h => h) (Or.inl ⟨by rfl, ?_⟩) (by assumption) ?_
            rotate_left 1
            · (intro w hSw; (try dsimp only at hSw); first | (go_simp; done) | (go_simp; with_reducible rfl))
            try simp only [Act.put, List.setIfInBounds_toArray, List.set_cons_zero, List.set_cons_succ, List.getElem_toArray, List.getElem_cons_zero, List.getElem_cons_succ]
            refine wpAnyH_take (i := 2) (v := ?_) rfl (by kernel_rfl) (by kernel_rfl) (by kernel_rfl) (fun _ _ _ h => h) (Or.inl ⟨by rfl, ?_⟩) (by assumption) ?_
            rotate_left 1
            · (intro w hSw; (try dsimp only at hSw); first | (go_simp; done) | (go_simp; with_reducible rfl))
            try simp only [Act.put, List.setIfInBounds_toArray, List.set_cons_zero, List.set_cons_succ, List.getElem_toArray, List.getElem_cons_zero, List.getElem_cons_succ]
            refine wpAnyH_take (i := 3) (v := ?_) rfl (by kernel_rfl) (by kernel_rfl) (by kernel_rfl) (fun _ _ _ h => h) (Or.inl ⟨by rfl, ?_⟩) (by assumption) ?_
            rotate_left 1
            · (intro w hSw; (try dsimp only at hSw); first | (go_simp; done) | (go_simp; with_reducible rfl))
            try simp only [Act.put, List.setIfInBounds_toArray, List.set_cons_zero, List.set_cons_succ, List.getElem_toArray, List.getElem_cons_zero, List.getElem_cons_succ]
            refine wpAnyH_take (i := 4) (v := ?_) rfl (by kernel_rfl) (by kernel_rfl) (by kernel_rfl) (fun _ _ _ h => h) (Or.inl ⟨by rfl, ?_⟩) (by assumption) ?_
            rotate_left 1
            · (intro w hSw; (try dsimp only at hSw); first | (go_simp; done) | (go_simp; with_reducible rfl))
            try simp only [Act.put, List.setIfInBounds_toArray, List.set_cons_zero, List.set_cons_succ, List.getElem_toArray, List.getElem_cons_zero, List.getElem_cons_succ]
            refine wpAnyH_take (i := 5) (v := ?_) rfl (by kernel_rfl) (by kernel_rfl) (by kernel_rfl) (fun _ _ _ h => h) (Or.inl ⟨by rfl, ?_⟩) (by assumption) ?_
            rotate_left 1
            · (intro w hSw; (try dsimp only at hSw); first | (go_simp; done) | (go_simp; with_reducible rfl))
            try simp only [Act.put, List.setIfInBounds_toArray, List.set_cons_zero, List.set_cons_succ, List.getElem_toArray, List.getElem_cons_zero, List.getElem_cons_succ]
            refine wpAnyH_take (i := 6) (v := ?_) rfl (by kernel_rfl) (by kernel_rfl) (by kernel_rfl) (fun _ _ _ h => h) (Or.inl ⟨by rfl, ?_⟩) (by assumption) ?_
            rotate_left 1
            · (intro w hSw; (try dsimp only at hSw); first | (go_simp; done) | (go_simp; with_reducible rfl))
            try simp only [Act.put, List.setIfInBounds_toArray, List.set_cons_zero, List.set_cons_succ, List.getElem_toArray, List.getElem_cons_zero, List.getElem_cons_succ]
            refine wpAnyH_take (i := 7) (v := ?_) rfl (by kernel_rfl) (by kernel_rfl) (by kernel_rfl) (fun _ _ _ h => h) (Or.inl ⟨by rfl, ?_⟩) (by assumption) ?_
            rotate_left 1
            · (intro w hSw; (try dsimp only at hSw); first | (go_simp; done) | (go_simp; with_reducible rfl))
            try simp only [Act.put, List.setIfInBounds_toArray, List.set_cons_zero, List.set_cons_succ, List.getElem_toArray, List.getElem_cons_zero, List.getElem_cons_succ]
            refine wpAnyH_take (i := 8) (v := ?_) rfl (by kernel_rfl) (by kernel_rfl) (by kernel_rfl) (fun _ _ _ h => h) (Or.inl ⟨by rfl, ?_⟩) (by assumption) ?_
            rotate_left 1
            · (intro w hSw; (try dsimp only at hSw); first | (go_simp; done) | (go_simp; with_reducible rfl))
            try simp only [Act.put, List.setIfInBounds_toArray, List.set_cons_zero, List.set_cons_succ, List.getElem_toArray, List.getElem_cons_zero, List.getElem_cons_succ]
            refine wpAnyH_take (i := 10) (v := ?_) rfl (by kernel_rfl) (by kernel_rfl) (by kernel_rfl) (fun _ _ _ h => h) (Or.inl ⟨by rfl, ?_⟩) (by assumption) ?_
            rotate_left 1
            · (intro w hSw; (try dsimp only at hSw); first | (go_simp; done) | (go_simp; with_reducible rfl))
            try simp only [Act.put, List.setIfInBounds_toArray, List.set_cons_zero, List.set_cons_succ, List.getElem_toArray, List.getElem_cons_zero, List.getElem_cons_succ]
            refine wpAnyH_ready (rs := [9]) (by kernel_rfl) (by simp) ?_
            refine AllReadyH.cons rfl (fun K hK => ?_) AllReadyH.nil
            go_simp
            (go_at_call 21; refine (HOx.out _ HK.out).mono ?_; rw [HTx.out]; rintro e wb ⟨rfl, hcb⟩; replace HK := Lib.hid (HK.out.trans (hcb.mono HK.out.size)); clear hcb)
            try go_wp2_with fail
            refine hK.out _ _ ?_ (fun hHeld => ?_)
            · ((try dsimp only); (rw [HK.out.cell (by have := HGl.out; simp; omega)]; assumption))
            clear hK K
            try simp only [Act.put, List.setIfInBounds_toArray, List.set_cons_zero, List.set_cons_succ, List.getElem_toArray, List.getElem_cons_zero, List.getElem_cons_succ]
            refine wpAnyH_take (i := 11) (v := ?_) rfl (by kernel_rfl) (by kernel_rfl) (by kernel_rfl) (fun _ _ _ h => h) (Or.inl ⟨by rfl, ?_⟩) (by assumption) ?_
            rotate_left 1
            · (intro w hSw; (try dsimp only at hSw); first | (go_simp; done) | (go_simp; with_reducible rfl))
            try simp only [Act.put, List.setIfInBounds_toArray, List.set_cons_zero, List.set_cons_succ, List.getElem_toArray, List.getElem_cons_zero, List.getElem_cons_succ]
            refine wpAnyH_take (i := 12) (v := ?_) rfl (by kernel_rfl) (by kernel_rfl) (by kernel_rfl) (fun _ _ _ h => h) (Or.inl ⟨by rfl, ?_⟩) (by assumption) ?_
            rotate_left 1
            · (intro w hSw; (try dsimp only at hSw); first | (go_simp; done) | (go_simp; with_reducible rfl))
            try simp only [Act.put, List.setIfInBounds_toArray, List.set_cons_zero, List.set_cons_succ, List.getElem_toArray, List.getElem_cons_zero, List.getElem_cons_succ]
            refine wpAnyH_take (i := 13) (v := ?_) rfl (by kernel_rfl) (by kernel_rfl) (by kernel_rfl) (fun _ _ _ h => h) (Or.inl ⟨by rfl, ?_⟩) (by assumption) ?_
            rotate_left 1
            · (intro w hSw; (try dsimp only at hSw); first | (go_simp; done) | (go_simp; with_reducible rfl))
            try simp only [Act.put, List.setIfInBounds_toArray, List.set_cons_zero, List.set_cons_succ, List.getElem_toArray, List.getElem_cons_zero, List.getElem_cons_succ]
            refine wpAnyH_take (i := 14) (v := ?_) rfl (by kernel_rfl) (by kernel_rfl) (by kernel_rfl) (fun _ _ _ h => h) (Or.inl ⟨by rfl, ?_⟩) (by assumption) ?_
            rotate_left 1
            · (intro w hSw; (try dsimp only at hSw); first | (go_simp; done) | (go_simp; with_reducible rfl))
            try simp only [Act.put, List.setIfInBounds_toArray, List.set_cons_zero, List.set_cons_succ, List.getElem_toArray, List.getElem_cons_zero, List.getElem_cons_succ]
            refine wpAnyH_take (i := 15) (v := ?_) rfl (by kernel_rfl) (by kernel_rfl) (by kernel_rfl) (fun _ _ _ h => h) (Or.inl ⟨by rfl, ?_⟩) (by assumption) ?_
            rotate_left 1
            · (intro w hSw; (try dsimp only at hSw); first | (go_simp; done) | (go_simp; with_reducible rfl))
            try simp only [Act.put, List.setIfInBounds_toArray, List.set_cons_zero, List.set_cons_succ, List.getElem_toArray, List.getElem_cons_zero, List.getElem_cons_succ]
            refine wpAnyH_take (i := 16) (v := ?_) rfl (by kernel_rfl) (by kernel_rfl) (by kernel_rfl) (fun _ _ _ h => h) (Or.inl ⟨by rfl, ?_⟩) (by assumption) ?_
            rotate_left 1
            · (intro w hSw; (try dsimp only at hSw); first | (go_simp; done) | (go_simp; with_reducible rfl))
            try simp only [Act.put, List.setIfInBounds_toArray, List.set_cons_zero, List.set_cons_succ, List.getElem_toArray, List.getElem_cons_zero, List.getElem_cons_succ]
            refine wpAnyH_take (i := 17) (v := ?_) rfl (by kernel_rfl) (by kernel_rfl) (by kernel_rfl) (fun _ _ _ h => h) (Or.inl ⟨by rfl, ?_⟩) (by assumption) ?_
            rotate_left 1
            · (intro w hSw; (try dsimp only at hSw); first | (go_simp; done) | (go_simp; with_reducible rfl))
            try simp only [Act.put, List.setIfInBounds_toArray, List.set_cons_zero, List.set_cons_succ, List.getElem_toArray, List.getElem_cons_zero, List.getElem_cons_succ]
            refine wpAnyH_take (i := 18) (v := ?_) rfl (by kernel_rfl) (by kernel_rfl) (by kernel_rfl) (fun _ _ _ h => h) (Or.inl ⟨by rfl, ?_⟩) (by assumption) ?_
            rotate_left 1
            · (intro w hSw; (try dsimp only at hSw); first | (go_simp; done) | (go_simp; with_reducible rfl))
            try simp only [Act.put, List.setIfInBounds_toArray, List.set_cons_zero, List.set_cons_succ, List.getElem_toArray, List.getElem_cons_zero, List.getElem_cons_succ]
            refine wpAnyH_take (i := 19) (v := ?_) rfl (by kernel_rfl) (by kernel_rfl) (by kernel_rfl) (fun _ _ _ h => h) (Or.inl ⟨by rfl, ?_⟩) (by assumption) ?_
            rotate_left 1
            · (intro w hSw; (try dsimp only at hSw); first | (go_simp; done) | (go_simp; with_reducible rfl))
            try simp only [Act.put, List.setIfInBounds_toArray, List.set_cons_zero, List.set_cons_succ, List.getElem_toArray, List.getElem_cons_zero, List.getElem_cons_succ]
            refine wpAnyH_take (i := 20) (v := ?_) rfl (by kernel_rfl) (by kernel_rfl) (by kernel_rfl) (fun _ _ _ h => h) (Or.inl ⟨by rfl, ?_⟩) (by assumption) ?_
            rotate_left 1
            · (intro w hSw; (try dsimp only at hSw); first | (go_simp; done) | (go_simp; with_reducible rfl))
            try simp only [Act.put, List.setIfInBounds_toArray, List.set_cons_zero, List.set_cons_succ, List.getElem_toArray, List.getElem_cons_zero, List.getElem_cons_succ]
            refine wpAnyH_take (i := 21) (v := ?_) rfl (by kernel_rfl) (by kernel_rfl) (by kernel_rfl) (fun _ _ _ h => h) (Or.inl ⟨by rfl, ?_⟩) (by assumption) ?_
            rotate_left 1
            · (intro w hSw; (try dsimp only at hSw); first | (go_simp; done) | (go_simp; with_reducible rfl))
            try simp only [Act.put, List.setIfInBounds_toArray, List.set_cons_zero, List.set_cons_succ, List.getElem_toArray, List.getElem_cons_zero, List.getElem_cons_succ]
            refine wpAnyH_take (i := 22) (v := ?_) rfl (by kernel_rfl) (by kernel_rfl) (by kernel_rfl) (fun _ _ _ h => h) (Or.inl ⟨by rfl, ?_⟩) (by assumption) ?_
            rotate_left 1
            · (intro w hSw; (try dsimp only at hSw); first | (go_simp; done) | (go_simp; with_reducible rfl))
            try simp only [Act.put, List.setIfInBounds_toArray, List.set_cons_zero, List.set_cons_succ, List.getElem_toArray, List.getElem_cons_zero, List.getElem_cons_succ]
            refine wpAnyH_take (i := 24) (v := ?_) rfl (by kernel_rfl) (by kernel_rfl) (by kernel_rfl) (fun _ _ _ h => h) (Or.inl ⟨by rfl, ?_⟩) (by assumption) ?_
            rotate_left 1
            · (intro w hSw; (try dsimp only at hSw); first | (go_simp; done) | (go_simp; with_reducible rfl))
            try simp only [Act.put, List.setIfInBounds_toArray, List.set_cons_zero, List.set_cons_succ, List.getElem_toArray, List.getElem_cons_zero, List.getElem_cons_succ]
            refine wpAnyH_take (i := 25) (v := ?_) rfl (by kernel_rfl) (by kernel_rfl) (by kernel_rfl) (fun _ _ _ h => h) (Or.inl ⟨by rfl, ?_⟩) (by assumption) ?_
            rotate_left 1
            · (intro w hSw; (try dsimp only at hSw); first | (go_simp; done) | (go_simp; with_reducible rfl))
            try simp only [Act.put, List.setIfInBounds_toArray, List.set_cons_zero, List.set_cons_succ, List.getElem_toArray, List.getElem_cons_zero, List.getElem_cons_succ]
            refine wpAnyH_take (i := 27) (v := ?_) rfl (by kernel_rfl) (by kernel_rfl) (by kernel_rfl) (fun _ _ _ h => h) (Or.inl ⟨by rfl, ?_⟩) (by assumption) ?_
            rotate_left 1
            · (intro w hSw; (try dsimp only at hSw); first | (go_simp; done) | (go_simp; with_reducible rfl))
            try simp only [Act.put, List.setIfInBounds_toArray, List.set_cons_zero, List.set_cons_succ, List.getElem_toArray, List.getElem_cons_zero, List.getElem_cons_succ]
            refine wpAnyH_take (i := 28) (v := ?_) rfl (by kernel_rfl) (by kernel_rfl) (by kernel_rfl) (fun _ _ _ h => h) (Or.inl ⟨by rfl, ?_⟩) (by assumption) ?_
            rotate_left 1
            · (intro w hSw; (try dsimp only at hSw); first | (go_simp; done) | (go_simp; with_reducible rfl))
            try simp only [Act.put, List.setIfInBounds_toArray, List.set_cons_zero, List.set_cons_succ, List.getElem_toArray, List.getElem_cons_zero, List.getElem_cons_succ]
            refine wpAnyH_ready (rs := [23]) (by kernel_rfl) (by simp) ?_
            refine AllReadyH.cons rfl (fun K hK => ?_) AllReadyH.nil
            go_simp
            (go_at_call 7; refine (HTo.out _ HK.out).mono ?_; rintro e wc ⟨v, rfl, hown, hcb⟩; have HS := Lib.hid (hown.sl HA.out.wf); replace HK := Lib.hid (HK.out.trans (hcb.mono HK.out.size)); obtain ⟨aot, capt, rfl, _⟩ := hown.form'; clear hown hcb)
            try go_wp2_with fail
            refine hK.out _ _ ?_ (fun hHeld => ?_)
            · ((try dsimp only); (rw [HK.out.cell (by have := HGl.out; simp; omega)]; assumption))
            clear hK K
            try simp only [Act.put, List.setIfInBounds_toArray, List.set_cons_zero, List.set_cons_succ, List.getElem_toArray, List.getElem_cons_zero, List.getElem_cons_succ]
            refine wpAnyH_ready (rs := [26]) (by kernel_rfl) (by simp) ?_
            refine AllReadyH.cons rfl (fun K hK => ?_) AllReadyH.nil
            go_simp
            (go_at_call 21; refine (of_any P T HS.out HP1.out (by simp)).mono ?_; rw [HTa.out]; rintro e wd ⟨rfl, hcb⟩; replace HK := Lib.hid (HK.out.trans (hcb.mono HK.out.size)); clear hcb HS)
            try go_wp2_with fail
            refine hK.out _ _ ?_ (fun hHeld => ?_)
            · ((try dsimp only); (rw [HK.out.cell (by have := HGl.out; simp; omega)]; assumption))
            clear hK K
            try simp only [Act.put, List.setIfInBounds_toArray, List.set_cons_zero, List.set_cons_succ, List.getElem_toArray, List.getElem_cons_zero, List.getElem_cons_succ]
            refine wpAnyH_take (i := 29) (v := ?_) rfl (by kernel_rfl) (by kernel_rfl) (by kernel_rfl) (fun _ _ _ h => h) (Or.inl ⟨by rfl, ?_⟩) (by assumption) ?_
            rotate_left 1
            · (intro w hSw; (try dsimp only at hSw); first | (go_simp; done) | (go_simp; with_reducible rfl))
            try simp only [Act.put, List.setIfInBounds_toArray, List.set_cons_zero, List.set_cons_succ, List.getElem_toArray, List.getElem_cons_zero, List.getElem_cons_succ]
            refine wpAnyH_take (i := 30) (v := ?_) rfl (by kernel_rfl) (by kernel_rfl) (by kernel_rfl) (fun _ _ _ h => h) (Or.inl ⟨by rfl, ?_⟩) (by assumption) ?_
            rotate_left 1
            · (intro w hSw; (try dsimp only at hSw); first | (go_simp; done) | (go_simp; with_reducible rfl))
            try simp only [Act.put, List.setIfInBounds_toArray, List.set_cons_zero, List.set_cons_succ, List.getElem_toArray, List.getElem_cons_zero, List.getElem_cons_succ]
            refine wpAnyH_take (i := 31) (v := ?_) rfl (by kernel_rfl) (by kernel_rfl) (by kernel_rfl) (fun _ _ _ h => h) (Or.inl ⟨by rfl, ?_⟩) (by assumption) ?_
            rotate_left 1
            · (intro w hSw; (try dsimp only at hSw); first | (go_simp; done) | (go_simp; with_reducible rfl))
            try simp only [Act.put, List.setIfInBounds_toArray, List.set_cons_zero, List.set_cons_succ, List.getElem_toArray, List.getElem_cons_zero, List.getElem_cons_succ]
            refine wpAnyH_take (i := 32) (v := ?_) rfl (by kernel_rfl) (by kernel_rfl) (by kernel_rfl) (fun _ _ _ h => h) (Or.inl ⟨by rfl, ?_⟩) (by assumption) ?_
            rotate_left 1
            · (intro w hSw; (try dsimp only at hSw); first | (go_simp; done) | (go_simp; with_reducible rfl))
            try simp only [Act.put, List.setIfInBounds_toArray, List.set_cons_zero, List.set_cons_succ, List.getElem_toArray, List.getElem_cons_zero, List.getElem_cons_succ]
            refine wpAnyH_take (i := 34) (v := ?_) rfl (by kernel_rfl) (by kernel_rfl) (by kernel_rfl) (fun _ _ _ h => h) (Or.inl ⟨by rfl, ?_⟩) (by assumption) ?_
            rotate_left 1
            · (intro w hSw; (try dsimp only at hSw); first | (go_simp; done) | (go_simp; with_reducible rfl))
            try simp only [Act.put, List.setIfInBounds_toArray, List.set_cons_zero, List.set_cons_succ, List.getElem_toArray, List.getElem_cons_zero, List.getElem_cons_succ]
            refine wpAnyH_take (i := 35) (v := ?_) rfl (by kernel_rfl) (by kernel_rfl) (by kernel_rfl) (fun _ _ _ h => h) (Or.inl ⟨by rfl, ?_⟩) (by assumption) ?_
            rotate_left 1
            · (intro w hSw; (try dsimp only at hSw); first | (go_simp; done) | (go_simp; with_reducible rfl))
            try simp only [Act.put, List.setIfInBounds_toArray, List.set_cons_zero, List.set_cons_succ, List.getElem_toArray, List.getElem_cons_zero, List.getElem_cons_succ]
            refine wpAnyH_take (i := 36) (v := ?_) rfl (by kernel_rfl) (by kernel_rfl) (by kernel_rfl) (fun _ _ _ h => h) (Or.inl ⟨by rfl, ?_⟩) (by assumption) ?_
            rotate_left 1
            · (intro w hSw; (try dsimp only at hSw); first | (go_simp; done) | (go_simp; with_reducible rfl))
            try simp only [Act.put, List.setIfInBounds_toArray, List.set_cons_zero, List.set_cons_succ, List.getElem_toArray, List.getElem_cons_zero, List.getElem_cons_succ]
            refine wpAnyH_ready (rs := [33]) (by kernel_rfl) (by simp) ?_
            refine AllReadyH.cons rfl (fun K hK => ?_) AllReadyH.nil
            go_simp
            (go_at_call 7; refine (HTo.out _ HK.out).mono ?_; rintro e we ⟨v, rfl, hown, hcb⟩; have HS := Lib.hid (hown.sl HA.out.wf); replace HK := Lib.hid (HK.out.trans (hcb.mono HK.out.size)); obtain ⟨aot, capt, rfl, _⟩ := hown.form'; clear hown hcb)
            try go_wp2_with fail
            refine hK.out _ _ ?_ (fun hHeld => ?_)
            · ((try dsimp only); (rw [HK.out.cell (by have := HGl.out; simp; omega)]; assumption))
            clear hK K
            try simp only [Act.put, List.setIfInBounds_toArray, List.set_cons_zero, List.set_cons_succ, List.getElem_toArray, List.getElem_cons_zero, List.getElem_cons_succ]
            refine wpAnyH_ready (rs := [37]) (by kernel_rfl) (by simp) ?_
            refine AllReadyH.cons rfl (fun K hK => ?_) AllReadyH.nil
            go_simp
            (go_at_call 21; refine (of_any P (T + 1) HS.out HP1.out (by simp)).mono ?_; rw [HTb.out]; rintro e wf ⟨rfl, hcb⟩; replace HK := Lib.hid (HK.out.trans (hcb.mono HK.out.size)); clear hcb HS)
            try go_wp2_with fail
            refine hK.out _ _ ?_ (fun hHeld => ?_)
            · ((try dsimp only); (rw [HK.out.cell (by have := HGl.out; simp; omega)]; assumption))
            clear hK K
            try simp only [Act.put, List.setIfInBounds_toArray, List.set_cons_zero, List.set_cons_succ, List.getElem_toArray, List.getElem_cons_zero, List.getElem_cons_succ]
            refine wpAnyH_take (i := 38) (v := ?_) rfl (by kernel_rfl) (by kernel_rfl) (by kernel_rfl) (fun _ _ _ h => h) (Or.inl ⟨by rfl, ?_⟩) (by assumption) ?_
            rotate_left 1
            · (intro w hSw; (try dsimp only at hSw); first | (go_simp; done) | (go_simp; with_reducible rfl))
            try simp only [Act.put, List.setIfInBounds_toArray, List.set_cons_zero, List.set_cons_succ, List.getElem_toArray, List.getElem_cons_zero, List.getElem_cons_succ]
            refine wpAnyH_take (i := 39) (v := ?_) rfl (by kernel_rfl) (by kernel_rfl) (by kernel_rfl) (fun _ _ _ h => h) (Or.inl ⟨by rfl, ?_⟩) (by assumption) ?_
            rotate_left 1
            · (intro w hSw; (try dsimp only at hSw); first | (go_simp; done) | (go_simp; with_reducible rfl))
            try simp only [Act.put, List.setIfInBounds_toArray, List.set_cons_zero, List.set_cons_succ, List.getElem_toArray, List.getElem_cons_zero, List.getElem_cons_succ]
            refine wpAnyH_take (i := 40) (v := ?_) rfl (by kernel_rfl) (by kernel_rfl) (by kernel_rfl) (fun _ _ _ h => h) (Or.inl ⟨by rfl, ?_⟩) (by assumption) ?_
            rotate_left 1
            · (intro w hSw; (try dsimp only at hSw); first | (go_simp; done) | (go_simp; with_reducible rfl))
            try simp only [Act.put, List.setIfInBounds_toArray, List.set_cons_zero, List.set_cons_succ, List.getElem_toArray, List.getElem_cons_zero, List.getElem_cons_succ]
            refine wpAnyH_done (by kernel_rfl) ?_ _
            go_wp2_with fail
            go_ret
            exact ⟨rfl, HB.out.trans (HK.out.mono HB.out.size)⟩
end Go.Proofs.Ytcjbmeebenaonaa.Batch
