/-
  PACKAGE front: a Reach in memory; New, Fronts, Bag, Apply.
-/
import Derived.Test.YtbclofhlaoamiaaDoorFrOf
import Derived.Test.YtbclofhlaoamiaaDoorFrRef
import Derived.Test.YtbclofhlaoamiaaDoorGPaths
import Derived.Test.YtbclofhlaoamiaaDoorBagApply
import Derived.Test.YtbclofhlaoamiaaDoorJoined2
import Derived.StillTailTactics
namespace Go.Proofs.YtbclofhlaoamiaaDoor.Fr
open Go.RowKit Go.Deep Gr
set_option linter.unusedVariables false
set_option linter.unusedSimpArgs false

/-- A Reach in memory. -/
structure Rch (w : World) (base b n : Nat) (M : Nat → Nat → Int) (vb : Value) (B : List Batch.Ch) : Prop where
  blk : ∃ (g : Nat) (r : Nat → Nat), w.heap[b]? = some (.cells #[.slice (some ⟨g, 0, none⟩) n n, vb] 66 (0, 0)) ∧ MatF w base g r n M ∧ g < b ∧ ∀ i, i < n → r i < b
  lo : base ≤ b
  bag : Batch.Sl w vb B
theorem Rch.below {w w' : World} {base b n : Nat} {M : Nat → Nat → Int} {vb : Value} {B : List Batch.Ch} (h : Rch w base b n M vb B) (hw : Below w.heap.size w w') : Rch w' base b n M vb B := by
  obtain ⟨⟨g, r, hx, hm, hg, hr⟩, hl, hs⟩ := h
  exact ⟨⟨g, r, (hw.block _ (Array.getElem?_eq_some_iff.1 hx).1).trans hx, hm.below hw, hg, hr⟩, hl, hs.below hw⟩
theorem two_cells {w : World} {G : Nat} {x y : Value} {T : TypeId} (h : w.heap[G]? = some (.cells #[x, y] T (0, 0))) : w.cell? ⟨G, 0, none⟩ = some x ∧ w.cell? ⟨G, 1, none⟩ = some y ∧ ∀ o, w.frozen? ⟨G, o, none⟩ = false := by
  refine ⟨?_, ?_, fun o => ?_⟩
  · simp [World.cell?, h]
  · simp [World.cell?, h]
  · simp [World.frozen?, h]
set_option maxRecDepth 1000000 in
set_option maxHeartbeats 4000000 in
theorem reachnew_any {w : World} {ve vi : Value} {E : List Ed} {I : List Int} {n : Nat} (hv : Rd w ve E) (hi : RdI w vi I) (hg : GOk n E I) :
    Calls Tryd.prog 5 #[.agg #[.int .i64 (n : Int), ve, vi]] w fun e w' => ∃ (b : Nat) (M : Nat → Nat → Int), e = .returned (.tuple #[.pointer (some ⟨b, 0, none⟩), .nilIface]) ∧ Rch w' w.heap.size b n M (.slice none 0 0) [] ∧ LeastM E true n M ∧ Below w.heap.size w w' := by
  obtain ⟨w0, hw0⟩ : ∃ w0, w0 = w.alloc (.cells #[.int .i64 (n : Int), ve, vi] 35) := ⟨_, rfl⟩
  have hb0 : Below w.heap.size w w0 := by rw [hw0]; exact (Below.refl _ _).alloc (Nat.le_refl _) _
  have HV := Lib.hid (hv.below hb0)
  have HI := Lib.hid (hi.below hb0)
  have HG := Lib.hid hg
  have HB := Lib.hid hb0
  obtain ⟨ao, cap, hve⟩ : ∃ ao cap, ve = .slice ao E.length cap := by obtain ⟨ao, cap, h, _⟩ := hv; exact ⟨ao, cap, h⟩
  obtain ⟨aoi, capi, hvi⟩ : ∃ ao cap, vi = .slice ao I.length cap := by obtain ⟨ao, cap, h, _⟩ := hi; exact ⟨ao, cap, h⟩
  subst hve hvi
  have HX := Lib.hid (show w0.heap[w.heap.size]? = some (.cells #[.int .i64 (n : Int), .slice ao E.length cap, .slice aoi I.length capi] 35 (0, 0)) by rw [hw0]; exact heap_alloc_new w _)
  clear hv hi hg hb0
  go_enter Tryd.func5, Tryd.ntmps5
  go_wp2_with fail
  go_at_call 20
  rw [← hw0]
  clear hw0
  refine (check_any (n : Int) HV.out HI.out).mono ?_
  rintro e w1 ⟨v1, rfl, her, hb⟩
  have hnil : v1 = .nilIface := by
    rw [HG.out.chk] at her
    rcases her with ⟨_, _, h⟩ | ⟨h, _⟩
    · exact h
    · exact absurd rfl h
  subst hnil
  replace HV := Lib.hid (HV.out.below hb)
  replace HI := Lib.hid (HI.out.below hb)
  replace HX := Lib.hid ((hb.block _ (Array.getElem?_eq_some_iff.1 HX.out).1).trans HX.out)
  replace HB := Lib.hid (HB.out.trans (hb.mono HB.out.size))
  obtain ⟨x0, x1, x2, _⟩ := three_cells HX.out
  clear her hb
  go_wp2_with fail
  go_at_call 21
  refine (paths_any HV.out HI.out HG.out).mono ?_
  rintro e w2 ⟨v2, M, rfl, ⟨g, r, rfl, hmat⟩, hl, hb⟩
  have HM := Lib.hid hmat
  have HL := Lib.hid hl
  have hbs := HB.out.size
  replace HB := Lib.hid (HB.out.trans (hb.mono HB.out.size))
  clear hmat hl hb HX x0 x1 x2
  go_wp2_with fail
  have hA : Below w2.heap.size w2 (w2.alloc (.cells #[.slice (some ⟨g, 0, none⟩) n n, .slice none 0 0] 66)) := (Below.refl _ _).alloc (Nat.le_refl _) _
  refine bodyPost_ret (v := .tuple #[.pointer (some ⟨w2.heap.size, 0, none⟩), .nilIface]) (by simp [results, Tryd.results5, go_sem]) rfl ⟨w2.heap.size, M, rfl, ⟨⟨g, r, heap_alloc_new w2 _, (HM.out.base (by omega)).below hA, HM.out.top.lt, fun i hi => (HM.out.row i hi).lt⟩, HB.out.size, Batch.Sl.nil _⟩, HL.out, HB.out.trans (hA.mono HB.out.size)⟩
set_option maxRecDepth 1000000 in
set_option maxHeartbeats 4000000 in
theorem fronts_any {w : World} {base b n : Nat} {M : Nat → Nat → Int} {vb : Value} {B : List Batch.Ch} (hr : Rch w base b n M vb B) (hm : ∀ i j, i < n → j < n → 0 ≤ M i j ∧ M i j ≤ 18446744073709551615) (hp : B.Pairwise Batch.Lt) (hl : B.length ≤ 100000) (h0 : 1 ≤ n) (h1 : n ≤ 64) :
    Calls Tryd.prog 17 #[.pointer (some ⟨b, 0, none⟩)] w fun e w' => ∃ (g : Nat) (F : Nat → Int), e = .returned (.slice (some ⟨g, 0, none⟩) n n) ∧ w.heap.size ≤ g ∧ w'.rowIs g 42 n (fun p => .int .u64 (F p)) ∧ (∀ p, p < n → FrontU B M n p (F p)) ∧ Below w.heap.size w w' := by
  obtain ⟨⟨g, r, hx, hmat, _, _⟩, _, hs⟩ := hr
  have HMAT := Lib.hid hmat
  have HS := Lib.hid hs
  have HM := Lib.hid hm
  have HP := Lib.hid hp
  obtain ⟨x0, x1, _⟩ := two_cells hx
  clear hx hmat hs hm hp
  go_enter Tryd.func17, Tryd.ntmps17
  go_wp2_with fail
  go_still_tail 8, (by kernel_rfl)
  go_wp2_with fail
  go_at_call 31
  have hd : Below w.heap.size w w.drew := (Below.refl _ _).drew
  refine (of_any (w := w.drew) ⟨g, r, rfl, HMAT.out.below hd⟩ HM.out (HS.out.below hd) HP.out hl h0 h1).mono ?_
  rintro e w1 ⟨g1, F, rfl, hg, hrow, hfr, hb⟩
  have HROW := Lib.hid hrow
  have HFR := Lib.hid hfr
  have HB := Lib.hid (show Below w.heap.size w w1 from hd.trans hb)
  clear hrow hfr hb hd
  go_wp2_with fail
  go_ret
  exact ⟨g1, F, rfl, hg, HROW.out, HFR.out, HB.out⟩
set_option maxRecDepth 1000000 in
set_option maxHeartbeats 4000000 in
theorem rbag_any {w : World} {base b n : Nat} {M : Nat → Nat → Int} {vb : Value} {B : List Batch.Ch} (hr : Rch w base b n M vb B) (hl : B.length ≤ 100000) :
    Calls Tryd.prog 15 #[.pointer (some ⟨b, 0, none⟩)] w fun e w' => ∃ v', e = .returned v' ∧ Batch.Own w' w.heap.size 68 v' B ∧ Below w.heap.size w w' := by
  obtain ⟨⟨g, r, hx, _, _, _⟩, _, hs⟩ := hr
  have HS := Lib.hid hs
  obtain ⟨x0, x1, _⟩ := two_cells hx
  clear hx hs
  go_enter Tryd.func15, Tryd.ntmps15
  go_wp2_with fail
  go_at_call 30
  refine (Batch.cloneB_any HS.out hl).mono ?_
  rintro e w1 ⟨v', rfl, ho, hb⟩
  have HO := Lib.hid ho
  have HB := Lib.hid hb
  clear ho hb
  go_wp2_with fail
  go_ret
  exact ⟨v', rfl, HO.out, HB.out⟩

/-- What Apply answers. -/
noncomputable def applyF (n : Nat) (B C : List Batch.Ch) : Int := if Batch.rightB C = true then (if C.any (fun x => decide ((n : Int) ≤ x.p)) = true then 2 else Batch.applyE B C) else 1
theorem applyF_wrong {n : Nat} {B C : List Batch.Ch} (h : Batch.rightB C = false) : applyF n B C = 1 := by unfold applyF; rw [h]; rfl
theorem applyF_port {n : Nat} {B C : List Batch.Ch} (h : Batch.rightB C = true) {x : Batch.Ch} (hx : x ∈ C) (hp : (n : Int) ≤ x.p) : applyF n B C = 2 := by
  unfold applyF
  rw [if_pos h, if_pos (List.any_eq_true.2 ⟨x, hx, decide_eq_true hp⟩)]
theorem applyF_ok {n : Nat} {B C : List Batch.Ch} (h : Batch.rightB C = true) (hp : ∀ x ∈ C, x.p < (n : Int)) : applyF n B C = Batch.applyE B C := by
  unfold applyF
  rw [if_pos h, if_neg]
  intro h2
  obtain ⟨x, hx, hd⟩ := List.any_eq_true.1 h2
  have := of_decide_eq_true hd
  have := hp x hx
  omega
/-- What Apply leaves. -/
def RApply (w : World) (b n : Nat) (B C : List Batch.Ch) (e : Ending) (w' : World) : Prop := ∃ (w1 : World) (u : Value), Below w.heap.size w w1 ∧ e = .returned (.int .i64 (applyF n B C)) ∧
  ((applyF n B C ≠ 0 ∧ w' = w1) ∨ (applyF n B C = 0 ∧ Batch.Own w1 w.heap.size 68 u (Batch.applyR B C) ∧ w' = w1.setCell ⟨b, 1, none⟩ u))
set_option maxRecDepth 1000000 in
set_option maxHeartbeats 8000000 in
theorem rapply_any {w : World} {base b n : Nat} {M : Nat → Nat → Int} {vb vc : Value} {B C : List Batch.Ch} (hr : Rch w base b n M vb B) (hB : Batch.RightP B) (hc : Batch.Sl w vc C) (hl : B.length + C.length ≤ 100000) :
    Calls Tryd.prog 11 #[.pointer (some ⟨b, 0, none⟩), vc] w (RApply w b n B C) := by
  obtain ⟨⟨g, r, hx, _, _, _⟩, _, hs⟩ := hr
  have HS := Lib.hid hs
  have HC := Lib.hid hc
  have HR := Lib.hid hB
  have HX := Lib.hid hx
  obtain ⟨ao, cap, hvc⟩ : ∃ ao cap, vc = .slice ao C.length cap := by obtain ⟨ao, cap, h, _⟩ := hc; exact ⟨ao, cap, h⟩
  subst hvc
  have hcl : (C.length : Int) ≤ 100000 := by omega
  clear hx hs hc hB
  go_enter Tryd.func11, Tryd.ntmps11
  go_wp2_with fail
  go_at_call 28
  refine (Batch.right_any HC.out).mono ?_
  rintro e w1 ⟨rfl, hb⟩
  have HB1 := Lib.hid hb
  clear hb
  by_cases hrt : Batch.rightB C = true
  · rw [hrt]
    have HRT := Lib.hid hrt
    clear hrt
    go_wp2_with fail
    go_loopg [18] C.length (fun m t wr => ∃ i : Nat, i + m = C.length ∧ t = .int .i64 (i : Int) ∧ (∀ x ∈ C.take i, x.p < (n : Int)) ∧ Below w.heap.size w wr)
    case atStart => exact ⟨0, by omega, rfl, fun x h => by simp at h, HB1.out⟩
    case round =>
      clear HB1
      obtain ⟨i, him, rfl, hpt, hbw⟩ := hrel
      have HIM := Lib.hid him
      have HPT := Lib.hid hpt
      have HBW := Lib.hid hbw
      obtain ⟨x0, x1, xf⟩ := two_cells ((hbw.block _ (Array.getElem?_eq_some_iff.1 HX.out).1).trans HX.out)
      have hblt := Lib.lt_of_cell x0
      clear him hpt hbw
      by_cases hi : i < C.length
      · obtain ⟨x, hx, hxm⟩ := Batch.at_of hi
        obtain ⟨cb, off, rfl, hcc⟩ := (HC.out.rd.below HBW.out).at hx
        have hcl2 := hcc.lt
        obtain ⟨c0, c1, c2⟩ := hcc
        have hi0 : (0 : Int) ≤ (i : Int) := Int.natCast_nonneg _
        have hi1 : (i : Int) < (C.length : Int) := by omega
        have HI := Lib.hid hi
        have HAL := Lib.hid (fun (W : World) (a : Array Value) => show Below W.heap.size W (W.alloc (.cells a 68)) from (Below.refl _ _).alloc (Nat.le_refl _) _)
        by_cases hp : x.p < (n : Int)
        · have HN := Lib.hid (show ∀ y ∈ C.take (i + 1), y.p < (n : Int) from fun y hy => by
            rw [take_succ' hx] at hy
            rcases List.mem_append.1 hy with hy | hy
            · exact HPT.out y hy
            · simp at hy; subst hy; exact hp)
          obtain ⟨xp, xt, xd⟩ := x
          simp only at c0 c1 c2 hp
          have hp2 : ¬ ((n : Int) ≤ xp) := by omega
          clear hx hxm hi
          go_wp2_with fail
          go_quiet (fail)
          go_wp2_with fail
          go_roundg (C.length - (i + 1))
          case measure => have := HIM.out; have := HI.out; omega
          case rel => exact ⟨i + 1, by have := HIM.out; have := HI.out; omega, by go_num, HN.out, below_drewN (HBW.out.trans ((HAL.out _ _).mono HBW.out.size)) _⟩
        · have HN := Lib.hid (applyF_port (B := B) HRT.out hxm (show (n : Int) ≤ x.p by omega))
          obtain ⟨xp, xt, xd⟩ := x
          simp only at c0 c1 c2 hp
          have hp2 : (n : Int) ≤ xp := by omega
          clear hx hxm hi
          go_wp2_with fail
          go_quiet (fail)
          go_wp2_with fail
          go_ret
          exact ⟨_, .nilIface, below_drewN (HBW.out.trans ((HAL.out _ _).mono HBW.out.size)) _, by rw [HN.out]; rfl, .inl ⟨by rw [HN.out]; decide, rfl⟩⟩
      · have HN := Lib.hid (applyF_ok (n := n) (B := B) HRT.out (fun x hx => HPT.out x (by rw [take_all (by omega)]; exact hx)))
        clear xf
        go_wp2_with fail
        go_at_call 29
        refine (Batch.apply_any (HS.out.below HBW.out) (HC.out.below HBW.out) HR.out ((Batch.rightB_iff C).1 HRT.out) hl).mono ?_
        rintro e w3 ⟨v', rfl, hown, hb⟩
        obtain ⟨ar, cr, mr, hvr⟩ : ∃ ar cr mr, v' = .slice ar mr cr := by
          rcases hown.2 with ⟨h, _⟩ | ⟨g, cap, cur, h, _⟩
          · exact ⟨none, 0, 0, h⟩
          · exact ⟨_, _, _, h⟩
        subst hvr
        have HO := Lib.hid (hown.mono HBW.out.size)
        have hb3 := HBW.out.trans (hb.mono HBW.out.size)
        have HB3 := Lib.hid hb3
        obtain ⟨x0, x1, xf⟩ := two_cells ((hb3.block _ (Array.getElem?_eq_some_iff.1 HX.out).1).trans HX.out)
        have xf1 := xf 1
        clear hown hb hb3 xf
        by_cases he : Batch.applyE B C = 0
        · have HE := Lib.hid he
          rw [he]
          clear he
          go_wp2_with fail
          go_ret
          exact ⟨w3, .slice ar mr cr, HB3.out, by rw [HN.out, HE.out]; rfl, .inr ⟨by rw [HN.out, HE.out], HO.out, rfl⟩⟩
        · have HE := Lib.hid he
          obtain ⟨k, hk⟩ : ∃ k, k = Batch.applyE B C := ⟨_, rfl⟩
          rw [← hk] at he ⊢
          have hkb : (k == 0) = false := by simpa using he
          have HK := Lib.hid hk
          clear hk
          go_wp2_with fail
          go_ret
          exact ⟨w3, .slice ar mr cr, HB3.out, by rw [HN.out, ← HK.out]; rfl, .inl ⟨by rw [HN.out]; exact HE.out, rfl⟩⟩
  · have hrf : Batch.rightB C = false := by simpa using hrt
    rw [hrf]
    have HN := Lib.hid (applyF_wrong (n := n) (B := B) hrf)
    clear hrt hrf
    go_wp2_with fail
    go_ret
    exact ⟨w1, .nilIface, HB1.out, by rw [HN.out]; rfl, .inl ⟨by rw [HN.out]; decide, rfl⟩⟩
end Go.Proofs.YtbclofhlaoamiaaDoor.Fr
