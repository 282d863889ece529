/-
  PACKAGE claim: All.
-/
import Derived.Test.YtdllgeanmlmmfaaGreatDoorJoined12
import Derived.Test.YtdllgeanmlmmfaaGreatDoorJoined6
import Derived.Test.YtdllgeanmlmmfaaGreatDoorJoined5
import Derived.Deep.Cut
namespace Go.Proofs.YtdllgeanmlmmfaaGreatDoor.Cl
open Go.RowKit Gr
set_option linter.unusedVariables false

theorem map_take_snoc {H : List Ed} {B : List Batch.Ch} {i : Nat} {x : Ed} (hx : H[i]? = some x) : B ++ (H.take (i + 1)).map hc = (B ++ (H.take i).map hc) ++ [⟨x.t, x.a, 1⟩] := by rw [Gr.take_succ' hx]; simp [hc]
set_option maxRecDepth 1000000 in
set_option maxHeartbeats 16000000 in
theorem all_any {w : World} {vh vb : Value} {H : List Ed} {B : List Batch.Ch} (hH : Sl w vh H) (hB : Batch.Sl w vb B) (hl : H.length ≤ 10000) (hlb : B.length ≤ 10000) :
    Calls Tryz.prog 42 #[.agg #[vh, vb]] w fun e w' => ∃ v, e = .returned v ∧ Batch.Own w' w.heap.size 103 v (allL H B) ∧ Below w.heap.size w w' := by
  obtain ⟨i0, hi, hz0, hz1, hz2⟩ := Gr.info_parts Batch.infoCh
  have HHV := Lib.hid hH
  have HBV := Lib.hid hB
  have HLL := Lib.hid (And.intro hl hlb)
  have HWF := Lib.hid (all_wf0 hH.wf hB.wf)
  obtain ⟨ao, cap, rfl, hcell, hlc, hcm, _⟩ := hH
  obtain ⟨ab, capb, rfl, _⟩ := hB
  have HC := Lib.hid hcell
  have hlen : H.length ≤ 9223372036854775807 := by omega
  obtain ⟨w0, hw0⟩ : ∃ w0, w0 = w.alloc (.cells #[.slice ao H.length cap, .slice ab B.length capb] 60) := ⟨_, rfl⟩
  have hb0 : Below w.heap.size w w0 := by rw [hw0]; exact (Below.refl _ _).alloc (Nat.le_refl _) _
  have hx0 : w0.heap[w.heap.size]? = some (.cells #[.slice ao H.length cap, .slice ab B.length capb] 60 (0, 0)) := by rw [hw0]; exact heap_alloc_new w _
  have HX := Lib.hid hx0
  have HB0 := Lib.hid hb0
  have hlt0 : w.heap.size < w0.heap.size := (Array.getElem?_eq_some_iff.1 hx0).1
  clear hb0 hx0 hcell hlc hcm hl hlb
  go_enter Tryz.func42, Tryz.ntmps42
  go_wp2_with fail
  go_at_call 43
  rw [← hw0]
  clear hw0
  refine (Batch.cloneB_any (HBV.out.below HB0.out) (by have := HLL.out; omega)).mono ?_
  rintro e w1 ⟨v1, rfl, ho, hb⟩
  have HO1 := Lib.hid (ho.mono HB0.out.size)
  have HB1 := Lib.hid (HB0.out.trans (hb.mono HB0.out.size))
  obtain ⟨x0, x1, _⟩ := pair_cells ((hb.block _ hlt0).trans HX.out)
  obtain ⟨a1, c1, rfl⟩ := formB ho
  clear ho hb hlt0 HX
  go_wp2_with fail
  clear x0 x1
  go_loopg [3, 15] H.length (fun k s3 s15 wr => ∃ i : Nat, i + k = H.length ∧ s15 = .int .i64 i ∧ Batch.Own wr w.heap.size 103 s3 (B ++ (H.take i).map hc) ∧ Below w.heap.size w wr)
  case atStart => exact ⟨0, by omega, rfl, by simpa using HO1.out, HB1.out⟩
  case round =>
    obtain ⟨i, hik, rfl, hown, hbw⟩ := hrel
    have HIK := Lib.hid hik
    have HO := Lib.hid hown
    have HBW := Lib.hid hbw
    have hbs : w.heap.size ≤ wr.heap.size := hbw.size
    clear hik hown hbw HO1 HB1
    have hi0 : (0 : Int) ≤ (i : Int) := Int.natCast_nonneg _
    by_cases hlt : i < H.length
    · obtain ⟨x, hx, hxm⟩ := Gr.at_of hlt
      obtain ⟨b, off, rfl, hcc⟩ := HC.out.resolve_left (fun h => by rw [h.2] at hx; simp at hx)
      have q := hcc _ x hx
      have hbl := q.lt
      obtain ⟨c0, c1, c2⟩ := q.below HBW.out hbl
      have HX := Lib.hid hx
      have HLT := Lib.hid hlt
      have hi1 : (i : Int) < (H.length : Int) := by omega
      obtain ⟨xf, xt, xa⟩ := x
      simp only at c0 c1 c2
      clear hx hxm hcc q hlt
      go_upto_region 5 with fail
      clear c0 c1 c2
      obtain ⟨w2, hw2⟩ : ∃ w2, w2 = wr.alloc (.cells #[.int .i64 xf, .int .i64 xt, .int .u64 xa] 107) := ⟨_, rfl⟩
      have hs2 : w2.heap.size = wr.heap.size + 1 := by rw [hw2]; simp
      obtain ⟨y0, y1, y2, _⟩ := trip_cells (show w2.heap[wr.heap.size]? = some (.cells #[.int .i64 xf, .int .i64 xt, .int .u64 xa] 107 (0, 0)) by rw [hw2]; exact heap_alloc_new wr _)
      have hb2 : Below w.heap.size w w2 := by rw [hw2]; exact HBW.out.alloc hbs _
      have hbs2 : w.heap.size ≤ w2.heap.size := hb2.size
      obtain ⟨A, hA⟩ : ∃ A, A = B ++ (H.take i).map hc := ⟨_, rfl⟩
      have hown : Batch.Own w2 w.heap.size 103 u3 A := by rw [hw2, hA]; exact World.ownsRow.alloc HO.out _
      rw [← hw2]
      have HB2 := Lib.hid hb2
      have hlen2 : A.length ≤ 20000 := by have := HLL.out; rw [hA, List.length_append, List.length_map, List.length_take]; omega
      have HA := Lib.hid hA
      clear hw2 hb2 hs2 hA
      go_wp2_with (at_builtin
                   refine wpList_append_own _ rfl _ _ 54 rfl w.heap.size 103 i0 (.agg #[.int .i64 0, .int .u64 0, .int .i64 0]) 3 24 Tryz.underlying54 hi hz0 hz1 hz2 rfl (by decide) _ _ _ rfl (World.ownsRow.alloc hown _) ⟨w2.heap.size, 0, none⟩ 1 1 [.int .i64 xt, .int .u64 xa, .int .i64 1] rfl rfl (Batch.news3 _ _ _ _ _) ?c2 ?c3 ?c4 ?c5 ?_)
      case c2 => intro u hu; simp at hu; rcases hu with rfl | rfl | rfl <;> rfl
      case c3 => unfold maxLen; omega
      case c4 => omega
      case c5 => simp; omega
      intro v3 w3 hown' hgrow _
      have HB3 := Lib.hid ((HB2.out.alloc hbs2 _).grown hgrow (by simp; omega) (fun k e => (hown.lt k e).1))
      have HO3 := Lib.hid (show Batch.Own w3 w.heap.size 103 v3 (B ++ (H.take (i + 1)).map hc) by
        unfold Batch.Own
        rw [map_take_snoc HX.out, ← HA.out, List.length_append, Batch.cellsL_append]
        exact hown')
      clear hown hown' hgrow y0 y1 y2
      go_wp2_with fail
      go_roundg (gk - 1)
      case measure => have := HIK.out; have := HLT.out; omega
      case rel => exact ⟨i + 1, by have := HIK.out; have := HLT.out; omega, by go_num, HO3.out, HB3.out⟩
    · have hd1 : decide ((i : Int) < (H.length : Int)) = false := decide_eq_false (by omega)
      have hd2 : decide (i < H.length) = false := decide_eq_false hlt
      have HO2 := Lib.hid (show Batch.Own wr w.heap.size 103 u3 (B ++ H.map hc) by have := HO.out; rwa [List.take_of_length_le (by omega)] at this)
      clear HO
      go_wp2_with fail
      go_at_call 78
      refine (sortB_any HO2.out hbs (by have := HLL.out; rw [List.length_append, List.length_map]; omega)).mono ?_
      rintro e w3 ⟨rfl, l, hp, hs, ho, hb⟩
      have HB3 := Lib.hid (HBW.out.trans (hb.mono (Nat.le_refl _)))
      have HO3 := Lib.hid ho
      have HS := Lib.hid hs
      have HT := Lib.hid (tab_perm HWF.out hp)
      have HWL := Lib.hid (fun x (hx : x ∈ l) => HWF.out x (hp.mem_iff.1 hx))
      have hln : l.length ≤ 20000 := by have := HLL.out; rw [hp.length_eq, List.length_append, List.length_map]; omega
      obtain ⟨a3, c3, hv3⟩ := formB ho
      clear hp hs ho hb hd1 hd2
      subst hv3
      go_wp2_with fail
      go_loopg [6, 32] l.length (fun k s6 s32 wq => ∃ i : Nat, i + k = l.length ∧ s32 = .int .i64 i ∧ Batch.Own wq w3.heap.size 103 s6 (Batch.tab (l.take i)) ∧ Below w3.heap.size w3 wq)
      case atStart => exact ⟨0, by omega, rfl, Batch.Own.nil _ _ _, Below.refl _ _⟩
      case round =>
        obtain ⟨i, hik2, rfl, hown, hbq⟩ := hrel
        have HIK2 := Lib.hid hik2
        have HO := Lib.hid hown
        have HBQ := Lib.hid hbq
        have hbsq : w3.heap.size ≤ wr.heap.size := hbq.size
        clear hik2 hown hbq
        have hi0 : (0 : Int) ≤ (i : Int) := Int.natCast_nonneg _
        have hlen3 : l.length ≤ 9223372036854775807 := by omega
        by_cases hlt2 : i < l.length
        · obtain ⟨y, hy, hym⟩ := Batch.at_of hlt2
          obtain ⟨g, cap3, hv, hg1, hg2, _⟩ := HO3.out.form.resolve_left (fun h => by rw [h.1] at hlt2; simp at hlt2)
          simp only [Value.slice.injEq] at hv
          obtain ⟨rfl, _, rfl⟩ := hv
          obtain ⟨c0, c1, c2⟩ := (HO3.out.at hy).below HBQ.out hg2
          have HY := Lib.hid hy
          have HLT2 := Lib.hid hlt2
          have hi1 : (i : Int) < (l.length : Int) := by omega
          obtain ⟨yp, yt, yd⟩ := y
          simp only at c0 c1 c2
          have hg3 : g < wr.heap.size := Nat.lt_of_lt_of_le hg2 hbsq
          clear hy hym hlt2
          go_upto_region 12 with fail
          clear c0 c1 c2
          obtain ⟨w4, hw4⟩ : ∃ w4, w4 = wr.alloc (.cells #[.int .i64 yp, .int .u64 yt, .int .i64 yd] 103) := ⟨_, rfl⟩
          have hs4 : w4.heap.size = wr.heap.size + 1 := by rw [hw4]; simp
          have HBK := Lib.hid (show w4.heap[wr.heap.size]? = some (.cells #[.int .i64 yp, .int .u64 yt, .int .i64 yd] 103 (0, 0)) by rw [hw4]; exact heap_alloc_new wr _)
          have HB4 := Lib.hid (show Below w3.heap.size w3 w4 by rw [hw4]; exact HBQ.out.alloc hbsq _)
          have hbs4 : w3.heap.size ≤ w4.heap.size := HB4.out.size
          have hbk4 : wr.heap.size < w4.heap.size := by omega
          have hg4 : g < w4.heap.size := by omega
          obtain ⟨A, hA⟩ : ∃ A, A = Batch.tab (l.take i) := ⟨_, rfl⟩
          have hown4 : Batch.Own w4 w3.heap.size 103 u6 A := by rw [hw4, hA]; exact World.ownsRow.alloc HO.out _
          rw [← hw4]
          have hlen2 : A.length ≤ 20000 := by have h1 := Batch.tab_length (l.take i); rw [hA]; rw [List.length_take] at h1; omega
          have HA := Lib.hid hA
          clear hw4 hA hs4
          by_cases hz : i = 0
          · have hp1 : decide ((0 : Int) < (i : Int)) = false := decide_eq_false (by omega)
            have hp2 : decide (0 < i) = false := decide_eq_false (by omega)
            have HNEW := Lib.hid (tab_new HWL.out HS.out HY.out (by rw [hz]; simp))
            clear hz
            go_quiet (fail)
            obtain ⟨y0, y1, y2, _⟩ := trip_cells HBK.out
            go_wp2_with (at_builtin
                         refine wpList_append_own _ rfl _ _ 54 rfl w3.heap.size 103 i0 (.agg #[.int .i64 0, .int .u64 0, .int .i64 0]) 3 24 Tryz.underlying54 hi hz0 hz1 hz2 rfl (by decide) _ _ _ rfl (World.ownsRow.alloc (Batch.Own.draw hown4 _) _) ⟨w4.heap.size, 0, none⟩ 1 1 [.int .i64 yp, .int .u64 yt, .int .i64 yd] rfl rfl (Batch.news3 _ _ _ _ _) ?c2 ?c3 ?c4 ?c5 ?_)
            case c2 => intro u hu; simp at hu; rcases hu with rfl | rfl | rfl <;> rfl
            case c3 => unfold maxLen; omega
            case c4 => omega
            case c5 => simp; omega
            intro v6 w6 hown' hgrow _
            have HB6 := Lib.hid (((below_drewN HB4.out _).alloc (by simpa using hbs4) _).grown hgrow (by simp; omega) (fun k e => (hown4.lt k e).1))
            have HO6 := Lib.hid (show Batch.Own w6 w3.heap.size 103 v6 (Batch.tab (l.take (i + 1))) by
              unfold Batch.Own
              rw [HNEW.out, ← HA.out, List.length_append, Batch.cellsL_append]
              exact hown')
            clear hown4 hown' hgrow y0 y1 y2
            go_wp2_with fail
            go_roundg (gk - 1)
            case measure => have := HIK2.out; have := HLT2.out; omega
            case rel => exact ⟨i + 1, by have := HIK2.out; have := HLT2.out; omega, by go_num, HO6.out, HB6.out⟩
          · obtain ⟨m, hm⟩ : ∃ m, i = m + 1 := ⟨i - 1, by omega⟩
            obtain ⟨x, hx, _⟩ := Batch.at_of (show m < l.length by omega)
            obtain ⟨d0, d1, d2⟩ := (HO3.out.at hx).below HB4.out hg2
            obtain ⟨y0, y1, y2, _⟩ := trip_cells HBK.out
            have hwr : IntKind.i64.wrap ((i : Int) - 1) = (m : Int) := by rw [IntKind.wrap_i64]; omega
            have hm0 : (0 : Int) ≤ (m : Int) := Int.natCast_nonneg _
            have hm1 : (m : Int) < (l.length : Int) := by omega
            have hp1 : (0 : Int) < (i : Int) := by omega
            have hp2 : decide ((0 : Int) < (i : Int)) = true := decide_eq_true hp1
            have hp4 : 0 < i := by omega
            have hp3 : decide (0 < i) = true := decide_eq_true hp4
            have HCM := Lib.hid (fun u v W => compareC_below u v W)
            have hYm : l[m + 1]? = some ⟨yp, yt, yd⟩ := by have := HY.out; rwa [hm] at this
            have HM := Lib.hid hm
            by_cases hkey : Batch.Key x ⟨yp, yt, yd⟩
            case' pos =>
              have hord : (Batch.ordI x ⟨yp, yt, yd⟩ == 0) = true := Batch.eqZ_true hkey
              have HS2 := Lib.hid (tab_same HWL.out HS.out hx hYm hkey)
            case' neg =>
              have hord : (Batch.ordI x ⟨yp, yt, yd⟩ == 0) = false := Batch.eqZ_false hkey
              have HNEW := Lib.hid (tab_new HWL.out HS.out HY.out (by rw [hm]; exact sorted_new HS.out hx hYm hkey))
            all_goals
              obtain ⟨xp, xt, xd⟩ := x
              simp only at d0 d1 d2
              clear hx hz hYm hkey hm
              go_region_held3 (fun w' => w'.cell? ⟨wr.heap.size, 0, none⟩ = some (.int .i64 yp) ∧ w'.cell? ⟨wr.heap.size, 1, none⟩ = some (.int .u64 yt) ∧ w'.cell? ⟨wr.heap.size, 2, none⟩ = some (.int .i64 yd) ∧ w'.cell? ⟨g, m * 3, none⟩ = some (.int .i64 xp) ∧ w'.cell? ⟨g, m * 3 + 1, none⟩ = some (.int .u64 xt) ∧ w'.cell? ⟨g, m * 3 + 2, none⟩ = some (.int .i64 xd))
                (first
                  | go_keep
                  | (go_split_ands
                     refine ⟨?_, ?_, ?_, ?_, ?_, ?_⟩ <;> (rw [hcb.cell (by simp; omega)]; assumption)))
                ((go_at_call 79; refine (HCM.out ⟨xp, xt, xd⟩ ⟨yp, yt, yd⟩ _).mono ?_; rintro e w5 ⟨rfl, hcb⟩))
              have hb45 : Below w4.heap.size w4 w5 := (below_drewN (Below.refl w4.heap.size w4) 1).trans hcb
              have HB5 := Lib.hid (HB4.out.trans (hb45.mono hbs4))
              have hbs5 : w3.heap.size ≤ w5.heap.size := HB5.out.size
              replace hown4 : Batch.Own w5 w3.heap.size 103 u6 A := hown4.below hb45
              have HBK5 := Lib.hid ((hb45.block _ hbk4).trans HBK.out)
              clear y0 y1 y2 d0 d1 d2 hcb hb45 hwr hm0 hm1 hp1 hp2 hp3 hp4
              obtain ⟨y0, y1, y2, _⟩ := trip_cells HBK5.out
            · go_wp2_with (at_builtin
                           refine wpList_append_own _ rfl _ _ 54 rfl w3.heap.size 103 i0 (.agg #[.int .i64 0, .int .u64 0, .int .i64 0]) 3 24 Tryz.underlying54 hi hz0 hz1 hz2 rfl (by decide) _ _ _ rfl (World.ownsRow.alloc (hown4) _) ⟨w5.heap.size, 0, none⟩ 1 1 [.int .i64 yp, .int .u64 yt, .int .i64 yd] rfl rfl (Batch.news3 _ _ _ _ _) ?c2 ?c3 ?c4 ?c5 ?_)
              case c2 => intro u hu; simp at hu; rcases hu with rfl | rfl | rfl <;> rfl
              case c3 => unfold maxLen; omega
              case c4 => omega
              case c5 => simp; omega
              intro v6 w6 hown' hgrow _
              have HB6 := Lib.hid ((HB5.out.alloc (by simpa using hbs5) _).grown hgrow (by simp; omega) (fun k e => (hown4.lt k e).1))
              have HO6 := Lib.hid (show Batch.Own w6 w3.heap.size 103 v6 (Batch.tab (l.take (i + 1))) by
                unfold Batch.Own
                rw [HNEW.out, ← HA.out, List.length_append, Batch.cellsL_append]
                exact hown')
              clear hown4 hown' hgrow y0 y1 y2
              go_wp2_with fail
              go_roundg (gk - 1)
              case measure => have := HIK2.out; have := HLT2.out; omega
              case rel => exact ⟨i + 1, by have := HIK2.out; have := HLT2.out; omega, by go_num, HO6.out, HB6.out⟩
            · obtain ⟨z, hz1', hz2', hz3'⟩ := HS2.out
              rw [← HM.out, ← HA.out] at hz1' hz2' hz3'
              obtain ⟨ga, ca, rfl, hga, hga2, _⟩ := hown4.form.resolve_left (fun h => by rw [h.1] at hz2'; simp at hz2')
              obtain ⟨k, hk⟩ : ∃ k, k = A.length - 1 := ⟨_, rfl⟩
              rw [← hk] at hz1' hz3'
              obtain ⟨k0, k1, k2⟩ := hown4.at hz1'
              have kf := hown4.free (k * 3 + 2)
              have hwk : IntKind.i64.wrap ((A.length : Int) - 1) = (k : Int) := by rw [IntKind.wrap_i64]; omega
              have hwk2 : (A.length : Int) - 1 = (k : Int) := by omega
              have hk0 : (0 : Int) ≤ (k : Int) := Int.natCast_nonneg _
              have hk1 : (k : Int) < (A.length : Int) := by omega
              have HZ := Lib.hid hz1'
              have HZ3 := Lib.hid hz3'
              have HO4 := Lib.hid hown4
              obtain ⟨zp, zt, zd⟩ := z
              simp only at k0 k1 k2
              clear hz1' hz2' hz3' hk hown4 hord k0 k1 y0 y1
              go_wp2_with fail
              go_region
              go_wp2
              go_roundg (gk - 1)
              case measure => have := HIK2.out; have := HLT2.out; omega
              case rel =>
                refine ⟨i + 1, by have := HIK2.out; have := HLT2.out; omega, by go_num, ?_, ?_⟩
                · have h1 := HO4.out.setD HZ.out (Batch.wr (zd + yd))
                  have e : (A.set k ⟨zp, zt, Batch.wr (zd + yd)⟩).length = A.length := by simp
                  rw [HZ3.out, Batch.wrap64_wr']
                  exact h1.drew1
                · exact (HB5.out.setCell (p := ⟨ga, k * 3 + 2, none⟩) hga _).drew
        · have hd1 : decide ((i : Int) < (l.length : Int)) = false := decide_eq_false (by omega)
          have hd2 : decide (i < l.length) = false := decide_eq_false hlt2
          have HO7 := Lib.hid (show Batch.Own wr w3.heap.size 103 u6 (allL H B) by
            have h := HO.out
            rw [List.take_of_length_le (by omega), HT.out] at h
            exact h)
          have HB7 := Lib.hid (HB3.out.trans (HBQ.out.mono HB3.out.size))
          go_wp2_with fail
          go_ret
          exact ⟨_, rfl, HO7.out.mono HB3.out.size, HB7.out⟩
end Go.Proofs.YtdllgeanmlmmfaaGreatDoor.Cl
