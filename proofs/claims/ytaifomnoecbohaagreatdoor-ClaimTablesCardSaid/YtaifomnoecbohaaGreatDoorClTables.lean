/-
  THE WALK OF THE LAW ClaimTables.
-/
import Derived.Test.YtaifomnoecbohaaGreatDoorJoined3
import Derived.Test.YtaifomnoecbohaaGreatDoorClTold
import Derived.Test.YtaifomnoecbohaaGreatDoorJoined21
import Derived.Deep.CutBlock
import Derived.Deep.CutRange
import Derived.Laws.OwnMore
namespace Go.Proofs.YtaifomnoecbohaaGreatDoor.Tb
open Go.RowKit Rw Gr Fault Cl
set_option linter.unusedVariables false

def TabS (w : World) (ta wa : Option Addr) (tc wc : Nat) (T : List So) (D : List Int) (i : Nat) (d : Value) (wr : World) : Prop :=
  TabP T D i ∧ Sl slK wr (.slice ta 64 tc) T ∧ Sl slK wr (.slice wa 64 wc) T ∧ Rw.Own Pk.intK wr w.heap.size 3 d D ∧ Below w.heap.size w wr
theorem own64 {w : World} {base : Nat} {Ty : TypeId} {v : Value} {T : List So} (h : Rw.Own slK w base Ty v T) (hl : T.length = 64) : ∃ a c, v = .slice (some ⟨a, 0, none⟩) 64 c ∧ base ≤ a := by
  obtain ⟨a, c, hv, ha, _⟩ := own_some h (by omega)
  exact ⟨a, c, by rw [hv, hl], ha⟩

theorem sl_of_blk {w w' : World} {a n c : Nat} {l : List So} (h : Sl slK w (.slice (some ⟨a, 0, none⟩) n c) l) (hs : w.heap.size ≤ w'.heap.size) (hb : w'.heap[a]? = w.heap[a]?) : Sl slK w' (.slice (some ⟨a, 0, none⟩) n c) l := by
  obtain ⟨ao, cap, hv, h1, h2, h3, h4⟩ := h
  refine ⟨ao, cap, hv, ?_, h2, h3, h4⟩
  simp only [Value.slice.injEq] at hv
  obtain ⟨rfl, _, _⟩ := hv
  rcases h1 with ⟨h1, _⟩ | ⟨b, off, hlt, he, h1⟩
  · cases h1
  · injection he with he
    injection he with e1 e2
    subst e1 e2
    exact .inr ⟨a, 0, by omega, rfl, fun i x hx c' u hc hu => by
      have := h1 i x hx c' u hc hu
      unfold World.cell? at this ⊢
      rw [hb]
      exact this⟩
set_option maxRecDepth 1000000 in
set_option maxHeartbeats 16000000 in
theorem ctables_any {w : World} {v : Value} {L : List Int} (hL : LV w) (hv : Rr Pk.intK w v L) :
    Calls Tryz.prog 5 #[v] w fun e w' => e = .returned (.bool true) ∧ Below w.heap.size w w' := by
  have HV := Lib.hid hv
  have HL := Lib.hid hL
  have HWF := Lib.hid hv.wf
  obtain ⟨ao, cap, rfl, hc1, hc2⟩ := hv.form
  have hlen : L.length ≤ 9223372036854775807 := by omega
  clear hL hc1 hv
  go_enter Tryz.func5, Tryz.ntmps5
  go_wp2_with fail
  go_at_call 21
  refine (fresh_any _).mono ?_
  rintro e w1 ⟨vt, rfl, ho, hb⟩
  obtain ⟨ta, tc, rfl, _⟩ := own64 ho (by simp [freshL])
  obtain ⟨i0, hi, hz0, hz1, hz2⟩ := info_parts infoRs
  obtain ⟨w2, hrun, hown, hg⟩ := run_makeSlice_full (P := Tryz.prog) w1 w1.heap.size 69 80 i0 (.agg #[.int .i64 0, .bool false]) 2 Tryz.underlying69 hi hz0 hz1 .i64 .i64 64 (by decide) (by rw [hz2]; decide) (by decide) (Nat.le_refl _)
  have hrun' : (Instr.makeSlice 69 (.int .i64 64) (.int .i64 64)).run Tryz.prog w1 = .ok (.slice (some ⟨w1.heap.size, 0, none⟩) 64 64) w2 := hrun
  have hcs : (madeCells (Value.agg #[Value.int IntKind.i64 0, Value.bool false]).cells (64 * 2)).toList = slK.flat freshL := by kernel_rfl
  have hO : Rw.Own slK w2 w1.heap.size 80 (.slice (some ⟨w1.heap.size, 0, none⟩) 64 64) freshL := by unfold Rw.Own; rw [← hcs]; exact hown
  have hb2 := (Below.refl w1.heap.size w1).grown hg (Nat.le_refl _) (fun k e => by cases e)
  have hS1 : Sl slK w2 (.slice (some ⟨ta, 0, none⟩) 64 tc) freshL := (ho.sl (TabP.start.wf (by decide))).below hb2
  have hS2 : Sl slK w2 (.slice (some ⟨w1.heap.size, 0, none⟩) 64 64) freshL := hO.sl (TabP.start.wf (by decide))
  have hB2 := hb.trans (hb2.mono hb.size)
  have H0 := Lib.hid (show TabS w (some ⟨ta, 0, none⟩) (some ⟨w1.heap.size, 0, none⟩) tc 64 freshL [] 0 (.slice none 0 0) w2 from ⟨TabP.start, hS1, hS2, Rw.Own.nil (S := Pk.intK) _ _ _, hB2⟩)
  clear ho hb hi hz0 hz1 hz2 hrun hown hcs hO hb2 hS1 hS2 hB2 hg
  go_wp2_with fail
  clear hrun'
  go_at_call 9
  refine (cltold_any _ (HL.out.below H0.out.2.2.2.2)).mono ?_
  rintro e w3 ⟨rfl, hb3⟩
  have H1 := Lib.hid (show TabS w (some ⟨ta, 0, none⟩) (some ⟨w1.heap.size, 0, none⟩) tc 64 freshL [] 0 (.slice none 0 0) w3 from by
    obtain ⟨h1, h2, h3, h4, h5⟩ := H0.out
    exact ⟨h1, h2.below hb3, h3.below hb3, h4.below hb3, h5.trans (hb3.mono h5.size)⟩)
  clear H0 hb3
  go_wp2_with fail
  go_loopg [3, 4, 5, 6] 300 (fun k t u d s wr => ∃ (i : Nat) (T : List So) (D : List Int) (ta wa : Option Addr) (tc wc : Nat), i + k = 300 ∧ i ≤ L.length ∧ s = .int .i64 (i : Int) ∧ t = .slice ta 64 tc ∧ u = .slice wa 64 wc ∧ Hid (TabS w ta wa tc wc T D i d wr))
  case atStart => exact ⟨0, freshL, [], _, _, _, _, rfl, by omega, rfl, rfl, rfl, H1⟩
  case round =>
    obtain ⟨i, T, D, ta, wa, tc, wc, hik, hil, rfl, rfl, rfl, HS⟩ := hrel
    have HIK := Lib.hid hik
    have hi3 : i ≤ 300 := by omega
    have hi0 : (0 : Int) ≤ (i : Int) := Int.natCast_nonneg _
    clear hik
    by_cases hend : i < L.length ∧ i < 300
    · obtain ⟨h1, h2⟩ := hend
      have h1' : (i : Int) < (L.length : Int) := by omega
      have h2' : (i : Int) < 300 := by omega
      have HEND := Lib.hid h1
      have HEND2 := Lib.hid h2
      obtain ⟨x, hx⟩ : ∃ x, L[i]? = some x := ⟨_, List.getElem?_eq_getElem h1⟩
      have hxw := HWF.out x (List.mem_of_getElem? hx)
      obtain ⟨hxw1, hxw2⟩ := hxw
      obtain ⟨b, off, rfl, hbl, q⟩ := HV.out.at hx
      have HBL := Lib.hid hbl
      have HQ : ∀ wx, Below w.heap.size w wx → Hid (wx.cell? ⟨b, off + i, none⟩ = some (.int .i64 x)) := fun wx hwx => by
        have c0 := Pk.at1 (q.below hwx hbl)
        simp only [Pk.intK_k, Nat.mul_one] at c0
        exact Lib.hid c0
      clear hx q hbl h1 h2
      have hcell := (HQ wr HS.out.2.2.2.2).out
      go_upto_if 44 with fail
      clear hcell
      go_cut [3, 4, 5] from 30 to 147 (fun t u d wx => ∃ (T' : List So) (D' : List Int) (ta wa : Option Addr) (tc wc : Nat), t = .slice ta 64 tc ∧ u = .slice wa 64 wc ∧ Hid (TabS w ta wa tc wc T' D' (i + 1) d wx))
      case first =>
        have hcell := (HQ wr HS.out.2.2.2.2).out
        obtain ⟨hP, hS1, hS2, hD, hB⟩ := HS.out
        have HP := Lib.hid hP
        by_cases hx0 : x < 0
        · clear hcell HQ
          rcases free_or T with hF | ⟨j, g, hF, hj⟩
          · have HF := Lib.hid hF
            have HT1 := Lib.hid (take_no hS1 hF)
            have HS2 := Lib.hid hS2
            have HS1 := Lib.hid hS1
            have HD := Lib.hid hD
            have HB := Lib.hid hB
            clear hP hS1 hS2 hD hB hF HS
            go_wp2_with fail
            go_at_call 22
            refine HT1.out.mono ?_
            rintro e w4 ⟨rfl, hb4⟩
            have HB4 := Lib.hid hb4
            clear hb4
            go_wp2_with fail
            go_at_call 23
            refine (reftake_no (HS2.out.below HB4.out) HF.out (by rw [HP.out.len]; omega)).mono ?_
            rintro e w5 ⟨vb, rfl, ho5, hb5⟩
            obtain ⟨wa', wc', rfl, _⟩ := own64 ho5 HP.out.len
            have HB5 := Lib.hid (HB4.out.trans (hb5.mono HB4.out.size))
            have HN : Hid (TabS w ta (some ⟨wa', 0, none⟩) tc wc' T D (i + 1) u5 w5) := Lib.hid ⟨HP.out.next, HS1.out.below HB5.out, ho5.sl (HP.out.wf (by omega)), HD.out.below HB5.out, HB.out.trans (HB5.out.mono HB.out.size)⟩
            obtain ⟨da, dc, hdv⟩ := HN.out.2.2.2.1.form2
            have hDl := HP.out.many
            have hDl2 : (D.length : Int) ≤ 300 := by omega
            subst hdv
            clear ho5 hb5
            go_wp2_with fail
            go_loopg [12] D.length (fun k s wx => ∃ n : Nat, n + k = D.length ∧ s = .int .i64 (n : Int) ∧ w5 = wx)
            case atStart => exact ⟨0, by omega, rfl, rfl⟩
            case round =>
              obtain ⟨n, hnk, rfl, rfl⟩ := hrel
              have HNK := Lib.hid hnk
              have hn0 : (0 : Int) ≤ (n : Int) := Int.natCast_nonneg _
              clear hnk
              by_cases hnl : n < D.length
              · have hnl' : (n : Int) < (D.length : Int) := by omega
                go_wp2_with fail
                go_roundg (gk - 1)
                case measure => have := HNK.out; omega
                case rel => exact ⟨n + 1, by have := HNK.out; omega, by go_num, rfl⟩
              · have hnl' : decide ((n : Int) < (D.length : Int)) = false := decide_eq_false (by omega)
                go_wp2_with fail
                go_meet
                exact ⟨T, D, _, _, _, _, rfl, rfl, HN⟩
          · have HF := Lib.hid hF
            have hgg := hP.gen _ (List.mem_of_getElem? hj)
            have HG : Hid (0 ≤ g ∧ g ≤ 100000) := Lib.hid ⟨hgg.1, by have := hgg.2; simp only at this; omega⟩
            have HJ := Lib.hid hj
            have hjl : j < 64 := by rw [← hP.len]; exact (List.getElem?_eq_some_iff.1 hj).1
            have hg0 : 0 ≤ g := hgg.1
            have hg1 : g ≤ 300 := by have := hgg.2; simp only at this; omega
            have HT1 := Lib.hid (take_yes hS1 hF hj (by rw [hP.len]; omega) HG.out)
            have HS2 := Lib.hid hS2
            have HS1 := Lib.hid hS1
            have HD := Lib.hid hD
            have HB := Lib.hid hB
            clear hP hS1 hS2 hD hB hF HS hj hgg
            go_wp2_with fail
            go_at_call 22
            refine HT1.out.mono ?_
            rintro e w4 ⟨va, rfl, ho4, hb4⟩
            obtain ⟨ta', tc', rfl, _⟩ := own64 ho4 (by rw [List.length_set]; exact HP.out.len)
            have HP4 := Lib.hid (HP.out.take HJ.out)
            have HS4 := Lib.hid (ho4.sl (HP4.out.wf (by omega)))
            have HB4 := Lib.hid hb4
            clear hb4 ho4
            go_wp2_with fail
            go_at_call 23
            refine (reftake_yes (HS2.out.below HB4.out) HF.out HJ.out (by rw [HP.out.len]; omega) HG.out).mono ?_
            rintro e w5 ⟨vb, rfl, ho5, hb5⟩
            obtain ⟨wa', wc', rfl, _⟩ := own64 ho5 (by rw [List.length_set]; exact HP.out.len)
            have HB5 := Lib.hid (HB4.out.trans (hb5.mono HB4.out.size))
            have HN : Hid (TabS w (some ⟨ta', 0, none⟩) (some ⟨wa', 0, none⟩) tc' wc' (T.set j (g, true)) D (i + 1) u5 w5) := Lib.hid ⟨HP4.out, HS4.out.below hb5, ho5.sl (HP4.out.wf (by omega)), HD.out.below HB5.out, HB.out.trans (HB5.out.mono HB.out.size)⟩
            obtain ⟨da, dc, hdv⟩ := HN.out.2.2.2.1.form2
            have hDl := HP.out.many
            have hDl2 : (D.length : Int) ≤ 300 := by omega
            subst hdv
            clear ho5 hb5
            go_wp2_with fail
            go_loopg [12] D.length (fun k s wx => ∃ n : Nat, n + k = D.length ∧ s = .int .i64 (n : Int) ∧ w5 = wx)
            case atStart => exact ⟨0, by omega, rfl, rfl⟩
            case round =>
              obtain ⟨n, hnk, rfl, rfl⟩ := hrel
              have HNK := Lib.hid hnk
              have hn0 : (0 : Int) ≤ (n : Int) := Int.natCast_nonneg _
              clear hnk
              by_cases hnl : n < D.length
              · have hnl' : (n : Int) < (D.length : Int) := by omega
                obtain ⟨z, hz⟩ : ∃ z, D[n]? = some z := ⟨_, List.getElem?_eq_getElem hnl⟩
                have hne := HP.out.never HJ.out (List.mem_of_getElem? hz)
                have hne2 : (z == (j : Int) + 64 * g) = false := by rw [beq_eq_false_iff_ne]; exact hne
                obtain ⟨gb, goff, hda, _, qd⟩ := (HN.out.2.2.2.1.sl (fun z hz => by have := HP.out.old z hz; exact ⟨by omega, by omega⟩)).at hz
                have cd := Pk.at1 qd
                simp only [Pk.intK_k, Nat.mul_one] at cd
                subst hda
                clear hz hne qd
                go_wp2_with fail
                go_roundg (gk - 1)
                case measure => have := HNK.out; omega
                case rel => exact ⟨n + 1, by have := HNK.out; omega, by go_num, rfl⟩
              · have hnl' : decide ((n : Int) < (D.length : Int)) = false := decide_eq_false (by omega)
                go_wp2_with fail
                go_meet
                exact ⟨_, D, _, _, _, _, rfl, rfl, HN⟩
        · have hx1 : 0 ≤ x := by omega
          have hx2 : decide (x < 0) = false := decide_eq_false hx0
          obtain ⟨j, g', u, hm, hj⟩ := give_or hP.len hx1
          have hgg := hP.gen _ (List.mem_of_getElem? hj)
          have hg0 : 0 ≤ g' := hgg.1
          have hg1 : g' ≤ 300 := by have := hgg.2; simp only at this; omega
          have HJ := Lib.hid hj
          have HM := Lib.hid hm
          have HX1 := Lib.hid hx1
          have HS2 := Lib.hid hS2
          have HS1 := Lib.hid hS1
          have HD := Lib.hid hD
          have HB := Lib.hid hB
          obtain ⟨i0, hi, hz0, hz1, hz2⟩ := Pk.info_partsP Pk.infoIn
          by_cases hyes : g' = x / 64 ∧ u = true
          · obtain ⟨hgx, rfl⟩ := hyes
            have HGX := Lib.hid hgx.symm
            have HT1 := Lib.hid (give_yes x hS1 hx1 hxw2 hm hgx.symm hj ⟨hg0, by omega⟩ (by rw [hP.len]; omega))
            have HP4 := Lib.hid (hP.give hx1 hxw2 hm hgx.symm hj)
            clear hP hS1 hS2 hD hB HS hj hgg hm hgx hx1
            go_wp2_with fail
            go_at_call 24
            refine HT1.out.mono ?_
            rintro e w4 ⟨va, rfl, ho4, hb4⟩
            obtain ⟨ta', tc', rfl, hta⟩ := own64 ho4 (by rw [List.length_set]; exact HP.out.len)
            have HS4 := Lib.hid (ho4.sl (HP4.out.wf (by omega)))
            have HB4 := Lib.hid hb4
            have hcell4 := (HQ w4 (HB.out.trans (hb4.mono HB.out.size))).out
            clear hb4 ho4 hcell
            go_wp2_with fail
            go_at_call 25
            refine (refgive_yes x (HS2.out.below HB4.out) HX1.out hxw2 HM.out HGX.out HJ.out ⟨hg0, by omega⟩ HP.out.len).mono ?_
            rintro e w5 ⟨vb, rfl, ho5, hb5⟩
            obtain ⟨wa', wc', rfl, hwa⟩ := own64 ho5 (by rw [List.length_set]; exact HP.out.len)
            have HB5 := Lib.hid (HB4.out.trans (hb5.mono HB4.out.size))
            have HS5 := Lib.hid (HS4.out.below hb5)
            have HR5 := Lib.hid (ho5.sl (HP4.out.wf (by omega)))
            have hcell5 := (HQ w5 (HB.out.trans (HB5.out.mono HB.out.size))).out
            have hown : w5.ownsRow w.heap.size 3 1 u5 D.length (Pk.intK.flat D) := HD.out.below HB5.out
            have hDl := HP.out.many
            have hsz5 : w.heap.size ≤ w5.heap.size := (HB.out.trans (HB5.out.mono HB.out.size)).size
            clear ho5 hb5 hcell4
            go_wp2_with (at_builtin; refine Batch.wpList_append_any _ rfl _ _ 23 23 rfl w.heap.size 3 3 i0 (.int .i64 0) 1 8 Tryz.underlying23 Tryz.underlying23 hi hz0 hz1 hz2 rfl (by decide) u5 D.length (Pk.intK.flat D) rfl (hown.alloc _) (some ⟨w5.heap.size, 0, none⟩) 1 1 [.int .i64 x] rfl rfl ?c1 ?c2 ?c3 ?c4 ?c5 ?_)
            case c1 => exact .inr ⟨_, rfl, World.news_of_block (cs := #[.int .i64 x]) (heap_alloc_new w5 _)⟩
            case c2 => intro y hy; simp at hy; subst hy; rfl
            case c3 => unfold maxLen; omega
            case c4 => omega
            case c5 => simp; omega
            intro v' w6 hown6 hgrow hblk
            have hb6 : Below w.heap.size w5 w6 := ((Below.refl _ _).alloc hsz5 _).grown hgrow (by simp; omega) (fun k e => (hown.lt k e).1)
            have hs4 := HB4.out.size
            have hs5 := HB5.out.size
            have hlt6 : ∀ k, u5.ownBlock = some k → k < wr.heap.size := fun k e => (HD.out.lt k e).2
            have hlt1 : ta' < w5.heap.size := by
              obtain ⟨b1, o1, e1, h, _⟩ := HS5.out.at (show ((T.set j (g' + 1, false))[j]? = some (g' + 1, false)) from List.getElem?_set_self (List.getElem?_eq_some_iff.1 HJ.out).1)
              injection e1 with e1
              injection e1 with e1 _
              subst e1
              exact h
            have hlt2 : wa' < w5.heap.size := by
              obtain ⟨b1, o1, e1, h, _⟩ := HR5.out.at (show ((T.set j (g' + 1, false))[j]? = some (g' + 1, false)) from List.getElem?_set_self (List.getElem?_eq_some_iff.1 HJ.out).1)
              injection e1 with e1
              injection e1 with e1 _
              subst e1
              exact h
            have hsz6 : w5.heap.size ≤ w6.heap.size := by have := hgrow.size; simp at this; omega
            have hS6 : Sl slK w6 (.slice (some ⟨ta', 0, none⟩) 64 tc') (T.set j (g' + 1, false)) := sl_of_blk HS5.out hsz6 ((hgrow.block ta' (by simp; omega) (fun h => by have := hlt6 ta' h.symm; omega)).trans (heap_alloc_old w5 _ hlt1))
            have hR6 : Sl slK w6 (.slice (some ⟨wa', 0, none⟩) 64 wc') (T.set j (g' + 1, false)) := sl_of_blk HR5.out hsz6 ((hgrow.block wa' (by simp; omega) (fun h => by have := hlt6 wa' h.symm; omega)).trans (heap_alloc_old w5 _ hlt2))
            have hnew : Rw.Own Pk.intK w6 w.heap.size 3 v' (D ++ [x]) := by
              unfold Rw.Own
              rw [flat_snoc, List.length_append]
              exact hown6
            have HN : Hid (TabS w (some ⟨ta', 0, none⟩) (some ⟨wa', 0, none⟩) tc' wc' (T.set j (g' + 1, false)) (D ++ [x]) (i + 1) v' w6) := Lib.hid ⟨HP4.out, hS6, hR6, hnew, HB.out.trans ((HB5.out.mono HB.out.size).trans hb6)⟩
            clear hown hown6 hgrow hblk hb6 hs4 hs5 hlt6 hlt1 hlt2 hS6 hR6 hnew hcell5
            go_wp2_with fail
            go_meet
            exact ⟨_, _, _, _, _, _, rfl, rfl, HN⟩
          · have hno : (g' == x / 64 && u == true) = false := by
              rw [Bool.and_eq_false_iff, beq_eq_false_iff_ne, beq_eq_false_iff_ne]
              by_cases e : g' = x / 64
              · exact .inr (fun h => hyes ⟨e, h⟩)
              · exact .inl e
            have hno2 : u = false ∨ u = true ∧ g' ≠ x / 64 := by
              cases u
              · exact .inl rfl
              · exact .inr ⟨rfl, fun e => hyes ⟨e, rfl⟩⟩
            have HT1 := Lib.hid (give_no x hS1 hx1 hxw2 hm rfl hj hno)
            have HT2 := Lib.hid (refgive_no x hS2 hP.len hxw2 (.inr ⟨hx1, j, g', u, hm, hj, hno2⟩))
            have hwfT := Lib.hid (hP.wf (by omega))
            clear hP hS1 hS2 hD hB HS hj hgg hm hx1 hyes hno hno2
            go_wp2_with fail
            go_at_call 24
            refine HT1.out.mono ?_
            rintro e w4 ⟨rfl, rfl⟩
            go_wp2_with fail
            go_at_call 25
            refine HT2.out.mono ?_
            rintro e w5 ⟨vb, rfl, ho5, hb5⟩
            obtain ⟨wa', wc', rfl, _⟩ := own64 ho5 HP.out.len
            have HN : Hid (TabS w ta (some ⟨wa', 0, none⟩) tc wc' T D (i + 1) u5 w5) := Lib.hid ⟨HP.out.next, HS1.out.below hb5, ho5.sl hwfT.out, HD.out.below hb5, HB.out.trans (hb5.mono HB.out.size)⟩
            clear ho5 hb5 hcell
            go_wp2_with fail
            go_meet
            exact ⟨_, _, _, _, _, _, rfl, rfl, HN⟩
      case rest =>
        obtain ⟨T', D', ta', wa', tc', wc', rfl, rfl, HN⟩ := hcut
        rename_i wz
        obtain ⟨hP, hS1, hS2, hD, hB⟩ := HN.out
        have HP := Lib.hid hP
        have HS2 := Lib.hid hS2
        have HB := Lib.hid hB
        have HTA := Lib.hid (table_any hS1 (by rw [hP.len]; omega))
        clear hP hS1 hS2 hD hB HS
        go_wp2_with fail
        go_at_call 26
        refine HTA.out.mono ?_
        rintro e w7 ⟨vx, rfl, ho7, hb7⟩
        obtain ⟨xa, xc, rfl, _⟩ := own64 ho7 HP.out.len
        have HX7 := Lib.hid (ho7.sl (HP.out.wf (by omega)))
        have HS7 := Lib.hid (HS2.out.below hb7)
        have HN7 : Hid (TabS w ta' wa' tc' wc' T' D' (i + 1) _ w7) := Lib.hid (by
          obtain ⟨h1, h2, h3, h4, h5⟩ := HN.out
          exact ⟨h1, h2.below hb7, h3.below hb7, h4.below hb7, h5.trans (hb7.mono h5.size)⟩)
        clear ho7 hb7 HN HTA HB HS2
        go_wp2_with fail
        go_loopg [18] 64 (fun k s wx => ∃ n : Nat, n + k = 64 ∧ s = .int .i64 (n : Int) ∧ ∃ q, wx = w7.drewN q)
        case atStart => exact ⟨0, rfl, rfl, 0, rfl⟩
        case round =>
          obtain ⟨n, hnk, rfl, q, rfl⟩ := hrel
          have HNK := Lib.hid hnk
          have hn0 : (0 : Int) ≤ (n : Int) := Int.natCast_nonneg _
          clear hnk
          by_cases hnl : n < 64
          · have hnl' : (n : Int) < 64 := by omega
            obtain ⟨g, u, hz⟩ := at_ofT (show n < T'.length by rw [HP.out.len]; exact hnl)
            obtain ⟨b1, o1, e1, _, q1⟩ := HX7.out.at hz
            obtain ⟨b2, o2, rfl, _, q2⟩ := HS7.out.at hz
            injection e1 with e1
            injection e1 with e1 e2
            obtain ⟨c0, c1⟩ := at2 q1
            obtain ⟨d0, d1⟩ := at2 q2
            rw [← e1, ← e2, Nat.zero_add] at c0 c1
            simp only [slK_k] at c0 c1 d0 d1
            have hneq := neqRs g g u u
            rw [show (!(g == g && u == u)) = false by simp] at hneq
            clear hz q1 q2 e1 e2
            go_wp2_with fail
            go_quiet (fail)
            go_wp2_with fail
            go_roundg (gk - 1)
            case measure => have := HNK.out; omega
            case rel => exact ⟨n + 1, by have := HNK.out; omega, by go_num, _, rfl⟩
          · obtain rfl : n = 64 := by have := HNK.out; omega
            have HR : Hid (TabS w ta' wa' tc' wc' T' D' (i + 1) _ (w7.drewN q)) := Lib.hid (by
              obtain ⟨h1, h2, h3, h4, h5⟩ := HN7.out
              have hd := below_drewN (Below.refl w7.heap.size w7) q
              exact ⟨h1, h2.below hd, h3.below hd, h4.draw _, below_drewN h5 _⟩)
            go_wp2_with fail
            go_roundg (300 - (i + 1))
            case measure => have := HIK.out; omega
            case rel => exact ⟨i + 1, T', D', _, _, _, _, by have := HEND2.out; omega, HEND.out, by go_num, rfl, rfl, HR⟩
    · have HT := Lib.hid (give_neg (w := wr) (v := .slice ta 64 tc) (-1) (by decide))
      have HB := Lib.hid HS.out.2.2.2.2
      by_cases hlt : i < L.length
      case' pos =>
        have hj0 : (i : Int) < (L.length : Int) := by omega
        have hj1 : ¬ ((i : Int) < 300) := by omega
      case' neg => have hj0 : ¬ ((i : Int) < (L.length : Int)) := by omega
      all_goals
        clear hend hlt HS
        go_wp2_with fail
        go_at_call 24
        refine HT.out.mono ?_
        rintro e w9 ⟨rfl, rfl⟩
        go_wp2_with fail
        go_ret
        exact ⟨rfl, HB.out⟩
end Go.Proofs.YtaifomnoecbohaaGreatDoor.Tb
