/-
  PACKAGE marchlandref09: Ahead: the walk.
-/
import Derived.Test.YtneegocbknkhjaaCkRef
import Derived.Test.YtneegocbknkhjaaCkAhMem
namespace Go.Proofs.Ytneegocbknkhjaa.Ck
open Go.RowKit Rw Mm Go.Maps Pk
set_option linter.unusedVariables false

def AheadQ (l : List Ev) (w : World) (r : Ending) (w' : World) : Prop := ∃ vo bv rows, r = .returned vo ∧ AhD w.heap.size w vo bv rows w' ∧ rows.length = l.length ∧ ∀ (j : Nat) R, rows[j]? = some R → RowOk l j R
theorem rows_snoc {l : List Ev} {rows : List (List Bool)} {R : List Bool} (h : ∀ (j : Nat) R, rows[j]? = some R → RowOk l j R) (hR : RowOk l rows.length R) : ∀ (j : Nat) R', (rows ++ [R])[j]? = some R' → RowOk l j R' := by
  intro j R' hj
  by_cases hl : j < rows.length
  · rw [List.getElem?_append_left hl] at hj; exact h j R' hj
  · have : j = rows.length := by have := (List.getElem?_eq_some_iff.1 hj).1; simp at this; omega
    subst this
    rw [List.getElem?_append_right (Nat.le_refl _)] at hj
    simp at hj
    subst hj; exact hR
set_option maxRecDepth 1000000 in
set_option maxHeartbeats 16000000 in
theorem ahead_any {w : World} {v : Value} {l : List Ev} (hv : Rr evK w v l) (hl : l.length ≤ 1000) : Calls Try.prog 29 #[v] w (AheadQ l w) := by
  obtain ⟨o1, m1, n1⟩ := mk_eq (S := boolK) (by decide) 61 4 _ false 1 Try.underlying61 infoBo rfl l.length (by omega) (by omega)
  obtain ⟨i0, hi, hz0, hz1, hz2⟩ := info_partsP infoBs
  have N1 := Lib.hid n1
  have HV := Lib.hid hv
  have HL := Lib.hid hl
  obtain ⟨ao, cap, rfl, hv1, hv2⟩ := hv.form
  have H0 : Hid (AhD w.heap.size w (.slice none 0 0) [] [] w) := Lib.hid ⟨_, ahIs_start w⟩
  clear hv n1 hv1
  go_enter Try.func29, Try.ntmps29
  go_wp2_with fail
  go_loopg [3, 4] (l.length + 1) (fun k s t wr => ∃ (j : Nat) (bv : List Sv) (rows : List (List Bool)) (vo : Option Addr) (vc : Nat), j + k = l.length + 1 ∧ j ≤ l.length ∧ t = .int .i64 (j : Int) ∧ s = .slice vo j vc ∧ Hid (rows.length = j) ∧ Hid (AhD w.heap.size w (.slice vo j vc) bv rows wr) ∧ Hid (∀ (j : Nat) R, rows[j]? = some R → RowOk l j R))
  case atStart => exact ⟨0, [], [], none, 0, by omega, by omega, rfl, rfl, Lib.hid rfl, H0, Lib.hid (fun j R h => by simp at h)⟩
  case round =>
    obtain ⟨j, bv, rows, vo, vc, hjk, hjl, rfl, rfl, HRL, HD, HR⟩ := hrel
    clear H0
    have HJK := Lib.hid hjk
    have hj0 : (0 : Int) ≤ (j : Int) := Int.natCast_nonneg _
    by_cases hlt : j < l.length
    · have hj1 : (j : Int) < (l.length : Int) := by omega
      have hj9 : (j : Int) ≤ 1000 := by omega
      have HLT := Lib.hid hlt
      have HC0 := Lib.hid (HD.out.new N1.out)
      have HA0 := Lib.hid (ahRow_start l j)
      clear hjk hjl hlt
      go_wp2_with fail
      generalize hgr : wr.heap.size = gr at HC0 ⊢
      clear hgr
      go_loopg [6] j (fun k s wx => ∃ (R : List Bool), k ≤ j ∧ s = .int .i64 ((k : Int) - 1) ∧ Hid (AhRow l j k R) ∧ Hid (AhC w.heap.size w (.slice vo j vc) bv rows gr R wx))
      case atStart => exact ⟨_, Nat.le_refl _, by first | rfl | go_num, HA0, HC0⟩
      case round =>
        obtain ⟨R, hmj, rfl, HA, HC⟩ := hrel
        clear HC0 HA0
        by_cases hm : gk = 0
        · subst hm
          have HRO := Lib.hid (ahRow_end HA.out)
          have HRLEN : Hid (R.length = l.length) := Lib.hid HA.out.len
          obtain ⟨ao', cap', hvo, hown, hgl⟩ := HC.out.form
          clear hvo hmj
          go_wp2_with (at_builtin; refine Batch.wpList_append_any _ rfl _ _ 58 58 rfl 0 61 61 i0 (.slice none 0 0) 1 24 Try.underlying58 Try.underlying58 hi hz0 hz1 hz2 rfl (by decide) (.slice vo j vc) rows.length (svK.flat bv) rfl (hown.alloc _) (some ⟨wr.heap.size, 0, none⟩) 1 1 [.slice (some ⟨gr, 0, none⟩) l.length l.length] rfl rfl ?c1 ?c2 ?c3 ?c4 ?c5 ?_)
          case c1 => exact .inr ⟨_, rfl, World.news_of_block (cs := #[.slice (some ⟨gr, 0, none⟩) l.length l.length]) (heap_alloc_new wr _)⟩
          case c2 => intro u hu; simp at hu; subst hu; rfl
          case c3 => unfold maxLen; have := HRL.out; have := HLT.out; omega
          case c4 => have := HRL.out; have := HLT.out; omega
          case c5 => exact Nat.zero_le _
          intro v' w1 hown1 hgrow hblk
          rw [← HRLEN.out] at hown1
          have hd := HC.out.append _ hown1 hgrow hblk
          obtain ⟨vo', n', vc', rfl⟩ : ∃ ao n c, v' = .slice ao n c := by obtain ⟨τ, h⟩ := hd; obtain ⟨ao, c, h⟩ := h.out.1.form2; exact ⟨ao, _, c, h⟩
          obtain rfl : n' = j + 1 := by
            obtain ⟨τ, h⟩ := id hd
            obtain ⟨ao, c, h2⟩ := h.out.1.form2
            simp only [Value.slice.injEq] at h2
            rw [h2.2.1, h.len]; simp [HRL.out]
          have HD2 := Lib.hid hd
          have HR2 := Lib.hid (rows_snoc HR.out (by rw [HRL.out]; exact HRO.out))
          have HRL2 : Hid ((rows ++ [R]).length = j + 1) := Lib.hid (by simp [HRL.out])
          clear hown hown1 hgrow hblk hd
          go_wp2_with fail
          go_roundg (l.length - j)
          case measure => have := HJK.out; have := HLT.out; omega
          case rel => exact ⟨j + 1, _, _, _, _, by have := HJK.out; have := HLT.out; omega, by have := HLT.out; omega, by go_num, rfl, HRL2, HD2, HR2⟩
        · obtain ⟨m, rfl⟩ : ∃ m, gk = m + 1 := ⟨gk - 1, by omega⟩
          have hme : (((m + 1 : Nat) : Int) - 1) = (m : Int) := by omega
          rw [hme]
          have hmlt : m < j := by omega
          have hm0 : (0 : Int) ≤ (m : Int) := Int.natCast_nonneg _
          have hm1 : (m : Int) < (l.length : Int) := by omega
          have hm9 : (m : Int) ≤ 1000 := by omega
          have HMLT := Lib.hid hmlt
          have hrlen := HA.out.len
          obtain ⟨cc, cf⟩ := HC.out.cell (x := m) (by rw [hrlen]; have := HLT.out; omega)
          clear hm hmj hme hmlt hrlen
          by_cases hb : R.getD m false = true
          · rw [hb] at cc
            have HA2 := Lib.hid (ahRow_skip HA.out HMLT.out (.inl hb))
            clear hb
            go_wp2_with fail
            go_roundg m
            case measure => omega
            case rel => exact ⟨R, by have := HMLT.out; omega, by go_num, HA2, HC⟩
          · have hbf : R.getD m false = false := by simpa using hb
            rw [hbf] at cc
            have HB := Lib.hid hb
            clear hb hbf
            go_wp2_with fail
            go_at_call 74
            refine (step_any (HV.out.below HC.out.bl) hl HMLT.out HLT.out).mono ?_
            rintro r w2 ⟨bs, rfl, hbs, hb2⟩
            have HC2 := Lib.hid (HC.out.below hb2)
            have HBS := Lib.hid hbs
            clear hb2 hbs cc cf
            cases bs
            · have HA2 := Lib.hid (ahRow_skip HA.out HMLT.out (.inr (fun q => by have := HBS.out.2 q; cases this)))
              go_wp2_with fail
              go_roundg m
              case measure => omega
              case rel => exact ⟨R, by have := HMLT.out; omega, by go_num, HA2, HC2⟩
            · have HST := Lib.hid (HBS.out.1 rfl)
              have HM0 := Lib.hid (ahMid_start HA.out HMLT.out HLT.out HST.out)
              have hrlen := HA.out.len
              have hmR : m < R.length := by rw [hrlen]; have := HLT.out; have := HMLT.out; omega
              obtain ⟨cc, cf⟩ := HC2.out.cell hmR
              have HC3 := Lib.hid (HC2.out.set hmR true)
              clear HBS hrlen hmR HC
              go_wp2_with fail
              go_loopg [7] m (fun k t wx => ∃ (x : Nat) (R' : List Bool), x + k = m ∧ t = .int .i64 (x : Int) ∧ Hid (AhMid l j m x R') ∧ Hid (AhC w.heap.size w (.slice vo j vc) bv rows gr R' wx))
              case atStart => exact ⟨0, _, by omega, rfl, HM0, HC3⟩
              case round =>
                obtain ⟨x, R', hxk, rfl, HM, HC⟩ := hrel
                clear HM0 HC3 HC2
                have HXK := Lib.hid hxk
                have hx0 : (0 : Int) ≤ (x : Int) := Int.natCast_nonneg _
                by_cases hlt : x < m
                · have hx1 : (x : Int) < (m : Int) := by omega
                  have hx2 : (x : Int) < (l.length : Int) := by omega
                  have HX := Lib.hid hlt
                  have hrlen := HM.out.len
                  have hxR : x < R'.length := by rw [hrlen]; omega
                  obtain ⟨cc, cf⟩ := HC.out.cell hxR
                  have HXR := Lib.hid hxR
                  clear hxk hlt hrlen hxR
                  by_cases hb : R'.getD x false = true
                  · rw [hb] at cc
                    obtain ⟨r, hr⟩ : ∃ r, rows[m]? = some r := ⟨_, List.getElem?_eq_getElem (by rw [HRL.out]; exact HMLT.out)⟩
                    have hro := HR.out m r hr
                    have HM2 := Lib.hid (ahMid_next HM.out HMLT.out HLT.out HST.out HX.out (hro.2 x))
                    rw [hb, Bool.true_or] at HM2
                    have HC2 := Lib.hid (HC.out.set HXR.out true)
                    clear hb hr hro
                    go_wp2_with fail
                    go_roundg (gk - 1)
                    case measure => have := HXK.out; have := HX.out; omega
                    case rel => exact ⟨x + 1, _, by have := HXK.out; have := HX.out; omega, by go_num, HM2, HC2⟩
                  · have hbf : R'.getD x false = false := by simpa using hb
                    rw [hbf] at cc
                    obtain ⟨r, hr⟩ : ∃ r, rows[m]? = some r := ⟨_, List.getElem?_eq_getElem (by rw [HRL.out]; exact HMLT.out)⟩
                    have hro := HR.out m r hr
                    have HM2 := Lib.hid (ahMid_next HM.out HMLT.out HLT.out HST.out HX.out (hro.2 x))
                    rw [hbf, Bool.false_or] at HM2
                    obtain ⟨g, cap2, gi, hvv, e1, e2⟩ := HC.out.at hr (x := x) (by rw [hro.1]; have := HX.out; have := HMLT.out; have := HLT.out; omega)
                    simp only [Value.slice.injEq] at hvv
                    obtain ⟨rfl, _, rfl⟩ := hvv
                    rw [hro.1] at e1
                    obtain ⟨bx, hbx⟩ : ∃ bx, bx = r.getD x false := ⟨_, rfl⟩
                    rw [← hbx] at e2 HM2
                    have HC2 := Lib.hid (HC.out.set HXR.out bx)
                    have hmj1 : (m : Int) < (j : Int) := by have := HMLT.out; omega
                    clear hb hbf hr hro hbx
                    go_wp2_with fail
                    go_roundg (gk - 1)
                    case measure => have := HXK.out; have := HX.out; omega
                    case rel => exact ⟨x + 1, _, by have := HXK.out; have := HX.out; omega, by go_num, HM2, HC2⟩
                · have hx1 : ¬ (x : Int) < (m : Int) := by omega
                  have hxe : x = m := by omega
                  have HA2 := Lib.hid (show AhRow l j m R' from by subst hxe; exact ahMid_end HM.out)
                  clear hxk hlt hxe
                  go_wp2_with fail
                  go_roundg m
                  case measure => omega
                  case rel => exact ⟨R', by have := HMLT.out; omega, by go_num, HA2, HC⟩
    · have hj1 : ¬ (j : Int) < (l.length : Int) := by omega
      have hje : j = l.length := by omega
      have HE : Hid (rows.length = l.length) := Lib.hid (by rw [← hje]; exact HRL.out)
      clear hjk hjl hlt hje
      go_wp2_with fail
      go_ret
      exact ⟨_, bv, rows, rfl, HD.out, HE.out, HR.out⟩
end Go.Proofs.Ytneegocbknkhjaa.Ck
