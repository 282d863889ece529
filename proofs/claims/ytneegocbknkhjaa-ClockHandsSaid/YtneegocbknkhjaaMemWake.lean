/-
  PACKAGE mem: Wake.
-/
import Derived.Test.YtneegocbknkhjaaMemSleep
namespace Go.Proofs.Ytneegocbknkhjaa.Mm
open Go.RowKit Rw Pk Go.Maps
set_option linter.unusedVariables false

def wakeAll (sp : Int → Bool) (l : List Int) : Int → Bool := l.foldl (fun s x => putB s x false) sp
theorem wakeAll_snoc (sp : Int → Bool) (l : List Int) (x : Int) : wakeAll sp (l ++ [x]) = putB (wakeAll sp l) x false := by unfold wakeAll; rw [List.foldl_append]; rfl
theorem take_succM {α : Type} {l : List α} {i : Nat} {x : α} (h : l[i]? = some x) : l.take (i + 1) = l.take i ++ [x] := by rw [List.take_add_one, h]; rfl
def wokenB (M : St) (who a : Int) : Bool := mayB M who 7 a && hasB M who (latA M a)
def wakeV (M : St) (who a : Int) : Int := if wokenB M who a = true then ((latA M a).sl.length : Int) else 0
def wakeS (M : St) (who a : Int) : St := if wokenB M who a = true then { M.note ⟨who, 7, a, true⟩ with ls := M.ls.set a.toNat ⟨(latA M a).tk, (latA M a).wh, []⟩, sp := wakeAll M.sp (latA M a).sl } else if mayB M who 7 a = true then M.note ⟨who, 7, a, false⟩ else M
/-- The list of those who sleep is another, empty one; the elder list stays as it was. -/
theorem lat_step3 {τ : Nat → Nat} {w : World} {b : Nat} {M : St} {V : Vs} (hV : MemIs τ w b M V) {i g n cap : Nat} {L : La} {s : Sv} (hL : M.ls[i]? = some L) (hv : V.vl = .slice (some ⟨g, 0, none⟩) n cap) (hg : τ g = 4) (hx : V.lv[i]? = some ⟨L.tk, L.wh, s⟩) :
    MemAt τ (w.setCell ⟨g, i * 3 + 2, none⟩ (.slice none 0 0)) b { M with ls := M.ls.set i ⟨L.tk, L.wh, []⟩ } ∧ Step τ τ w (w.setCell ⟨g, i * 3 + 2, none⟩ (.slice none 0 0)) ∧ Row intK (w.setCell ⟨g, i * 3 + 2, none⟩ (.slice none 0 0)) τ (8 + i) 3 s.val L.sl := by
  have hil := (List.getElem?_eq_some_iff.1 hL).1
  have hrow := hV.ls
  rw [hv] at hrow
  have hrs := (hV.le i _ L hx hL).2.2
  have h1 := row_setc (c := 2) (u := .slice none 0 0) (y := ⟨L.tk, L.wh, ⟨none, 0, 0⟩⟩) hrow hx (by decide) rfl
  refine ⟨⟨_, hV.lat (x := ⟨L.tk, L.wh, ⟨none, 0, 0⟩⟩) hil ((keep_set hg (i * 3 + 2) (.slice none 0 0) (w := w)).mono fun t h => .inl h) (ext_refl _ _) (by rw [hv]; exact h1) ⟨rfl, rfl, Own.nil (S := intK) _ _ _, fun g h => by simp [Value.ownBlock, Sv.val] at h⟩ fun j hj => ?_⟩, step_set (by rw [hg]; decide) (i * 3 + 2) _, hrs.keep (keep_set hg (i * 3 + 2) (.slice none 0 0) (w := w)) (ext_refl _ _) (by omega) (by omega)⟩
  rw [size_setCell]
  exact hV.tz j hj
def Bnd3 (M : St) : Prop := Bnd2 M ∧ ∀ L ∈ M.ls, L.sl.length ≤ 1000000 ∧ (∀ x ∈ L.sl, I64 x) ∧ I64 L.wh
set_option maxRecDepth 1000000 in
set_option maxHeartbeats 8000000 in
theorem wake_any {w : World} {τ : Nat → Nat} {b : Nat} {M : St} (hM : MemAt τ w b M) (hB3 : Bnd3 M) (who a : Int) (hw : I64 who) (ha : I64 a) :
    Calls Try.prog 70 #[.pointer (some ⟨b, 0, none⟩), .int .i64 who, .int .i64 a] w
      fun e w' => e = .returned (.int .i64 (wakeV M who a)) ∧ MemP τ w b (wakeS M who a) w' := by
  have hB := hB3.1
  have HMAY := Lib.hid (may_any hM hB.1 who 7 a (by decide) ha hw)
  have HM := Lib.hid hM
  have HB := Lib.hid hB
  by_cases h : mayB M who 7 a = true
  · obtain ⟨h0, h1, _, _⟩ := mayB_yes h
    obtain ⟨i, L, rfl, hi, hx⟩ := cnt_lat 7 (by decide) h0 h1
    have hla := latA_of hx
    have hwk : wokenB M who (i : Int) = hasB M who L := by unfold wokenB; rw [h, hla]; rfl
    have HV : Hid (wakeV M who (i : Int) = if hasB M who L = true then (L.sl.length : Int) else 0) := Lib.hid (by unfold wakeV; rw [hwk, hla])
    have HS : Hid (wakeS M who (i : Int) = if hasB M who L = true then { M.note ⟨who, 7, (i : Int), true⟩ with ls := M.ls.set i ⟨L.tk, L.wh, []⟩, sp := wakeAll M.sp L.sl } else M.note ⟨who, 7, (i : Int), false⟩) := Lib.hid (by unfold wakeS; rw [hwk, hla, show ((i : Int)).toNat = i by omega, if_pos h])
    have HX := Lib.hid hx
    have hl0 : (0 : Int) ≤ (i : Int) := Int.natCast_nonneg _
    have hl1 : (i : Int) < (M.ls.length : Int) := by omega
    have hlen := HB.out.1.2.2.1
    have HHAS := Lib.hid (has_any HM.out HB.out.1 who hx)
    have hLS := hB3.2 L (List.mem_of_getElem? hx)
    have hsl := hLS.1
    have HWF := Lib.hid hLS.2.1
    rw [h] at HMAY
    clear h h0 h1 hx ha hw hla hwk hB3 hM hB hLS
    by_cases hh : hasB M who L = true
    · rw [hh] at HHAS HV HS
      rw [if_pos rfl] at HV HS
      clear hh
      go_enter Try.func70, Try.ntmps70
      go_wp2_with fail
      go_at_call 80
      refine HMAY.out.mono ?_
      rintro e w1 ⟨rfl, rfl⟩
      go_wp2_with fail
      go_at_call 96
      refine HHAS.out.mono ?_
      rintro e w1 ⟨rfl, rfl⟩
      go_wp2_with fail
      go_at_call 81
      refine (note_any HM.out HB.out.1 who 7 (i : Int) true).mono ?_
      rintro e w2 ⟨rfl, τ', hM', hS'⟩
      obtain ⟨V, hV⟩ := hM'
      obtain ⟨_, _, c2, _, _, _⟩ := five hV.st
      obtain ⟨g, cap, s, hv, hlv, _, hτ, _, _, d2, df, hrow⟩ := la_at hV (show (M.note ⟨who, 7, (i : Int), true⟩).ls[i]? = some L from HX.out)
      rw [hv] at c2
      have c2' : w2.cell? ⟨b, 2, none⟩ = some (.slice (some ⟨g, 0, none⟩) M.ls.length cap) := c2
      obtain ⟨so, sc, hsv⟩ := row_form hrow
      have d2' : w2.cell? ⟨g, i * 3 + 2, none⟩ = some (.slice so L.sl.length sc) := by rw [d2, hsv]
      have df2 := df (i * 3 + 2)
      obtain ⟨hM3, hS3, hR3⟩ := lat_step3 hV HX.out hv hτ hlv
      rw [hsv] at hR3
      have HM3 := Lib.hid hM3
      have HS3 := Lib.hid (hS'.trans hS3)
      have HR3 := Lib.hid hR3
      have hsl2 : (L.sl.length : Int) ≤ 1000000 := by omega
      clear hV hv hS' c2 d2 df hτ hlv hrow hM3 hS3 hR3 hsv
      go_wp2_with fail
      clear c2' d2' df2
      go_loopg [44] L.sl.length (fun k t wr => ∃ n : Nat, n + k = L.sl.length ∧ t = .int .i64 (n : Int) ∧ Hid (MemAt τ' wr b { M.note ⟨who, 7, (i : Int), true⟩ with ls := M.ls.set i ⟨L.tk, L.wh, []⟩, sp := wakeAll M.sp (L.sl.take n) }) ∧ Hid (Step τ τ' w wr) ∧ Hid (Row intK wr τ' (8 + i) 3 (.slice so L.sl.length sc) L.sl))
      case atStart => exact ⟨0, by omega, rfl, HM3, HS3, HR3⟩
      case round =>
        obtain ⟨n, hnk, rfl, hm, hs, hr⟩ := hrel
        have HNK := Lib.hid hnk
        have hn0 : (0 : Int) ≤ (n : Int) := Int.natCast_nonneg _
        clear hnk HM3 HS3 HR3
        by_cases hlt : n < L.sl.length
        · have hn1 : (n : Int) < (L.sl.length : Int) := by omega
          obtain ⟨x, hx⟩ : ∃ x, L.sl[n]? = some x := ⟨_, List.getElem?_eq_getElem hlt⟩
          have HXX := Lib.hid hx
          have hxi := HWF.out x (List.mem_of_getElem? hx)
          obtain ⟨gs, sc', hsv, _, hτs, q, _⟩ := row_at hr.out hx
          have c0 := at1 q
          rw [intK_k, Nat.mul_one] at c0
          obtain ⟨V, hV⟩ := hm.out
          obtain ⟨_, _, _, c3, _, _⟩ := five hV.st
          obtain ⟨D, hD1, hD2⟩ := hV.mp
          have HV3 := Lib.hid hV
          have HD2 := Lib.hid hD2
          have HKEY := Lib.hid (keyI_mk hxi)
          simp only [Value.slice.injEq] at hsv
          obtain ⟨rfl, _, rfl⟩ := hsv
          have HLT := Lib.hid hlt
          clear hx q hV hD2 hxi hlt
          go_wp2_with (at_delete; refine wpList_delete_own _ rfl _ _ MT 3 rfl 4 keyI Try.underlying125 _ V.mb M.nb D rfl hD1 (.int .i64 x) (.int .i64 x) rfl HKEY.out ?_)
          intro w4 hmap hturn
          have HM4 := Lib.hid (HV3.out.sleep (keep_turned hturn HV3.out.tm) (mapAs_del HD2.out x hmap))
          have HS4 := Lib.hid (hs.out.trans (step_turned hturn HV3.out.tm))
          have HR4 := Lib.hid (hr.out.keep (keep_turned hturn HV3.out.tm) (ext_refl _ _) (by omega) (by omega))
          clear hmap hturn hD1 c3 c0
          go_wp2_with fail
          go_roundg (gk - 1)
          case measure => have := HNK.out; have := HLT.out; omega
          case rel => exact ⟨n + 1, by have := HNK.out; have := HLT.out; omega, by go_num, Lib.hid (by rw [take_succM HXX.out, wakeAll_snoc]; exact ⟨_, HM4.out⟩), HS4, HR4⟩
        · obtain rfl : n = L.sl.length := by have := HNK.out; omega
          have hj2 : decide ((L.sl.length : Int) < (L.sl.length : Int)) = false := decide_eq_false (by omega)
          rw [List.take_length] at hm
          go_wp2_with fail
          go_ret
          exact ⟨pint HV.out.symm, by rw [HS.out]; exact ⟨τ', hm.out, hs.out⟩⟩
    · rw [show hasB M who L = false by simpa using hh] at HHAS HV HS
      rw [if_neg (by decide)] at HV HS
      clear hh
      go_enter Try.func70, Try.ntmps70
      go_wp2_with fail
      go_at_call 80
      refine HMAY.out.mono ?_
      rintro e w1 ⟨rfl, rfl⟩
      go_wp2_with fail
      go_at_call 96
      refine HHAS.out.mono ?_
      rintro e w1 ⟨rfl, rfl⟩
      go_wp2_with fail
      go_at_call 81
      refine (note_any HM.out HB.out.1 who 7 (i : Int) false).mono ?_
      rintro e w2 ⟨rfl, τ', hM', hS'⟩
      have HP := Lib.hid (show MemP τ w b (M.note ⟨who, 7, (i : Int), false⟩) w2 from ⟨τ', hM', hS'⟩)
      clear hM' hS'
      go_wp2_with fail
      go_ret
      exact ⟨pint HV.out.symm, by rw [HS.out]; exact HP.out⟩
  · have hwk : wokenB M who a = false := by unfold wokenB; rw [show mayB M who 7 a = false by simpa using h]; rfl
    have HV : Hid (wakeV M who a = 0) := Lib.hid (by unfold wakeV; rw [hwk]; rfl)
    have HS : Hid (wakeS M who a = M) := Lib.hid (by unfold wakeS; rw [hwk, if_neg (by decide), if_neg h])
    rw [show mayB M who 7 a = false by simpa using h] at HMAY
    clear h hwk hM hB hB3
    go_enter Try.func70, Try.ntmps70
    go_wp2_with fail
    go_at_call 80
    refine HMAY.out.mono ?_
    rintro e w1 ⟨rfl, rfl⟩
    go_wp2_with fail
    go_ret
    exact ⟨pint HV.out.symm, by rw [HS.out]; exact ⟨τ, HM.out, Step.refl _ _⟩⟩
end Go.Proofs.Ytneegocbknkhjaa.Mm
