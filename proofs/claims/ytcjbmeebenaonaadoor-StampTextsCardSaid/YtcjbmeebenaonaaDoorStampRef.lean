/-
  THE DOCUMENT's OWN Parse: at every string it answers what package stamp's Parse does.
-/
import Derived.Test.YtcjbmeebenaonaaDoorStampParse
import Derived.Deep.DeepCutAuto
namespace Go.Proofs.YtcjbmeebenaonaaDoor.Stamp
open Go.RowKit Go.Sort Go.Lib
set_option linter.unusedVariables false

theorem parseE_none_of {s : ByteArray} (hA : ¬ s = neverS) (h : ∀ u, Lib.parseUintB 64 s.data.toList = .ok u → textS u ≠ s) : parseE s = none := by
  unfold parseE
  rw [if_neg hA]
  split
  · rename_i u hu; rw [if_neg (h u hu)]
  · rfl
theorem textS_size {n : Int} (h : U n) : (textS n).size ≤ 20 := by
  unfold textS
  split
  · decide
  · exact numS_size h
theorem parseE_long {s : ByteArray} (hA : ¬ s = neverS) (h : 20 < s.size) : parseE s = none :=
  parseE_none_of hA fun u hu e => by
    have := textS_size (n := u) (by have := parseUintB_le hu; unfold U; omega)
    rw [e] at this
    omega
theorem parseE_empty {s : ByteArray} (h : s.size < 1) : parseE s = none := by
  have e : s = ⟨#[]⟩ := by apply ByteArray.ext; exact Array.eq_empty_of_size_eq_zero (show s.data.size = 0 by have : s.size = s.data.size := rfl; omega)
  subst e
  exact parseE_none_of (by decide) (fun u hu => by simp [Lib.parseUintB] at hu)
theorem drop_at (s : ByteArray) (k : Nat) (h : k < s.size) : s.data.toList.drop k = s[k] :: s.data.toList.drop (k + 1) := by
  have h' : k < s.data.toList.length := by simpa using h
  rw [List.drop_eq_getElem_cons h']
  rfl
/-- What stands behind k letters, with what they spell. -/
def Inv (s : ByteArray) (k n : Nat) : Prop := Lib.parseUintM 18446744073709551615 0 s.data.toList = Lib.parseUintM 18446744073709551615 n (s.data.toList.drop k)
theorem inv_step {s : ByteArray} {k n : Nat} (h : Inv s k n) (hk : k < s.size) (h1 : 48 ≤ s[k].toNat) (h2 : s[k].toNat ≤ 57) (h3 : 10 * n + (s[k].toNat - 48) ≤ 18446744073709551615) : Inv s (k + 1) (10 * n + (s[k].toNat - 48)) := by
  unfold Inv at *
  rw [drop_at s k hk] at h
  rw [h]
  conv => lhs; unfold Lib.parseUintM
  rw [if_pos ⟨h1, h2⟩, if_neg (by omega), if_neg (by omega), Nat.mul_comm n 10]
theorem inv_bad {s : ByteArray} {k n : Nat} (hA : ¬ s = neverS) (h : Inv s k n) (hk : k < s.size) (h1 : s[k].toNat < 48 ∨ 57 < s[k].toNat) : parseE s = none := by
  refine parseE_none_of hA fun u hu => ?_
  unfold Lib.parseUintB at hu
  split at hu
  · cases hu
  · unfold Inv at h
    rw [show (2 : Nat) ^ 64 - 1 = 18446744073709551615 by decide, h, drop_at s k hk] at hu
    unfold Lib.parseUintM at hu
    rw [if_neg (by omega)] at hu
    cases hu
theorem inv_over {s : ByteArray} {k n : Nat} (hA : ¬ s = neverS) (h : Inv s k n) (hk : k < s.size) (h1 : 48 ≤ s[k].toNat) (h2 : s[k].toNat ≤ 57) (h3 : 18446744073709551615 < 10 * n + (s[k].toNat - 48)) : parseE s = none := by
  refine parseE_none_of hA fun u hu => ?_
  unfold Lib.parseUintB at hu
  split at hu
  · cases hu
  · unfold Inv at h
    rw [show (2 : Nat) ^ 64 - 1 = 18446744073709551615 by decide, h, drop_at s k hk] at hu
    unfold Lib.parseUintM at hu
    rw [if_pos ⟨h1, h2⟩] at hu
    split at hu
    · cases hu
    · rw [if_pos (by omega)] at hu
      cases hu
theorem inv_end {s : ByteArray} {k n : Nat} (hA : ¬ s = neverS) (h1 : 1 ≤ s.size) (h : Inv s k n) (hk : k = s.size) : parseE s = if textS n = s then some n else none := by
  unfold parseE
  rw [if_neg hA]
  have e : Lib.parseUintB 64 s.data.toList = .ok n := by
    unfold Lib.parseUintB
    rw [if_neg (fun e => by have e3 : s.size = s.data.toList.length := rfl; rw [e, List.length_nil] at e3; omega)]
    unfold Inv at h
    rw [show (2 : Nat) ^ 64 - 1 = 18446744073709551615 by decide, h, List.drop_of_length_le (by subst hk; simp)]
    rfl
  rw [e]
def ok (s : ByteArray) : Bool := (parseE s).isSome
theorem none_pv {s : ByteArray} (h : parseE s = none) : pv s = 0 ∧ ok s = false := by unfold pv ok; rw [h]; exact ⟨rfl, rfl⟩

set_option maxHeartbeats 2000000 in
set_option maxRecDepth 100000 in
theorem refParse_any (s : ByteArray) (hs : s.size ≤ 281474976710656) (w : World) :
    Calls Tryd.prog 14 #[.string s] w fun e w' => e = .returned (.tuple #[.int .u64 (pv s), .bool (ok s)]) ∧ ∃ m, w' = w.drewN m := by
  by_cases hA : s = neverS
  · subst hA
    have e1 : pv neverS = 18446744073709551615 := by unfold pv parseE; rw [if_pos rfl]; rfl
    have e2 : ok neverS = true := by unfold ok parseE; rw [if_pos rfl]; rfl
    have eA : (neverS.toList == [110, 101, 118, 101, 114]) = true := by rw [never_eq]; exact decide_eq_true rfl
    rw [e1, e2]
    clear e1 e2
    go_enter Tryd.func14, Tryd.ntmps14
    go_wp2_with fail
    go_ret2
    exact ⟨rfl, 0, rfl⟩
  · have eA : (s.toList == [110, 101, 118, 101, 114]) = false := by rw [never_eq]; exact decide_eq_false hA
    by_cases h1 : s.size < 1
    · obtain ⟨e1, e2⟩ := none_pv (parseE_empty h1)
      have E1 := Lib.hid e1
      have E2 := Lib.hid e2
      clear e1 e2 hA
      go_enter Tryd.func14, Tryd.ntmps14
      go_wp2_with fail
      go_ret2
      exact ⟨by rw [E1.out, E2.out]; rfl, 0, rfl⟩
    · by_cases h2 : 20 < s.size
      · obtain ⟨e1, e2⟩ := none_pv (parseE_long hA h2)
        have E1 := Lib.hid e1
        have E2 := Lib.hid e2
        clear e1 e2 hA
        go_enter Tryd.func14, Tryd.ntmps14
        go_wp2_with fail
        go_ret2
        exact ⟨by rw [E1.out, E2.out]; rfl, 0, rfl⟩
      · have HA := Lib.hid hA
        clear hA
        go_enter Tryd.func14, Tryd.ntmps14
        go_wp2_with fail
        go_loop [4, 5] (fun a i => ∃ k n : Nat, k ≤ s.size ∧ n ≤ 18446744073709551615 ∧ a = .int .u64 n ∧ i = .int .i64 k ∧ Inv s k n) (fun _ i => s.size - (RowKit.intOf i).toNat)
        case atStart => exact ⟨0, 0, Nat.zero_le _, Nat.zero_le _, rfl, rfl, rfl⟩
        case round =>
          obtain ⟨k, n, hk, hn, rfl, rfl, hinv⟩ := hrel
          have HI := Lib.hid hinv
          clear hinv
          by_cases hlt : k < s.size
          · by_cases d1 : s[k].toNat < 48
            · obtain ⟨e1, e2⟩ := none_pv (inv_bad HA.out HI.out hlt (.inl d1))
              have E1 := Lib.hid e1
              have E2 := Lib.hid e2
              clear e1 e2
              go_wp2_with fail
              go_ret2
              exact ⟨by rw [E1.out, E2.out]; rfl, 0, rfl⟩
            · by_cases d2 : 57 < s[k].toNat
              · obtain ⟨e1, e2⟩ := none_pv (inv_bad HA.out HI.out hlt (.inr d2))
                have E1 := Lib.hid e1
                have E2 := Lib.hid e2
                clear e1 e2
                go_wp2_with fail
                go_ret2
                exact ⟨by rw [E1.out, E2.out]; rfl, 0, rfl⟩
              · by_cases d3 : 18446744073709551615 < 10 * n + (s[k].toNat - 48)
                · obtain ⟨e1, e2⟩ := none_pv (inv_over HA.out HI.out hlt (by omega) (by omega) d3)
                  have E1 := Lib.hid e1
                  have E2 := Lib.hid e2
                  clear e1 e2
                  go_wp2_with fail
                  go_ret2
                  exact ⟨by rw [E1.out, E2.out]; rfl, 0, rfl⟩
                · have hst := Lib.hid (inv_step HI.out hlt (by omega) (by omega) (by omega))
                  go_wp2_with fail
                  go_round
                  case rel => exact ⟨k + 1, _, by omega, by omega, congrArg (Value.int .u64) (by omega), by go_num, hst.out⟩
                  case measure => simp [RowKit.intOf]; omega
          · have hend := inv_end HA.out (by omega) HI.out (by omega)
            have hnu : U n := by unfold U; omega
            by_cases hm : n = 18446744073709551615
            · have eM : ((n : Int) == 18446744073709551615) = true := by rw [beq_iff_eq]; omega
              have hts : textS n = neverS := by unfold textS; rw [if_pos (by omega)]
              rw [hts, if_neg (fun e => HA.out e.symm)] at hend
              obtain ⟨e1, e2⟩ := none_pv hend
              have E1 := Lib.hid e1
              have E2 := Lib.hid e2
              clear e1 e2 hend hts hm
              go_wp2_with fail
              go_ret2
              exact ⟨by rw [E1.out, E2.out]; rfl, 0, rfl⟩
            · have eM : ((n : Int) == 18446744073709551615) = false := by rw [beq_eq_false_iff_ne]; omega
              have hts : textS n = numS n := by unfold textS; rw [if_neg (by omega)]
              rw [hts] at hend
              have hC := Lib.hid (refNum_any n n w (by omega) hnu)
              by_cases hT : numS n = s
              · have eT : ((numS n).toList == s.toList) = true := by rw [hT]; simp
                rw [if_pos hT] at hend
                have E1 := Lib.hid (show pv s = n from by unfold pv; rw [hend]; rfl)
                have E2 := Lib.hid (show ok s = true from by unfold ok; rw [hend]; rfl)
                clear hend hts hm hT
                go_wp2_with fail
                go_at_call 30
                refine hC.out.mono ?_
                rintro e w1 ⟨rfl, m, rfl⟩
                go_wp2_with fail
                go_ret2
                exact ⟨by rw [E1.out, E2.out]; rfl, m, rfl⟩
              · have eT : ((numS n).toList == s.toList) = false := by rw [beq_eq_false_iff_ne]; exact fun h => hT (by apply ByteArray.ext; apply Array.ext'; rwa [Lib.toList_data, Lib.toList_data] at h)
                rw [if_neg hT] at hend
                obtain ⟨e1, e2⟩ := none_pv hend
                have E1 := Lib.hid e1
                have E2 := Lib.hid e2
                clear e1 e2 hend hts hm hT
                go_wp2_with fail
                go_at_call 30
                refine hC.out.mono ?_
                rintro e w1 ⟨rfl, m, rfl⟩
                go_wp2_with fail
                go_ret2
                exact ⟨by rw [E1.out, E2.out]; rfl, m, rfl⟩
end Go.Proofs.YtcjbmeebenaonaaDoor.Stamp
