/-
  THE DOCUMENT's OWN Parse: at every string it answers what package stamp's Parse does.
  THE WALKS OF THE LAWS StampPlus AND StampReaches: each answers true, at all numbers of 64 bits; nothing in memory is turned.
  THE WALK OF THE LAW StampTexts: it answers true at every number of 64 bits and every string.
-/
import Derived.Test.YtdbaacalfbbdiaaGreatDoorJoined1
import Derived.Deep.DeepCutAuto
import Derived.Test.YtdbaacalfbbdiaaGreatDoorStamp
namespace Go.Proofs.YtdbaacalfbbdiaaGreatDoor.Stamp
open Go.RowKit Go.Sort Go.Lib
set_option linter.unusedVariables false

theorem parseE_none_of {s : ByteArray} (hA : ¬ s = neverS) (h : ∀ u, Lib.parseUintB 64 s.data.toList = .ok u → textS u ≠ s) : parseE s = none := by
  unfold parseE
  rw [if_neg hA]
  split
  · rename_i u hu; rw [if_neg (h u hu)]
  · rfl
theorem textS_size {n : Int} (h : U n) : (textS n).size ≤ 20 := by
  unfold textS
  split
  · decide
  · exact numS_size h
theorem parseE_long {s : ByteArray} (hA : ¬ s = neverS) (h : 20 < s.size) : parseE s = none :=
  parseE_none_of hA fun u hu e => by
    have := textS_size (n := u) (by have := parseUintB_le hu; unfold U; omega)
    rw [e] at this
    omega
theorem parseE_empty {s : ByteArray} (h : s.size < 1) : parseE s = none := by
  have e : s = ⟨#[]⟩ := by apply ByteArray.ext; exact Array.eq_empty_of_size_eq_zero (show s.data.size = 0 by have : s.size = s.data.size := rfl; omega)
  subst e
  exact parseE_none_of (by decide) (fun u hu => by simp [Lib.parseUintB] at hu)
theorem drop_at (s : ByteArray) (k : Nat) (h : k < s.size) : s.data.toList.drop k = s[k] :: s.data.toList.drop (k + 1) := by
  have h' : k < s.data.toList.length := by simpa using h
  rw [List.drop_eq_getElem_cons h']
  rfl
/-- What stands behind k letters, with what they spell. -/
def Inv (s : ByteArray) (k n : Nat) : Prop := Lib.parseUintM 18446744073709551615 0 s.data.toList = Lib.parseUintM 18446744073709551615 n (s.data.toList.drop k)
theorem inv_step {s : ByteArray} {k n : Nat} (h : Inv s k n) (hk : k < s.size) (h1 : 48 ≤ s[k].toNat) (h2 : s[k].toNat ≤ 57) (h3 : 10 * n + (s[k].toNat - 48) ≤ 18446744073709551615) : Inv s (k + 1) (10 * n + (s[k].toNat - 48)) := by
  unfold Inv at *
  rw [drop_at s k hk] at h
  rw [h]
  conv => lhs; unfold Lib.parseUintM
  rw [if_pos ⟨h1, h2⟩, if_neg (by omega), if_neg (by omega), Nat.mul_comm n 10]
theorem inv_bad {s : ByteArray} {k n : Nat} (hA : ¬ s = neverS) (h : Inv s k n) (hk : k < s.size) (h1 : s[k].toNat < 48 ∨ 57 < s[k].toNat) : parseE s = none := by
  refine parseE_none_of hA fun u hu => ?_
  unfold Lib.parseUintB at hu
  split at hu
  · cases hu
  · unfold Inv at h
    rw [show (2 : Nat) ^ 64 - 1 = 18446744073709551615 by decide, h, drop_at s k hk] at hu
    unfold Lib.parseUintM at hu
    rw [if_neg (by omega)] at hu
    cases hu
theorem inv_over {s : ByteArray} {k n : Nat} (hA : ¬ s = neverS) (h : Inv s k n) (hk : k < s.size) (h1 : 48 ≤ s[k].toNat) (h2 : s[k].toNat ≤ 57) (h3 : 18446744073709551615 < 10 * n + (s[k].toNat - 48)) : parseE s = none := by
  refine parseE_none_of hA fun u hu => ?_
  unfold Lib.parseUintB at hu
  split at hu
  · cases hu
  · unfold Inv at h
    rw [show (2 : Nat) ^ 64 - 1 = 18446744073709551615 by decide, h, drop_at s k hk] at hu
    unfold Lib.parseUintM at hu
    rw [if_pos ⟨h1, h2⟩] at hu
    split at hu
    · cases hu
    · rw [if_pos (by omega)] at hu
      cases hu
theorem inv_end {s : ByteArray} {k n : Nat} (hA : ¬ s = neverS) (h1 : 1 ≤ s.size) (h : Inv s k n) (hk : k = s.size) : parseE s = if textS n = s then some n else none := by
  unfold parseE
  rw [if_neg hA]
  have e : Lib.parseUintB 64 s.data.toList = .ok n := by
    unfold Lib.parseUintB
    rw [if_neg (fun e => by have e3 : s.size = s.data.toList.length := rfl; rw [e, List.length_nil] at e3; omega)]
    unfold Inv at h
    rw [show (2 : Nat) ^ 64 - 1 = 18446744073709551615 by decide, h, List.drop_of_length_le (by subst hk; simp)]
    rfl
  rw [e]
def ok (s : ByteArray) : Bool := (parseE s).isSome
theorem none_pv {s : ByteArray} (h : parseE s = none) : pv s = 0 ∧ ok s = false := by unfold pv ok; rw [h]; exact ⟨rfl, rfl⟩

set_option maxHeartbeats 2000000 in
set_option maxRecDepth 100000 in
theorem refParse_any (s : ByteArray) (hs : s.size ≤ 281474976710656) (w : World) :
    Calls Tryz.prog 60 #[.string s] w fun e w' => e = .returned (.tuple #[.int .u64 (pv s), .bool (ok s)]) ∧ ∃ m, w' = w.drewN m := by
  by_cases hA : s = neverS
  · subst hA
    have e1 : pv neverS = 18446744073709551615 := by unfold pv parseE; rw [if_pos rfl]; rfl
    have e2 : ok neverS = true := by unfold ok parseE; rw [if_pos rfl]; rfl
    have eA : (neverS.toList == [110, 101, 118, 101, 114]) = true := by rw [never_eq]; exact decide_eq_true rfl
    rw [e1, e2]
    clear e1 e2
    go_enter Tryz.func60, Tryz.ntmps60
    go_wp2_with fail
    go_ret2
    exact ⟨rfl, 0, rfl⟩
  · have eA : (s.toList == [110, 101, 118, 101, 114]) = false := by rw [never_eq]; exact decide_eq_false hA
    by_cases h1 : s.size < 1
    · obtain ⟨e1, e2⟩ := none_pv (parseE_empty h1)
      have E1 := Lib.hid e1
      have E2 := Lib.hid e2
      clear e1 e2 hA
      go_enter Tryz.func60, Tryz.ntmps60
      go_wp2_with fail
      go_ret2
      exact ⟨by rw [E1.out, E2.out]; rfl, 0, rfl⟩
    · by_cases h2 : 20 < s.size
      · obtain ⟨e1, e2⟩ := none_pv (parseE_long hA h2)
        have E1 := Lib.hid e1
        have E2 := Lib.hid e2
        clear e1 e2 hA
        go_enter Tryz.func60, Tryz.ntmps60
        go_wp2_with fail
        go_ret2
        exact ⟨by rw [E1.out, E2.out]; rfl, 0, rfl⟩
      · have HA := Lib.hid hA
        clear hA
        go_enter Tryz.func60, Tryz.ntmps60
        go_wp2_with fail
        go_loop [4, 5] (fun a i => ∃ k n : Nat, k ≤ s.size ∧ n ≤ 18446744073709551615 ∧ a = .int .u64 n ∧ i = .int .i64 k ∧ Inv s k n) (fun _ i => s.size - (RowKit.intOf i).toNat)
        case atStart => exact ⟨0, 0, Nat.zero_le _, Nat.zero_le _, rfl, rfl, rfl⟩
        case round =>
          obtain ⟨k, n, hk, hn, rfl, rfl, hinv⟩ := hrel
          have HI := Lib.hid hinv
          clear hinv
          by_cases hlt : k < s.size
          · by_cases d1 : s[k].toNat < 48
            · obtain ⟨e1, e2⟩ := none_pv (inv_bad HA.out HI.out hlt (.inl d1))
              have E1 := Lib.hid e1
              have E2 := Lib.hid e2
              clear e1 e2
              go_wp2_with fail
              go_ret2
              exact ⟨by rw [E1.out, E2.out]; rfl, 0, rfl⟩
            · by_cases d2 : 57 < s[k].toNat
              · obtain ⟨e1, e2⟩ := none_pv (inv_bad HA.out HI.out hlt (.inr d2))
                have E1 := Lib.hid e1
                have E2 := Lib.hid e2
                clear e1 e2
                go_wp2_with fail
                go_ret2
                exact ⟨by rw [E1.out, E2.out]; rfl, 0, rfl⟩
              · by_cases d3 : 18446744073709551615 < 10 * n + (s[k].toNat - 48)
                · obtain ⟨e1, e2⟩ := none_pv (inv_over HA.out HI.out hlt (by omega) (by omega) d3)
                  have E1 := Lib.hid e1
                  have E2 := Lib.hid e2
                  clear e1 e2
                  go_wp2_with fail
                  go_ret2
                  exact ⟨by rw [E1.out, E2.out]; rfl, 0, rfl⟩
                · have hst := Lib.hid (inv_step HI.out hlt (by omega) (by omega) (by omega))
                  go_wp2_with fail
                  go_round
                  case rel => exact ⟨k + 1, _, by omega, by omega, congrArg (Value.int .u64) (by omega), by go_num, hst.out⟩
                  case measure => simp [RowKit.intOf]; omega
          · have hend := inv_end HA.out (by omega) HI.out (by omega)
            have hnu : U n := by unfold U; omega
            by_cases hm : n = 18446744073709551615
            · have eM : ((n : Int) == 18446744073709551615) = true := by rw [beq_iff_eq]; omega
              have hts : textS n = neverS := by unfold textS; rw [if_pos (by omega)]
              rw [hts, if_neg (fun e => HA.out e.symm)] at hend
              obtain ⟨e1, e2⟩ := none_pv hend
              have E1 := Lib.hid e1
              have E2 := Lib.hid e2
              clear e1 e2 hend hts hm
              go_wp2_with fail
              go_ret2
              exact ⟨by rw [E1.out, E2.out]; rfl, 0, rfl⟩
            · have eM : ((n : Int) == 18446744073709551615) = false := by rw [beq_eq_false_iff_ne]; omega
              have hts : textS n = numS n := by unfold textS; rw [if_neg (by omega)]
              rw [hts] at hend
              have hC := Lib.hid (refNum_any n n w (by omega) hnu)
              by_cases hT : numS n = s
              · have eT : ((numS n).toList == s.toList) = true := by rw [hT]; simp
                rw [if_pos hT] at hend
                have E1 := Lib.hid (show pv s = n from by unfold pv; rw [hend]; rfl)
                have E2 := Lib.hid (show ok s = true from by unfold ok; rw [hend]; rfl)
                clear hend hts hm hT
                go_wp2_with fail
                go_at_call 65
                refine hC.out.mono ?_
                rintro e w1 ⟨rfl, m, rfl⟩
                go_wp2_with fail
                go_ret2
                exact ⟨by rw [E1.out, E2.out]; rfl, m, rfl⟩
              · have eT : ((numS n).toList == s.toList) = false := by rw [beq_eq_false_iff_ne]; exact fun h => hT (by apply ByteArray.ext; apply Array.ext'; rwa [Lib.toList_data, Lib.toList_data] at h)
                rw [if_neg hT] at hend
                obtain ⟨e1, e2⟩ := none_pv hend
                have E1 := Lib.hid e1
                have E2 := Lib.hid e2
                clear e1 e2 hend hts hm hT
                go_wp2_with fail
                go_at_call 65
                refine hC.out.mono ?_
                rintro e w1 ⟨rfl, m, rfl⟩
                go_wp2_with fail
                go_ret2
                exact ⟨by rw [E1.out, E2.out]; rfl, m, rfl⟩
end Go.Proofs.YtdbaacalfbbdiaaGreatDoor.Stamp
namespace Go.Proofs.YtdbaacalfbbdiaaGreatDoor.Stamp
open Go.RowKit
set_option linter.unusedVariables false

theorem U_of_wf {a : Int} (h : (Lit.int .u64 a).wf = true) : U a := by
  unfold U
  have e1 : IntKind.u64.min = 0 := by decide
  have e2 : IntKind.u64.max = 18446744073709551615 := by decide
  simp only [Lit.wf, e1, e2, Bool.and_eq_true, decide_eq_true_eq] at h
  exact h
theorem plusF_comm (a b : Int) : plusF b a = plusF a b := by unfold plusF; split <;> split <;> omega
theorem plusF_assoc {a b c : Int} (ha : U a) (hb : U b) (hc : U c) : plusF (plusF a b) c = plusF a (plusF b c) := by
  unfold plusF U at *; repeat' split
  all_goals omega
theorem plusF_left {a b : Int} (ha : U a) (hb : U b) : a ≤ plusF a b ∧ b ≤ plusF a b := by unfold plusF U at *; split <;> omega
theorem plusF_mono {a b c : Int} (ha : U a) (hb : U b) (hc : U c) (h : a ≤ c) : plusF a b ≤ plusF c b := by
  unfold plusF U at *; repeat' split
  all_goals omega

end Go.Proofs.YtdbaacalfbbdiaaGreatDoor.Stamp
namespace Go.Proofs.YtdbaacalfbbdiaaGreatDoor.Stamp
open Go.RowKit Go.Sort Go.Lib
set_option linter.unusedVariables false

theorem M_digits (u : Nat) : ∀ (acc : Nat) (r : List UInt8), acc * 10 ^ Lib.nDigits u + u ≤ 18446744073709551615 →
    Lib.parseUintM 18446744073709551615 acc (Lib.decDigits u ++ r) = Lib.parseUintM 18446744073709551615 (acc * 10 ^ Lib.nDigits u + u) r := by
  induction u using Nat.strongRecOn with
  | ind u ih =>
    intro acc r h
    have hst : ∀ (a d : Nat), d < 10 → a * 10 + d ≤ 18446744073709551615 → Lib.parseUintM 18446744073709551615 a (UInt8.ofNat (48 + d) :: r) = Lib.parseUintM 18446744073709551615 (a * 10 + d) r := by
      intro a d hd hle
      have e : (UInt8.ofNat (48 + d)).toNat = 48 + d := by rw [UInt8.toNat_ofNat']; omega
      conv => lhs; unfold Lib.parseUintM
      rw [e, if_pos (by omega), if_neg (by omega), if_neg (by omega), show 48 + d - 48 = d by omega]
    by_cases hu : u < 10
    · rw [Lib.nDigits_small hu, Nat.pow_one] at h ⊢
      rw [Lib.decDigits, dif_pos hu]
      exact hst acc u hu h
    · have e10 : acc * 10 ^ Lib.nDigits u = (acc * 10 ^ Lib.nDigits (u / 10)) * 10 := by rw [Lib.nDigits_big hu, Nat.pow_succ, Nat.mul_assoc]
      rw [e10] at h ⊢
      rw [Lib.decDigits, dif_neg hu, List.append_assoc, ih (u / 10) (by omega) acc _ (by omega), List.singleton_append, hst _ _ (by omega) (by omega)]
      congr 1
      omega
theorem parseE_text {t : Int} (ht : U t) : parseE (textS t) = some t.toNat := by
  unfold U at ht
  by_cases h : t = 18446744073709551615
  · subst h; unfold textS parseE; rw [if_pos rfl, if_pos rfl]; rfl
  · have e : textS t = numS t := if_neg h
    have hd : Lib.parseUintB 64 (numS t).data.toList = .ok t.toNat := by
      have := M_digits t.toNat 0 [] (by omega)
      rw [List.append_nil, Nat.zero_mul, Nat.zero_add] at this
      unfold Lib.parseUintB
      show (if (Lib.decDigits t.toNat).toArray.toList = [] then _ else Lib.parseUintM _ 0 (Lib.decDigits t.toNat).toArray.toList) = _
      rw [show (2 : Nat) ^ 64 - 1 = 18446744073709551615 by decide, List.toList_toArray, this, if_neg]
      · rfl
      · intro e; have := congrArg List.length e; rw [Lib.decDigits_length, List.length_nil] at this
        by_cases h10 : t.toNat < 10
        · rw [Lib.nDigits_small h10] at this; omega
        · rw [Lib.nDigits_big h10] at this; omega
    have hne : numS t ≠ neverS := by
      intro en
      rw [en] at hd
      have : (match Lib.parseUintB 64 neverS.data.toList with | .ok _ => true | _ => false) = false := by decide
      rw [hd] at this
      cases this
    unfold parseE
    rw [e, if_neg hne, hd]
    show (if textS (t.toNat : Int) = numS t then _ else _) = _
    rw [show ((t.toNat : Nat) : Int) = t by omega, e, if_pos rfl]
theorem parseE_some {s : ByteArray} {u : Nat} (h : parseE s = some u) : U u ∧ textS u = s := by
  unfold parseE at h
  split at h
  · rename_i e
    cases h
    exact ⟨by unfold U; omega, by rw [e]; rfl⟩
  · split at h
    · rename_i v hv
      split at h
      · rename_i ht
        cases h
        exact ⟨by have := parseUintB_le hv; unfold U; omega, ht⟩
      · cases h
    · cases h
theorem text_small {t : Int} (ht : U t) : (textS t).size ≤ 281474976710656 := by have := textS_size ht; omega
theorem below_d {w : World} (m : Nat) : Below w.heap.size w (w.drewN m) := below_drewN (Below.refl _ _) m

end Go.Proofs.YtdbaacalfbbdiaaGreatDoor.Stamp
