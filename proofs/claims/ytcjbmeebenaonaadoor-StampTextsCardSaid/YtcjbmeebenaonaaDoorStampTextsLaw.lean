/-
  THE WALK OF THE LAW StampTexts: it answers true at every number of 64 bits and every string.
-/
import Derived.Test.YtcjbmeebenaonaaDoorStampRef
import Derived.Test.YtcjbmeebenaonaaDoorStampLaws
namespace Go.Proofs.YtcjbmeebenaonaaDoor.Stamp
open Go.RowKit Go.Sort Go.Lib
set_option linter.unusedVariables false

theorem M_digits (u : Nat) : ∀ (acc : Nat) (r : List UInt8), acc * 10 ^ Lib.nDigits u + u ≤ 18446744073709551615 →
    Lib.parseUintM 18446744073709551615 acc (Lib.decDigits u ++ r) = Lib.parseUintM 18446744073709551615 (acc * 10 ^ Lib.nDigits u + u) r := by
  induction u using Nat.strongRecOn with
  | ind u ih =>
    intro acc r h
    have hst : ∀ (a d : Nat), d < 10 → a * 10 + d ≤ 18446744073709551615 → Lib.parseUintM 18446744073709551615 a (UInt8.ofNat (48 + d) :: r) = Lib.parseUintM 18446744073709551615 (a * 10 + d) r := by
      intro a d hd hle
      have e : (UInt8.ofNat (48 + d)).toNat = 48 + d := by rw [UInt8.toNat_ofNat']; omega
      conv => lhs; unfold Lib.parseUintM
      rw [e, if_pos (by omega), if_neg (by omega), if_neg (by omega), show 48 + d - 48 = d by omega]
    by_cases hu : u < 10
    · rw [Lib.nDigits_small hu, Nat.pow_one] at h ⊢
      rw [Lib.decDigits, dif_pos hu]
      exact hst acc u hu h
    · have e10 : acc * 10 ^ Lib.nDigits u = (acc * 10 ^ Lib.nDigits (u / 10)) * 10 := by rw [Lib.nDigits_big hu, Nat.pow_succ, Nat.mul_assoc]
      rw [e10] at h ⊢
      rw [Lib.decDigits, dif_neg hu, List.append_assoc, ih (u / 10) (by omega) acc _ (by omega), List.singleton_append, hst _ _ (by omega) (by omega)]
      congr 1
      omega
theorem parseE_text {t : Int} (ht : U t) : parseE (textS t) = some t.toNat := by
  unfold U at ht
  by_cases h : t = 18446744073709551615
  · subst h; unfold textS parseE; rw [if_pos rfl, if_pos rfl]; rfl
  · have e : textS t = numS t := if_neg h
    have hd : Lib.parseUintB 64 (numS t).data.toList = .ok t.toNat := by
      have := M_digits t.toNat 0 [] (by omega)
      rw [List.append_nil, Nat.zero_mul, Nat.zero_add] at this
      unfold Lib.parseUintB
      show (if (Lib.decDigits t.toNat).toArray.toList = [] then _ else Lib.parseUintM _ 0 (Lib.decDigits t.toNat).toArray.toList) = _
      rw [show (2 : Nat) ^ 64 - 1 = 18446744073709551615 by decide, List.toList_toArray, this, if_neg]
      · rfl
      · intro e; have := congrArg List.length e; rw [Lib.decDigits_length, List.length_nil] at this
        by_cases h10 : t.toNat < 10
        · rw [Lib.nDigits_small h10] at this; omega
        · rw [Lib.nDigits_big h10] at this; omega
    have hne : numS t ≠ neverS := by
      intro en
      rw [en] at hd
      have : (match Lib.parseUintB 64 neverS.data.toList with | .ok _ => true | _ => false) = false := by decide
      rw [hd] at this
      cases this
    unfold parseE
    rw [e, if_neg hne, hd]
    show (if textS (t.toNat : Int) = numS t then _ else _) = _
    rw [show ((t.toNat : Nat) : Int) = t by omega, e, if_pos rfl]
theorem parseE_some {s : ByteArray} {u : Nat} (h : parseE s = some u) : U u ∧ textS u = s := by
  unfold parseE at h
  split at h
  · rename_i e
    cases h
    exact ⟨by unfold U; omega, by rw [e]; rfl⟩
  · split at h
    · rename_i v hv
      split at h
      · rename_i ht
        cases h
        exact ⟨by have := parseUintB_le hv; unfold U; omega, ht⟩
      · cases h
    · cases h
theorem text_small {t : Int} (ht : U t) : (textS t).size ≤ 281474976710656 := by have := textS_size ht; omega
theorem below_d {w : World} (m : Nat) : Below w.heap.size w (w.drewN m) := below_drewN (Below.refl _ _) m

set_option maxHeartbeats 2000000 in
set_option maxRecDepth 100000 in
theorem stampTexts_any (t : Int) (s : ByteArray) (ht : U t) (hs0 : s.size ≤ 9223372036854775807) (w : World) (hL : LaidVars w) :
    Calls Tryd.prog 4 #[.int .u64 t, .string s] w fun e w' => e = .returned (.bool true) ∧ Below w.heap.size w w' := by
  by_cases hlong : 100 < s.size
  · clear hL
    go_enter Tryd.func4, Tryd.ntmps4
    go_wp2_with (go_at_call 9; refine (told_true _).mono ?_; rintro e w' ⟨rfl, rfl⟩)
    go_ret
    exact ⟨rfl, Below.refl _ _⟩
  · have hs : s.size ≤ 281474976710656 := by omega
    clear hs0
    have hz : ∀ W, LaidVars W → Calls Tryd.prog 13 #[.string (textS t)] W fun e w' => e = .returned (.tuple #[.int .u64 t, .int .i64 0]) ∧ Below W.heap.size W w' := by
      intro W hW
      have h := parse_any (textS t) (text_small ht) W hW
      have e1 : pv (textS t) = t := by unfold pv; rw [parseE_text ht]; unfold U at ht; show ((t.toNat : Nat) : Int) = t; omega
      have e2 : pe (textS t) = 0 := by unfold pe; rw [parseE_text ht]; rfl
      rw [e1, e2] at h
      exact h
    have HZ := Lib.hid hz
    have HL := Lib.hid hL
    cases hP : parseE s with
    | none =>
      have hp : ∀ W, LaidVars W → Calls Tryd.prog 13 #[.string s] W fun e w' => e = .returned (.tuple #[.int .u64 0, .int .i64 13]) ∧ Below W.heap.size W w' := by
        intro W hW
        have h := parse_any s hs W hW
        rw [(none_pv hP).1, show pe s = 13 by unfold pe; rw [hP]; rfl] at h
        exact h
      have hr : ∀ W, Calls Tryd.prog 14 #[.string s] W fun e w' => e = .returned (.tuple #[.int .u64 0, .bool false]) ∧ ∃ m, w' = W.drewN m := by
        intro W
        have h := refParse_any s hs W
        rw [(none_pv hP).1, (none_pv hP).2] at h
        exact h
      have HP := Lib.hid hp
      have HR := Lib.hid hr
      clear hp hr hP hz hL
      go_enter Tryd.func4, Tryd.ntmps4
      go_wp2_with fail
      go_at_call 13
      refine (HP.out _ HL.out).mono ?_
      rintro e w1 ⟨rfl, hb1⟩
      have HL1 := Lib.hid (HL.out.below hb1)
      go_wp2_with fail
      go_at_call 14
      refine (HR.out _).mono ?_
      rintro e w2 ⟨rfl, m2, hw2⟩
      have hb2 : Below w1.heap.size w1 w2 := by rw [hw2]; exact below_d m2
      clear hw2
      have HL2 := Lib.hid (HL1.out.below hb2)
      go_wp2_with fail
      go_at_call 15
      refine (text_any t ht _ HL2.out.tab).mono ?_
      rintro e w3 ⟨rfl, hb3⟩
      have HL3 := Lib.hid (HL2.out.below hb3)
      go_wp2_with fail
      go_at_call 13
      refine (HZ.out _ HL3.out).mono ?_
      rintro e w4 ⟨rfl, hb4⟩
      have HL4 := Lib.hid (HL3.out.below hb4)
      go_wp2_with fail
      go_at_call 9
      refine (told_true _).mono ?_
      rintro e w' ⟨rfl, rfl⟩
      go_wp2_with fail
      go_at_call 15
      refine (text_any t ht _ HL4.out.tab).mono ?_
      rintro e w5 ⟨rfl, hb5⟩
      go_wp2_with fail
      go_at_call 16
      refine (refText_any t ht _).mono ?_
      rintro e w6 ⟨rfl, m6, hw6⟩
      have hb6 : Below w5.heap.size w5 w6 := by rw [hw6]; exact below_d m6
      clear hw6
      go_wp2_with fail
      go_ret
      exact ⟨rfl, hb1.trans ((hb2.trans ((hb3.trans ((hb4.trans ((hb5.trans (hb6.mono hb5.size)).mono hb4.size)).mono hb3.size)).mono hb2.size)).mono hb1.size)⟩
    | some u =>
      obtain ⟨hu, hus⟩ := parseE_some hP
      have hp : ∀ W, LaidVars W → Calls Tryd.prog 13 #[.string s] W fun e w' => e = .returned (.tuple #[.int .u64 u, .int .i64 0]) ∧ Below W.heap.size W w' := by
        intro W hW
        have h := parse_any s hs W hW
        rw [show pv s = u by unfold pv; rw [hP]; rfl, show pe s = 0 by unfold pe; rw [hP]; rfl] at h
        exact h
      have hr : ∀ W, Calls Tryd.prog 14 #[.string s] W fun e w' => e = .returned (.tuple #[.int .u64 u, .bool true]) ∧ ∃ m, w' = W.drewN m := by
        intro W
        have h := refParse_any s hs W
        rw [show pv s = u by unfold pv; rw [hP]; rfl, show ok s = true by unfold ok; rw [hP]; rfl] at h
        exact h
      have hx : ∀ W, Tab W → Calls Tryd.prog 15 #[.int .u64 u] W fun e w' => e = .returned (.string s) ∧ Below W.heap.size W w' := by
        intro W hW
        have h := text_any u hu W hW
        rw [hus] at h
        exact h
      have HP := Lib.hid hp
      have HR := Lib.hid hr
      have HX := Lib.hid hx
      clear hp hr hx hP hz hL hus
      go_enter Tryd.func4, Tryd.ntmps4
      go_wp2_with fail
      go_at_call 13
      refine (HP.out _ HL.out).mono ?_
      rintro e w1 ⟨rfl, hb1⟩
      have HL1 := Lib.hid (HL.out.below hb1)
      go_wp2_with fail
      go_at_call 14
      refine (HR.out _).mono ?_
      rintro e w2 ⟨rfl, m2, hw2⟩
      have hb2 : Below w1.heap.size w1 w2 := by rw [hw2]; exact below_d m2
      clear hw2
      have HL2 := Lib.hid (HL1.out.below hb2)
      go_wp2_with fail
      go_at_call 15
      refine (text_any t ht _ HL2.out.tab).mono ?_
      rintro e w3 ⟨rfl, hb3⟩
      have HL3 := Lib.hid (HL2.out.below hb3)
      go_wp2_with fail
      go_at_call 13
      refine (HZ.out _ HL3.out).mono ?_
      rintro e w4 ⟨rfl, hb4⟩
      have HL4 := Lib.hid (HL3.out.below hb4)
      go_wp2_with fail
      go_at_call 9
      refine (told_true _).mono ?_
      rintro e w' ⟨rfl, rfl⟩
      go_wp2_with fail
      go_at_call 15
      refine (text_any t ht _ HL4.out.tab).mono ?_
      rintro e w5 ⟨rfl, hb5⟩
      have HL5 := Lib.hid (HL4.out.below hb5)
      go_wp2_with fail
      go_at_call 16
      refine (refText_any t ht _).mono ?_
      rintro e w6 ⟨rfl, m6, hw6⟩
      have hb6 : Below w5.heap.size w5 w6 := by rw [hw6]; exact below_d m6
      clear hw6
      have HL6 := Lib.hid (HL5.out.below hb6)
      go_wp2_with fail
      go_at_call 15
      refine (HX.out _ HL6.out.tab).mono ?_
      rintro e w7 ⟨rfl, hb7⟩
      go_wp2_with fail
      go_ret
      exact ⟨rfl, hb1.trans ((hb2.trans ((hb3.trans ((hb4.trans ((hb5.trans ((hb6.trans (hb7.mono hb6.size)).mono hb5.size)).mono hb4.size)).mono hb3.size)).mono hb2.size)).mono hb1.size)⟩
end Go.Proofs.YtcjbmeebenaonaaDoor.Stamp
