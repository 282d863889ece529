
/-
  THE DOCUMENT's OWN ANSWER IN WORDS: a number below 0 too; the words of the kinds; places and kind in words.
-/
import Derived.Test.YtkcmeklgnbejiaaDoorFaultWrap
namespace Go.Proofs.YtkcmeklgnbejiaaDoor.Fault
open Go.RowKit
set_option linter.unusedVariables false

def itoaS (n : Int) : ByteArray := ⟨(Lib.itoa n).toArray⟩
theorem itoaS_neg {n : Int} (h : n < 0) : itoaS n = ({ data := #[45] } : ByteArray) ++ Stamp.numS (-(n + 1) + 1) := by
  unfold itoaS Lib.itoa Stamp.numS
  rw [if_pos h, show (-(n + 1) + 1).toNat = n.natAbs by omega]
  apply ByteArray.ext
  simp
theorem itoaS_pos {n : Int} (h : ¬ n < 0) : itoaS n = Stamp.numS n := by unfold itoaS Lib.itoa Stamp.numS; rw [if_neg h]
theorem itoaS_size {n : Int} (h0 : -9223372036854775808 ≤ n) (h1 : n ≤ 9223372036854775807) : (itoaS n).size ≤ 21 := by
  have := itoa_length n h0 h1
  show (Lib.itoa n).toArray.size ≤ 21
  rw [List.size_toArray]; exact this

theorem num_any (n : Int) (h0 : -9223372036854775808 ≤ n) (h1 : n ≤ 9223372036854775807) (w : World) :
    Calls Tryd.prog 45 #[.int .i64 n] w fun e w' => e = .returned (.string (itoaS n)) ∧ ∃ m, w' = w.drewN m := by
  by_cases hn : n < 0
  · have HR := Lib.hid (itoaS_neg hn)
    have hu : Stamp.U (-(n + 1) + 1) := by unfold Stamp.U; omega
    have HC := Lib.hid (Stamp.refNum_any (-(n + 1) + 1).toNat (-(n + 1) + 1) w (by omega) hu)
    have hsz := Stamp.numS_size hu
    go_enter Tryd.func45, Tryd.ntmps45
    go_wp2_with fail
    go_at_call 68
    refine HC.out.mono ?_
    rintro e w' ⟨rfl, m, rfl⟩
    go_wp2_with fail
    go_ret
    exact ⟨by rw [HR.out]; rfl, m, rfl⟩
  · have HR := Lib.hid (itoaS_pos hn)
    have hu : Stamp.U n := by unfold Stamp.U; omega
    have HC := Lib.hid (Stamp.refNum_any n.toNat n w (by omega) hu)
    have hn0 : 0 ≤ n := by omega
    go_enter Tryd.func45, Tryd.ntmps45
    go_wp2_with fail
    go_at_call 68
    refine HC.out.mono ?_
    rintro e w' ⟨rfl, m, rfl⟩
    go_wp2_with fail
    go_ret
    exact ⟨by rw [HR.out]; rfl, m, rfl⟩

set_option maxRecDepth 100000 in
set_option maxHeartbeats 4000000 in
theorem word_any (k : Int) (h0 : 1 ≤ k) (h1 : k ≤ 14) (w : World) : Calls Tryd.prog 46 #[.int .i64 k] w fun e w' => e = .returned (.string (wordS k)) ∧ Below w.heap.size w w' := by
  have hk : k = 1 ∨ k = 2 ∨ k = 3 ∨ k = 4 ∨ k = 5 ∨ k = 6 ∨ k = 7 ∨ k = 8 ∨ k = 9 ∨ k = 10 ∨ k = 11 ∨ k = 12 ∨ k = 13 ∨ k = 14 := by omega
  clear h0 h1
  rcases hk with rfl | rfl | rfl | rfl | rfl | rfl | rfl | rfl | rfl | rfl | rfl | rfl | rfl | rfl
  all_goals
    go_enter Tryd.func46, Tryd.ntmps46
    go_wp2
    go_ret
    exact ⟨rfl, (Below.refl _ _).alloc (Nat.le_refl _) _⟩

set_option maxRecDepth 1000000 in
set_option maxHeartbeats 4000000 in
theorem refTextF_any {w : World} {v : Value} {l : List Pl} (k : Int) (h0 : 1 ≤ k) (h1 : k ≤ 14) (hv : Reads w v l) (hl : l.length ≤ 12) (hs : ∀ x ∈ l, Small x) :
    Calls Tryd.prog 17 #[v, .int .i64 k] w fun e w' => e = .returned (.string ⟨(textL l k).toArray⟩) ∧ Below w.heap.size w w' := by
  obtain ⟨ao, cap, rfl, hlen, hok, hcell⟩ := hv
  have HC := Lib.hid hcell
  have HS := Lib.hid hs
  clear hok hcell hs
  go_enter Tryd.func17, Tryd.ntmps17
  go_wp2
  go_loopg [5, 6] l.length (fun j o t wr => ∃ (i : Nat) (A : ByteArray), i + j = l.length ∧ t = .int .i64 i ∧ o = .string A ∧ A.data.toList = placesL (l.take i) ∧ Below w.heap.size w wr)
  case atStart => exact ⟨0, ⟨#[]⟩, by omega, rfl, rfl, rfl, Below.refl _ _⟩
  case round =>
    obtain ⟨i, A, hij, rfl, rfl, hA, hbw⟩ := hrel
    have HA := Lib.hid hA
    have HIJ := Lib.hid hij
    have HB := Lib.hid hbw
    have hAs : A.size ≤ 528 := by
      have e : A.size = A.data.toList.length := rfl
      have h3 := placesL_length (l.take i) (fun x hx => HS.out x (List.mem_of_mem_take hx))
      have h4 : (l.take i).length ≤ 12 := by rw [List.length_take]; omega
      rw [e, hA]; omega
    clear hA hij
    by_cases hlt1 : i < l.length
    · obtain ⟨s, n, hx⟩ : ∃ s n, l[i]? = some (s, n) := ⟨_, _, List.getElem?_eq_getElem hlt1⟩
      have hne : l ≠ [] := by intro e; rw [e] at hlt1; simp at hlt1
      obtain ⟨b, off, hao, hcc⟩ := HC.out.resolve_left hne
      obtain ⟨q0, q1⟩ := hcc i s n hx
      have hbl := Lib.lt_of_cell q0
      have c0 := (hbw.cell (p := ⟨b, off + i * 2, none⟩) hbl).trans q0
      have c1 := (hbw.cell (p := ⟨b, off + i * 2 + 1, none⟩) hbl).trans q1
      have HX := Lib.hid hx
      obtain ⟨hs1, hs2, hs3⟩ := HS.out (s, n) (List.mem_of_getElem? hx)
      simp only at hs1 hs2 hs3
      have hNs := itoaS_size hs2 hs3
      have HN := Lib.hid (fun W => num_any n hs2 hs3 W)
      subst hao
      have hi0 : (0 : Int) ≤ (i : Int) := Int.natCast_nonneg _
      have hi1 : (i : Int) < (l.length : Int) := by omega
      have HLT := Lib.hid hlt1
      clear hx hne hcc q0 q1 hbl HC hbw hs2 hs3
      go_wp2
      go_quiet ((go_at_call 45; exact Calls.quiet_of (HN.out _)))
      go_wp2
      go_roundg (gk - 1)
      case measure => have := HIJ.out; have := HLT.out; omega
      case rel =>
        refine ⟨i + 1, _, by have := HIJ.out; have := HLT.out; omega, by go_num, rfl, ?_, below_drewN HB.out _⟩
        have e1 : l.take (i + 1) = l.take i ++ [(s, n)] := by rw [List.take_add_one, HX.out]; rfl
        rw [e1, placesL_snoc, ← HA.out]
        simp [itoaS]
    · have hin : i = l.length := by have := HIJ.out; omega
      have hA2 : A.data.toList = placesL l := by have h := HA.out; rw [hin, List.take_length] at h; exact h
      have HA2 := Lib.hid hA2
      have hws := wordS_size k (by omega) h1
      clear hA2 hin HIJ hbw HC
      go_wp2_with fail
      go_at_call 46
      refine (word_any k h0 h1 _).mono ?_
      rintro e w1 ⟨rfl, hb1⟩
      go_wp2_with fail
      go_ret
      refine ⟨?_, HB.out.trans (hb1.mono HB.out.size)⟩
      have e : A ++ wordS k = ⟨(textL l k).toArray⟩ := by
        apply ByteArray.ext
        apply Array.ext'
        unfold textL
        rw [← HA2.out]
        simp
      exact congrArg (fun S => Ending.returned (Value.string S)) e
end Go.Proofs.YtkcmeklgnbejiaaDoor.Fault
