/-
  PACKAGE stamp's Parse: what it answers, at every string that a slice of bytes may hold: the one number whose Text it is, or the error.
-/
import Derived.Test.YtdbaacalfbbdiaaGreatDoorStampText
import Derived.Lib.AtoiErrMem
import Derived.Lib.ParseIntBMem
namespace Go.Proofs.YtdbaacalfbbdiaaGreatDoor.Stamp
open Go.RowKit Go.Sort Go.Lib
set_option linter.unusedVariables false

/-- What the library's package-level variables hold: the table; each sentinel some error. -/
structure LaidVars (w : World) : Prop where
  tab : Tab w
  syn : ∃ te pe, w.cell? ⟨3, 0, none⟩ = some (.iface te pe)
  rng : ∃ te pe, w.cell? ⟨4, 0, none⟩ = some (.iface te pe)

theorem tab_below {w w' : World} (h : Tab w) (hb : Below w.heap.size w w') : Tab w' :=
  var?_below hb (show Tryz.prog.globalNamed "internal/strconv.uint64pow10" = some 2 by kernel_rfl) (by
    unfold Tab Lib.TabIs at h
    have := World.var?_cell (show Tryz.prog.globalNamed "internal/strconv.uint64pow10" = some 2 by kernel_rfl) h 0
    exact Lib.lt_of_cell (v := .int .u64 1) (by simpa [Lib.pow10Tab] using this)) h
theorem LaidVars.below {w w' : World} (h : LaidVars w) (hb : Below w.heap.size w w') : LaidVars w' := by
  obtain ⟨h1, ⟨te, pe, h2⟩, ⟨tr, pr, h3⟩⟩ := h
  have l2 := Lib.lt_of_cell h2
  have l3 := Lib.lt_of_cell h3
  exact ⟨tab_below h1 hb, ⟨te, pe, (hb.cell (p := ⟨_, 0, none⟩) l2).trans h2⟩, ⟨tr, pr, (hb.cell (p := ⟨_, 0, none⟩) l3).trans h3⟩⟩

/-- The time of a text, where it is one's. -/
def parseE (s : ByteArray) : Option Nat :=
  if s = neverS then some 18446744073709551615
  else match Lib.parseUintB 64 s.data.toList with
    | .ok u => if textS u = s then some u else none
    | _ => none
def pv (s : ByteArray) : Int := ((parseE s).getD 0 : Nat)
def pe (s : ByteArray) : Int := if (parseE s).isSome then 0 else 13

theorem never_eq (s : ByteArray) : (s.toList == [110, 101, 118, 101, 114]) = decide (s = neverS) := by
  rw [Bool.eq_iff_iff, beq_iff_eq, decide_eq_true_eq, Lib.toList_data]
  constructor
  · intro h; apply ByteArray.ext; apply Array.ext'; exact h
  · rintro rfl; rfl
theorem parseUintM_le (M : Nat) : ∀ (l : List UInt8) (acc u : Nat), acc ≤ M → Lib.parseUintM M acc l = .ok u → u ≤ M
  | [], acc, u, ha, h => by simp only [Lib.parseUintM, Lib.NumEnd.ok.injEq] at h; omega
  | c :: r, acc, u, ha, h => by
    simp only [Lib.parseUintM] at h
    split at h
    · split at h
      · cases h
      · split at h
        · cases h
        · exact parseUintM_le M r _ u (by omega) h
    · cases h
theorem parseUintB_le {l : List UInt8} {u : Nat} (h : Lib.parseUintB 64 l = .ok u) : u ≤ 18446744073709551615 := by
  unfold Lib.parseUintB at h
  split at h
  · cases h
  · exact parseUintM_le _ l 0 u (Nat.zero_le _) h

set_option maxHeartbeats 1000000 in
set_option maxRecDepth 100000 in
theorem parse_any (s : ByteArray) (hs : s.size ≤ 281474976710656) (w : World) (hL : LaidVars w) :
    Calls Tryz.prog 78 #[.string s] w fun e w' => e = .returned (.tuple #[.int .u64 (pv s), .int .i64 (pe s)]) ∧ Below w.heap.size w w' := by
  by_cases hA : s = neverS
  · subst hA
    have e1 : pv neverS = 18446744073709551615 := by unfold pv parseE; rw [if_pos rfl]; rfl
    have e2 : pe neverS = 0 := by unfold pe parseE; rw [if_pos rfl]; rfl
    have eA : (neverS.toList == [110, 101, 118, 101, 114]) = true := by rw [never_eq]; exact decide_eq_true rfl
    rw [e1, e2]
    clear e1 e2
    go_enter Tryz.func78, Tryz.ntmps78
    go_wp2_with fail
    go_ret2
    exact ⟨rfl, Below.refl _ _⟩
  · have eA : (s.toList == [110, 101, 118, 101, 114]) = false := by rw [never_eq]; exact decide_eq_false hA
    cases hP : Lib.parseUintB 64 s.data.toList
    case ok u =>
      have hu : U u := by have := parseUintB_le hP; unfold U; omega
      have hC := Lib.hid (Tryz.strconv_ParseUint_10_at64_ok s (by omega) u hP w)
      have HL := Lib.hid hL
      by_cases hT : textS u = s
      · have eT : ((textS u).toList == s.toList) = true := by rw [hT]; simp
        have e1 := Lib.hid (show pv s = u from by unfold pv parseE; rw [if_neg hA, hP]; simp [hT])
        have e2 := Lib.hid (show pe s = 0 from by unfold pe parseE; rw [if_neg hA, hP]; simp [hT])
        clear hP hL hA hT
        go_enter Tryz.func78, Tryz.ntmps78
        go_wp2_with fail
        go_at_call 94
        refine hC.out.mono ?_
        rintro e w1 ⟨rfl, hw⟩
        have hb1 : Below w.heap.size w w1 := by
          rcases hw with rfl | rfl
          · exact Below.refl _ _
          · exact Lib.bytesWorld_below _ _ _
        have HT := Lib.hid (HL.out.below hb1).tab
        clear hw
        go_wp2_with fail
        go_at_call 32
        refine (text_any _ hu _ HT.out).mono ?_
        rintro e w2 ⟨rfl, hb2⟩
        go_wp2_with fail
        go_ret2
        exact ⟨by rw [e1.out, e2.out]; rfl, hb1.trans (hb2.mono hb1.size)⟩
      · have eT : ((textS u).toList == s.toList) = false := by rw [beq_eq_false_iff_ne]; exact fun h => hT (by apply ByteArray.ext; apply Array.ext'; rwa [Lib.toList_data, Lib.toList_data] at h)
        have e1 := Lib.hid (show pv s = 0 from by unfold pv parseE; rw [if_neg hA, hP]; simp [hT])
        have e2 := Lib.hid (show pe s = 13 from by unfold pe parseE; rw [if_neg hA, hP]; simp [hT])
        clear hP hL hA hT
        go_enter Tryz.func78, Tryz.ntmps78
        go_wp2_with fail
        go_at_call 94
        refine hC.out.mono ?_
        rintro e w1 ⟨rfl, hw⟩
        have hb1 : Below w.heap.size w w1 := by
          rcases hw with rfl | rfl
          · exact Below.refl _ _
          · exact Lib.bytesWorld_below _ _ _
        have HT := Lib.hid (HL.out.below hb1).tab
        clear hw
        go_wp2_with fail
        go_at_call 32
        refine (text_any _ hu _ HT.out).mono ?_
        rintro e w2 ⟨rfl, hb2⟩
        go_wp2_with fail
        go_ret2
        exact ⟨by rw [e1.out, e2.out]; rfl, hb1.trans (hb2.mono hb1.size)⟩
    · obtain ⟨te, pe', hc⟩ := hL.syn
      have hC := Lib.hid (show Calls Tryz.prog 94 #[.string s, .int .i64 10, .int .i64 64] w fun e w' => ∃ N, e = .returned (.tuple #[.int .u64 0, .iface 172 (.pointer (some ⟨N, 0, none⟩))]) ∧ w.heap.size ≤ N ∧ w'.heap[N]? = some (.cells #[.string ⟨#[80, 97, 114, 115, 101, 85, 105, 110, 116]⟩, .string s, .iface te pe'] 191 (0, 0)) ∧ Below w.heap.size w w' from Any.strconv_ParseUint_10_at64_syntax Tryz.laysPu14 s hs hP _ w hc (.inr ⟨te, pe', rfl⟩))
      have e1 := Lib.hid (show pv s = 0 from by unfold pv parseE; rw [if_neg hA, hP]; rfl)
      have e2 := Lib.hid (show pe s = 13 from by unfold pe parseE; rw [if_neg hA, hP]; rfl)
      clear hP hL hA hc
      go_enter Tryz.func78, Tryz.ntmps78
      go_wp2_with fail
      go_at_call 94
      refine hC.out.mono ?_
      rintro e w1 ⟨N, rfl, _, _, hb1⟩
      go_wp2_with fail
      go_ret2
      exact ⟨by rw [e1.out, e2.out]; rfl, hb1⟩
    · obtain ⟨te, pe', hc⟩ := hL.rng
      have hC := Lib.hid (Tryz.strconv_ParseUint_10_at64_range s hs hP _ w hc (.inr ⟨te, pe', rfl⟩))
      have e1 := Lib.hid (show pv s = 0 from by unfold pv parseE; rw [if_neg hA, hP]; rfl)
      have e2 := Lib.hid (show pe s = 13 from by unfold pe parseE; rw [if_neg hA, hP]; rfl)
      clear hP hL hA hc
      go_enter Tryz.func78, Tryz.ntmps78
      go_wp2_with fail
      go_at_call 94
      refine hC.out.mono ?_
      rintro e w1 ⟨N, rfl, _, _, hb1⟩
      go_wp2_with fail
      go_ret2
      exact ⟨by rw [e1.out, e2.out]; rfl, hb1⟩
end Go.Proofs.YtdbaacalfbbdiaaGreatDoor.Stamp
