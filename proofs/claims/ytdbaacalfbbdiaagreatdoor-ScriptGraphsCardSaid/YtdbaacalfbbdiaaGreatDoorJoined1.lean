/-
  THE DECIMAL TEXT OF A NUMBER OF 64 BITS: the library's FormatUint at base 10, package stamp's Text, and the document's own Num and Text: a contract each.
  PACKAGE stamp's Parse: what it answers, at every string that a slice of bytes may hold: the one number whose Text it is, or the error.
-/
import Derived.Test.YtdbaacalfbbdiaaGreatDoorStamp
import Derived.Test.YtdbaacalfbbdiaaGreatDoorShelf
import Derived.Lib.ItoaMem
import Derived.Lib.AppendIntMem
import Derived.Lib.Walk
import Derived.BigCall
import Derived.BigGuard
import Derived.Deep.RegionWith
import Derived.Deep.QuietTactic
import Derived.BigQuiet
import Derived.Lib.AtoiErrMem
import Derived.Lib.ParseIntBMem
namespace Go.Proofs.YtdbaacalfbbdiaaGreatDoor.Stamp
open Go.RowKit Go.Sort Go.Lib
set_option linter.unusedVariables false

theorem holds_zero0 (w : World) (T : TypeId) (nd : Nat) (hs : nd ≤ 24) : Holds (fun (b : UInt8) => Value.int .u8 (b.toNat : Int)) (w.alloc (.cells zeros24 T)) w.heap.size 0 (Array.replicate nd (0 : UInt8)) := fun j hj => by
  have hj' : j < nd := by simpa using hj
  refine ⟨?_, World.frozen?_alloc_new _ _ _ _⟩
  rw [Nat.zero_add, World.cell?_alloc_new, zeros24_at _ (by omega), getElem!_pos _ j hj]
  simp
theorem fin0 (w : World) (o : Obj) (dk : Array UInt8) (k : Nat) : ∃ os, (putRow (fun (b : UInt8) => Value.int .u8 (b.toNat : Int)) (w.alloc o) w.heap.size 0 dk).drewN k = grow (w.drewN k) os := by
  rw [alloc_eq_grow]
  obtain ⟨os', _, e⟩ := putRow_grow_new (fun (b : UInt8) => Value.int .u8 (b.toNat : Int)) w #[o] w.heap.size 0 dk (Nat.le_refl _)
  exact ⟨os', by rw [e]; rfl⟩

/-- The table of the powers of ten, as the library reads it. -/
def Tab (w : World) : Prop := Lib.TabIs Tryz.prog w "internal/strconv.uint64pow10" .u64 Lib.pow10Tab

set_option maxHeartbeats 6400000 in
set_option maxRecDepth 100000 in
theorem formatUint_any (u : Nat) (hu : u < 18446744073709551616) (w : World) (htab0 : Tab w) :
    Calls Tryz.prog 84 #[.int .u64 u, .int .i64 10] w fun e w' => e = .returned (.string ⟨(Lib.decDigits u).toArray⟩) ∧ Below w.heap.size w w' := by
  have htab : Lib.TabIs Tryz.prog w "internal/strconv.uint64pow10" .u64 Lib.pow10Tab := htab0
  by_cases hs : u < 100
  · clear htab
    go_enter Tryz.func84, Tryz.ntmps84
    go_wp2_with (go_at_call 100; refine (Tryz.internal_strconv_small u hs _).mono ?_; rintro e w' ⟨rfl, rfl⟩)
    go_ret
    exact ⟨rfl, Below.refl _ _⟩
  · have hu1 : 1 ≤ u := by omega
    have hnd20 : Lib.nDigits u ≤ 20 := by have := Lib.numDigits_eq u hu1 hu; split at this <;> omega
    have hal : Tryz.prog.arrayLen 159 = 24 := by kernel_rfl
    have hsl1 : ∀ W, (Instr.sliceAt 159 (.pointer (some ⟨w.heap.size, 0, none⟩)) none (some (.int .i64 (Lib.nDigits u : Int))) none).run Tryz.prog W = .ok (.slice (some ⟨w.heap.size, 0, none⟩) (Lib.nDigits u) 24) W := fun W => by
      rw [run_sliceAt_array_h W 159 ⟨w.heap.size, 0, none⟩ (by kernel_rfl) .i64 (Lib.nDigits u : Int) (by omega) (by rw [hal]; omega)]
      go_simp
    have hH0 := holds_zero0 w 159 (Lib.nDigits u) (by omega)
    have hfmt := Tryz.internal_strconv_formatBase10 w.heap.size 0 24 u (Array.replicate (Lib.nDigits u) 0) (w.alloc (.cells Lib.zeros24 159)) hH0 (by rw [Array.size_replicate]; exact Lib.lt_pow_nDigits u) hu (by rw [Array.size_replicate]; omega)
    rw [Array.size_replicate] at hfmt
    have HH0 := Lib.hid hH0
    clear hH0 hal htab0
    go_enter Tryz.func84, Tryz.ntmps84
    go_wp2_with (first
      | (go_at_call 101; refine (Tryz.internal_strconv_numDigits u hu1 hu _ (Lib.tabIs_alloc htab _)).mono ?_; rintro e w' ⟨rfl, rfl⟩))
    go_at_call 102
    refine hfmt.mono ?_
    rintro e w' ⟨rfl, k, v', dk, rfl, hF⟩
    have hcv : (convert 103 9 (.slice (some ⟨w.heap.size, 0, none⟩) (Lib.nDigits u) 24)).run Tryz.prog ((putRow (fun (b : UInt8) => Value.int .u8 (b.toNat : Int)) (w.alloc (.cells Lib.zeros24 159)) w.heap.size 0 dk).drewN k) = .ok (.string ⟨(Lib.decDigits u).toArray⟩) ((putRow (fun (b : UInt8) => Value.int .u8 (b.toNat : Int)) (w.alloc (.cells Lib.zeros24 159)) w.heap.size 0 dk).drewN k) := by
      have h := run_convert_bytes_back (P := Tryz.prog) ((putRow (fun (b : UInt8) => Value.int .u8 (b.toNat : Int)) (w.alloc (.cells Lib.zeros24 159)) w.heap.size 0 dk).drewN k) 103 9 5 ⟨w.heap.size, 0, none⟩ 24 (Lib.decDigits u) Tryz.underlying103 Tryz.underlying5 Tryz.underlying9 (fun j hj => by
        rw [Lib.row_is_numeral hF j hj, Lib.add_plain, World.cell?_drewN]
        exact cell?_putRow (fun (b : UInt8) => Value.int .u8 (b.toNat : Int)) _ w.heap.size 0 _ dk HH0.out (by rw [hF.size, Array.size_replicate]) j (by rw [hF.size]; rw [Lib.decDigits_length] at hj; exact hj))
      rw [Lib.decDigits_length] at h
      exact h
    go_wp2
    go_ret
    obtain ⟨os, eo⟩ := fin0 w (.cells Lib.zeros24 159) dk k
    refine ⟨rfl, ?_⟩
    rw [eo]
    exact Lib.below_grow _ w (Nat.le_refl _) k os

/-- The decimal text, as a string. -/
def numS (n : Int) : ByteArray := ⟨(Lib.decDigits n.toNat).toArray⟩
def neverS : ByteArray := { data := #[110, 101, 118, 101, 114] }
def textS (n : Int) : ByteArray := if n = 18446744073709551615 then neverS else numS n

theorem nDigits_le (u : Nat) (hu : u < 18446744073709551616) : Lib.nDigits u ≤ 20 := by
  by_cases h : 1 ≤ u
  · have := Lib.numDigits_eq u h hu; split at this <;> omega
  · obtain rfl : u = 0 := by omega
    rw [Lib.nDigits_small (by omega)]; omega
theorem numS_size {n : Int} (h : U n) : (numS n).size ≤ 20 := by
  unfold U at h
  have e : (numS n).size = Lib.nDigits n.toNat := by
    show (Lib.decDigits n.toNat).toArray.size = _
    rw [List.size_toArray, Lib.decDigits_length]
  rw [e]
  exact nDigits_le _ (by omega)

set_option maxRecDepth 100000 in
theorem pubFormat_any (n : Int) (hn : U n) (w : World) (htab : Tab w) :
    Calls Tryz.prog 63 #[.int .u64 n, .int .i64 10] w fun e w' => e = .returned (.string (numS n)) ∧ Below w.heap.size w w' := by
  obtain ⟨u, rfl⟩ : ∃ u : Nat, n = u := ⟨n.toNat, by unfold U at hn; omega⟩
  have hu : u < 18446744073709551616 := by unfold U at hn; omega
  have HT := Lib.hid htab
  clear htab hn
  go_enter Tryz.func63, Tryz.ntmps63
  go_wp2_with (go_at_call 84; refine (formatUint_any u hu _ HT.out).mono ?_; rintro e w' ⟨rfl, hb⟩)
  go_ret
  exact ⟨rfl, hb⟩

set_option maxRecDepth 100000 in
theorem text_any (n : Int) (hn : U n) (w : World) (htab : Tab w) :
    Calls Tryz.prog 32 #[.int .u64 n] w fun e w' => e = .returned (.string (textS n)) ∧ Below w.heap.size w w' := by
  have HT := Lib.hid htab
  clear htab
  by_cases h : n = 18446744073709551615
  · have e1 : (n == 18446744073709551615) = true := by rw [beq_iff_eq]; exact h
    have hr : textS n = neverS := if_pos h
    have HR := Lib.hid hr
    clear h hr
    go_enter Tryz.func32, Tryz.ntmps32
    go_wp2_with fail
    go_ret
    exact ⟨by rw [HR.out]; rfl, Below.refl _ _⟩
  · have e1 : (n == 18446744073709551615) = false := by rw [beq_eq_false_iff_ne]; exact h
    have hr : textS n = numS n := if_neg h
    have HR := Lib.hid hr
    clear h hr
    go_enter Tryz.func32, Tryz.ntmps32
    go_wp2_with (go_at_call 63; refine (pubFormat_any n hn _ HT.out).mono ?_; rintro e w' ⟨rfl, hb⟩)
    go_ret
    exact ⟨by rw [HR.out]; rfl, hb⟩

/-! The document's own text of a number: a digit by a digit. -/
def digs : ByteArray := { data := #[48, 49, 50, 51, 52, 53, 54, 55, 56, 57] }
theorem dig_at (d : Nat) (h : d < 10) : digs.extract d (d + 1) = ⟨#[UInt8.ofNat (48 + d)]⟩ := by
  rcases d with _ | _ | _ | _ | _ | _ | _ | _ | _ | _ | d
  all_goals first | decide | rfl | omega
theorem numS_small {n : Int} (h0 : 0 ≤ n) (h : n < 10) : numS n = digs.extract n.toNat (n + 1).toNat := by
  rw [show (n + 1).toNat = n.toNat + 1 by omega, dig_at _ (by omega)]
  unfold numS
  rw [Lib.decDigits, dif_pos (by omega)]
theorem numS_big {n : Int} (h0 : 0 ≤ n) (h : ¬ n < 10) : numS n = numS (n / 10) ++ digs.extract (n % 10).toNat (n % 10 + 1).toNat := by
  rw [show (n % 10 + 1).toNat = (n % 10).toNat + 1 by omega, dig_at _ (by omega)]
  unfold numS
  rw [Lib.decDigits, dif_neg (by omega), show (n / 10).toNat = n.toNat / 10 by omega, show (n % 10).toNat = n.toNat % 10 by omega]
  apply ByteArray.ext
  simp

theorem refNum_any (k : Nat) : ∀ (n : Int) (w : World), n ≤ k → U n →
    Calls Tryz.prog 65 #[.int .u64 n] w fun e w' => e = .returned (.string (numS n)) ∧ ∃ m, w' = w.drewN m := by
  induction k with
  | zero =>
    intro n w hk hn
    obtain ⟨hn1, hn2⟩ := hn
    have hlt : n < 10 := by omega
    have HR := Lib.hid (numS_small hn1 hlt)
    go_enter Tryz.func65, Tryz.ntmps65
    go_wp2_with fail
    go_ret
    exact ⟨by rw [HR.out]; rfl, 0, rfl⟩
  | succ k ih =>
    intro n w hk hn
    have hnu := hn
    obtain ⟨hn1, hn2⟩ := hn
    by_cases hlt : n < 10
    · have HR := Lib.hid (numS_small hn1 hlt)
      go_enter Tryz.func65, Tryz.ntmps65
      go_wp2_with fail
      go_ret
      exact ⟨by rw [HR.out]; rfl, 0, rfl⟩
    · have hq : U (n / 10) := by unfold U at *; omega
      have hqk : n / 10 ≤ k := by omega
      have hsz := numS_size hq
      have HR := Lib.hid (numS_big hn1 hlt)
      have IH := Lib.hid ih
      clear ih
      go_enter Tryz.func65, Tryz.ntmps65
      go_wp2_with fail
      go_quiet ((go_at_call 65; exact Calls.quiet_of (IH.out _ _ hqk hq)))
      go_wp2_with fail
      go_ret
      exact ⟨by rw [HR.out]; rfl, _, rfl⟩

theorem refText_any (n : Int) (hn : U n) (w : World) :
    Calls Tryz.prog 39 #[.int .u64 n] w fun e w' => e = .returned (.string (textS n)) ∧ ∃ m, w' = w.drewN m := by
  by_cases h : n = 18446744073709551615
  · have e1 : (n == 18446744073709551615) = true := by rw [beq_iff_eq]; exact h
    have hr : textS n = neverS := if_pos h
    have HR := Lib.hid hr
    clear h hr
    go_enter Tryz.func39, Tryz.ntmps39
    go_wp2_with fail
    go_ret
    exact ⟨by rw [HR.out]; rfl, 0, rfl⟩
  · have e1 : (n == 18446744073709551615) = false := by rw [beq_eq_false_iff_ne]; exact h
    have hr : textS n = numS n := if_neg h
    have HR := Lib.hid hr
    have HC := Lib.hid (refNum_any n.toNat n w (by unfold U at hn; omega) hn)
    clear h hr
    go_enter Tryz.func39, Tryz.ntmps39
    go_wp2_with (go_at_call 65; refine HC.out.mono ?_; rintro e w' ⟨rfl, m, rfl⟩)
    go_ret
    exact ⟨by rw [HR.out]; rfl, _, rfl⟩
end Go.Proofs.YtdbaacalfbbdiaaGreatDoor.Stamp
namespace Go.Proofs.YtdbaacalfbbdiaaGreatDoor.Stamp
open Go.RowKit Go.Sort Go.Lib
set_option linter.unusedVariables false

/-- What the library's package-level variables hold: the table; each sentinel some error. -/
structure LaidVars (w : World) : Prop where
  tab : Tab w
  syn : ∃ te pe, w.cell? ⟨3, 0, none⟩ = some (.iface te pe)
  rng : ∃ te pe, w.cell? ⟨4, 0, none⟩ = some (.iface te pe)

theorem tab_below {w w' : World} (h : Tab w) (hb : Below w.heap.size w w') : Tab w' :=
  var?_below hb (show Tryz.prog.globalNamed "internal/strconv.uint64pow10" = some 2 by kernel_rfl) (by
    unfold Tab Lib.TabIs at h
    have := World.var?_cell (show Tryz.prog.globalNamed "internal/strconv.uint64pow10" = some 2 by kernel_rfl) h 0
    exact Lib.lt_of_cell (v := .int .u64 1) (by simpa [Lib.pow10Tab] using this)) h
theorem LaidVars.below {w w' : World} (h : LaidVars w) (hb : Below w.heap.size w w') : LaidVars w' := by
  obtain ⟨h1, ⟨te, pe, h2⟩, ⟨tr, pr, h3⟩⟩ := h
  have l2 := Lib.lt_of_cell h2
  have l3 := Lib.lt_of_cell h3
  exact ⟨tab_below h1 hb, ⟨te, pe, (hb.cell (p := ⟨_, 0, none⟩) l2).trans h2⟩, ⟨tr, pr, (hb.cell (p := ⟨_, 0, none⟩) l3).trans h3⟩⟩

/-- The time of a text, where it is one's. -/
def parseE (s : ByteArray) : Option Nat :=
  if s = neverS then some 18446744073709551615
  else match Lib.parseUintB 64 s.data.toList with
    | .ok u => if textS u = s then some u else none
    | _ => none
def pv (s : ByteArray) : Int := ((parseE s).getD 0 : Nat)
def pe (s : ByteArray) : Int := if (parseE s).isSome then 0 else 13

theorem never_eq (s : ByteArray) : (s.toList == [110, 101, 118, 101, 114]) = decide (s = neverS) := by
  rw [Bool.eq_iff_iff, beq_iff_eq, decide_eq_true_eq, Lib.toList_data]
  constructor
  · intro h; apply ByteArray.ext; apply Array.ext'; exact h
  · rintro rfl; rfl
theorem parseUintM_le (M : Nat) : ∀ (l : List UInt8) (acc u : Nat), acc ≤ M → Lib.parseUintM M acc l = .ok u → u ≤ M
  | [], acc, u, ha, h => by simp only [Lib.parseUintM, Lib.NumEnd.ok.injEq] at h; omega
  | c :: r, acc, u, ha, h => by
    simp only [Lib.parseUintM] at h
    split at h
    · split at h
      · cases h
      · split at h
        · cases h
        · exact parseUintM_le M r _ u (by omega) h
    · cases h
theorem parseUintB_le {l : List UInt8} {u : Nat} (h : Lib.parseUintB 64 l = .ok u) : u ≤ 18446744073709551615 := by
  unfold Lib.parseUintB at h
  split at h
  · cases h
  · exact parseUintM_le _ l 0 u (Nat.zero_le _) h

set_option maxHeartbeats 1000000 in
set_option maxRecDepth 100000 in
theorem parse_any (s : ByteArray) (hs : s.size ≤ 281474976710656) (w : World) (hL : LaidVars w) :
    Calls Tryz.prog 78 #[.string s] w fun e w' => e = .returned (.tuple #[.int .u64 (pv s), .int .i64 (pe s)]) ∧ Below w.heap.size w w' := by
  by_cases hA : s = neverS
  · subst hA
    have e1 : pv neverS = 18446744073709551615 := by unfold pv parseE; rw [if_pos rfl]; rfl
    have e2 : pe neverS = 0 := by unfold pe parseE; rw [if_pos rfl]; rfl
    have eA : (neverS.toList == [110, 101, 118, 101, 114]) = true := by rw [never_eq]; exact decide_eq_true rfl
    rw [e1, e2]
    clear e1 e2
    go_enter Tryz.func78, Tryz.ntmps78
    go_wp2_with fail
    go_ret2
    exact ⟨rfl, Below.refl _ _⟩
  · have eA : (s.toList == [110, 101, 118, 101, 114]) = false := by rw [never_eq]; exact decide_eq_false hA
    cases hP : Lib.parseUintB 64 s.data.toList
    case ok u =>
      have hu : U u := by have := parseUintB_le hP; unfold U; omega
      have hC := Lib.hid (Tryz.strconv_ParseUint_10_at64_ok s (by omega) u hP w)
      have HL := Lib.hid hL
      by_cases hT : textS u = s
      · have eT : ((textS u).toList == s.toList) = true := by rw [hT]; simp
        have e1 := Lib.hid (show pv s = u from by unfold pv parseE; rw [if_neg hA, hP]; simp [hT])
        have e2 := Lib.hid (show pe s = 0 from by unfold pe parseE; rw [if_neg hA, hP]; simp [hT])
        clear hP hL hA hT
        go_enter Tryz.func78, Tryz.ntmps78
        go_wp2_with fail
        go_at_call 94
        refine hC.out.mono ?_
        rintro e w1 ⟨rfl, hw⟩
        have hb1 : Below w.heap.size w w1 := by
          rcases hw with rfl | rfl
          · exact Below.refl _ _
          · exact Lib.bytesWorld_below _ _ _
        have HT := Lib.hid (HL.out.below hb1).tab
        clear hw
        go_wp2_with fail
        go_at_call 32
        refine (text_any _ hu _ HT.out).mono ?_
        rintro e w2 ⟨rfl, hb2⟩
        go_wp2_with fail
        go_ret2
        exact ⟨by rw [e1.out, e2.out]; rfl, hb1.trans (hb2.mono hb1.size)⟩
      · have eT : ((textS u).toList == s.toList) = false := by rw [beq_eq_false_iff_ne]; exact fun h => hT (by apply ByteArray.ext; apply Array.ext'; rwa [Lib.toList_data, Lib.toList_data] at h)
        have e1 := Lib.hid (show pv s = 0 from by unfold pv parseE; rw [if_neg hA, hP]; simp [hT])
        have e2 := Lib.hid (show pe s = 13 from by unfold pe parseE; rw [if_neg hA, hP]; simp [hT])
        clear hP hL hA hT
        go_enter Tryz.func78, Tryz.ntmps78
        go_wp2_with fail
        go_at_call 94
        refine hC.out.mono ?_
        rintro e w1 ⟨rfl, hw⟩
        have hb1 : Below w.heap.size w w1 := by
          rcases hw with rfl | rfl
          · exact Below.refl _ _
          · exact Lib.bytesWorld_below _ _ _
        have HT := Lib.hid (HL.out.below hb1).tab
        clear hw
        go_wp2_with fail
        go_at_call 32
        refine (text_any _ hu _ HT.out).mono ?_
        rintro e w2 ⟨rfl, hb2⟩
        go_wp2_with fail
        go_ret2
        exact ⟨by rw [e1.out, e2.out]; rfl, hb1.trans (hb2.mono hb1.size)⟩
    · obtain ⟨te, pe', hc⟩ := hL.syn
      have hC := Lib.hid (show Calls Tryz.prog 94 #[.string s, .int .i64 10, .int .i64 64] w fun e w' => ∃ N, e = .returned (.tuple #[.int .u64 0, .iface 172 (.pointer (some ⟨N, 0, none⟩))]) ∧ w.heap.size ≤ N ∧ w'.heap[N]? = some (.cells #[.string ⟨#[80, 97, 114, 115, 101, 85, 105, 110, 116]⟩, .string s, .iface te pe'] 191 (0, 0)) ∧ Below w.heap.size w w' from Any.strconv_ParseUint_10_at64_syntax Tryz.laysPu14 s hs hP _ w hc (.inr ⟨te, pe', rfl⟩))
      have e1 := Lib.hid (show pv s = 0 from by unfold pv parseE; rw [if_neg hA, hP]; rfl)
      have e2 := Lib.hid (show pe s = 13 from by unfold pe parseE; rw [if_neg hA, hP]; rfl)
      clear hP hL hA hc
      go_enter Tryz.func78, Tryz.ntmps78
      go_wp2_with fail
      go_at_call 94
      refine hC.out.mono ?_
      rintro e w1 ⟨N, rfl, _, _, hb1⟩
      go_wp2_with fail
      go_ret2
      exact ⟨by rw [e1.out, e2.out]; rfl, hb1⟩
    · obtain ⟨te, pe', hc⟩ := hL.rng
      have hC := Lib.hid (Tryz.strconv_ParseUint_10_at64_range s hs hP _ w hc (.inr ⟨te, pe', rfl⟩))
      have e1 := Lib.hid (show pv s = 0 from by unfold pv parseE; rw [if_neg hA, hP]; rfl)
      have e2 := Lib.hid (show pe s = 13 from by unfold pe parseE; rw [if_neg hA, hP]; rfl)
      clear hP hL hA hc
      go_enter Tryz.func78, Tryz.ntmps78
      go_wp2_with fail
      go_at_call 94
      refine hC.out.mono ?_
      rintro e w1 ⟨N, rfl, _, _, hb1⟩
      go_wp2_with fail
      go_ret2
      exact ⟨by rw [e1.out, e2.out]; rfl, hb1⟩
end Go.Proofs.YtdbaacalfbbdiaaGreatDoor.Stamp
