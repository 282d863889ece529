/-
  A region's operation taken first, in one word.
  PACKAGE script: what is small: texts joined, numbers, words.
-/
import Derived.RowKit
import Derived.KernelRfl
import Derived.OrdersHeld
import Derived.Deep.RegionHeld3
import Derived.Below
import Derived.Test.YtdbaacalfbbdiaaGreatDoorScMath
import Derived.Lib.AtoiErrMem
import Derived.BigCall
import Derived.Lib.Hide
namespace Go.Proofs.YtdbaacalfbbdiaaGreatDoor
open Go.RowKit
section
variable {P : Program} {ops : Array Oper} {Q : Exit → Act → World → Prop} {md : Region.Mode} {S : World → Prop}
theorem tk (i : Nat) {oi : Oper} {v : Value} {fuel : Nat} {listed : Array Bool} {a a' : Act} {w : World} (h : S w → wpAnyH P md ops Q S fuel (listed.setIfInBounds i true) a' w) (hi : ops[i]? = some oi := by exact rfl)
    (hs : Region.noSelect ops = true := by kernel_rfl) (hf : Region.free md ops listed i = true := by kernel_rfl) (hr : (Region.ready md ops listed).contains i = true := by kernel_rfl)
    (hw : Region.wanted oi (yielded ops a.tmps) = true := by rfl) (hS : S w := by assumption)
    (hy : ∀ w, S w → (execOp a.eval oi).run P w = .ok (.value v) w := by intro w hSw; (try dsimp only at hSw); first | (go_simp; done) | (go_simp; with_reducible rfl))
    (hE : a.put oi.dst v = a' := by (try simp only [Act.put, List.setIfInBounds_toArray, List.set_cons_zero, List.set_cons_succ, List.getElem_toArray, List.getElem_cons_zero, List.getElem_cons_succ]); rfl)
    (hQ : ∀ c a w, Q (.panic c) (a.put oi.dst v) w → Q (.panic c) a w := by exact fun _ _ _ h => h) : wpAnyH P md ops Q S (fuel + 1) listed a w :=
  wpAnyH_take hi hs hf hr hQ (.inl ⟨hw, hy⟩) hS (by rw [hE]; exact h hS)
end
end Go.Proofs.YtdbaacalfbbdiaaGreatDoor
namespace Go.Proofs.YtdbaacalfbbdiaaGreatDoor.Sc
open Go.RowKit
set_option linter.unusedVariables false
set_option linter.unusedSimpArgs false
def bs (l : Bs) : ByteArray := ⟨l.toArray⟩
theorem bs_data (l : Bs) : (bs l).data.toList = l := by simp [bs]
theorem bs_of (s : ByteArray) : bs s.data.toList = s := by apply ByteArray.ext; simp [bs]
theorem bs_size (l : Bs) : (bs l).size = l.length := by simp [bs, ByteArray.size]
theorem bs_inj {a b : Bs} (h : bs a = bs b) : a = b := by rw [← bs_data a, h, bs_data]
theorem bs_time (t : Int) : Stamp.textS t = bs (timeL t) := (bs_of _).symm
/-- What the variables hold. -/
structure SV (w : World) : Prop where
  st : Stamp.LaidVars w
  mx : ∃ m, w.cell? ⟨1, 0, none⟩ = some (.int .i64 m)
  wd : ∀ (i : Nat) x, wordsL[i]? = some x → w.cell? ⟨0, i, none⟩ = some (.string (bs x))
theorem SV.below {w w' : World} (h : SV w) (hb : Below w.heap.size w w') : SV w' := by
  obtain ⟨h1, ⟨m, h2⟩, h3⟩ := h
  exact ⟨h1.below hb, ⟨m, (hb.cell (p := ⟨_, 0, none⟩) (Lib.lt_of_cell h2)).trans h2⟩, fun i x hx => (hb.cell (p := ⟨_, i, none⟩) (Lib.lt_of_cell (h3 i x hx))).trans (h3 i x hx)⟩
def RdStr (w : World) (v : Value) (xs : List Bs) : Prop := ∃ (g o c : Nat), v = .slice (some ⟨g, o, none⟩) xs.length c ∧ xs.length ≤ c ∧ g < w.heap.size ∧ ∀ (i : Nat) x, xs[i]? = some x → w.cell? ⟨g, o + i, none⟩ = some (.string (bs x))
theorem RdStr.below {w w' : World} {v : Value} {xs : List Bs} (h : RdStr w v xs) (hb : Below w.heap.size w w') : RdStr w' v xs := by
  obtain ⟨g, o, c, h1, h2, h3, h4⟩ := h
  exact ⟨g, o, c, h1, h2, Nat.lt_of_lt_of_le h3 hb.size, fun i x hx => (hb.cell (p := ⟨g, o + i, none⟩) h3).trans (h4 i x hx)⟩
theorem map_bs (xs : List Bs) : (xs.map bs).map (·.data.toList) = xs := by
  rw [List.map_map]
  conv => rhs; rw [← List.map_id xs]
  exact List.map_congr_left fun x _ => bs_data x
def joinV (sep : Bs) (xs : List Bs) : Bs := if [] ∈ xs then [] else Lib.join xs sep
set_option maxRecDepth 1000000 in
set_option maxHeartbeats 4000000 in
theorem join_any {w : World} {v : Value} (sep : Bs) {xs : List Bs} (hv : RdStr w v xs) (hl : xs.length ≤ 1000) (hs : (Lib.join xs sep).length ≤ 1000000) :
    Calls Tryz.prog 30 #[.string (bs sep), v] w fun e w' => e = .returned (.string (bs (joinV sep xs))) ∧ Below w.heap.size w w' := by
  obtain ⟨g, o, c, rfl, hc, hg, hcell⟩ := hv
  have h1 := Tryz.slices_Contains_string g o xs.length c (xs.map bs) ⟨#[]⟩ w (by simp) (by omega) (fun j hj => by
    have hj' : j < xs.length := by simpa using hj
    rw [hcell j _ (List.getElem?_eq_getElem hj')]
    simp [List.getD, hj'])
  have h2 := Tryz.strings_Join g o c (xs.map bs) (bs sep) w (fun j x hx => by
    rw [List.getElem?_map] at hx
    obtain ⟨y, hy, rfl⟩ := Option.map_eq_some_iff.1 hx
    exact hcell j y hy) hg (by simp; omega) (by simpa using hc) (by rw [map_bs, bs_data]; omega)
  rw [map_bs, bs_data, List.length_map] at h2
  have e2 : Lib.containsS ((xs.map bs).take xs.length) ⟨#[]⟩ = decide ([] ∈ xs) := by
    rw [Bool.eq_iff_iff, Lib.containsS_iff, decide_eq_true_eq, List.take_of_length_le (by simp), List.mem_map]
    constructor
    · rintro ⟨x, hx, hb⟩
      have : bs x = bs [] := hb
      rw [← bs_inj this]; exact hx
    · intro hx; exact ⟨[], hx, rfl⟩
  rw [e2] at h1
  have H1 := Lib.hid h1
  have H2 := Lib.hid h2
  generalize xs.length = n at *
  by_cases hE : [] ∈ xs
  · have HR := Lib.hid (show joinV sep xs = [] from if_pos hE)
    have HD := Lib.hid (decide_eq_true hE)
    clear h1 h2 hcell hs hE e2
    go_enter Tryz.func30, Tryz.ntmps30
    go_wp2_with (go_at_call 61; refine H1.out.mono ?_; rintro e w' ⟨rfl, rfl⟩; rw [HD.out])
    go_ret
    exact ⟨by rw [HR.out]; rfl, Below.refl _ _⟩
  · have HR := Lib.hid (show joinV sep xs = Lib.join xs sep from if_neg hE)
    have HD := Lib.hid (decide_eq_false hE)
    clear h1 h2 hcell hs hE e2
    go_enter Tryz.func30, Tryz.ntmps30
    go_wp2_with (first
      | (go_at_call 61; refine H1.out.mono ?_; rintro e w' ⟨rfl, rfl⟩; rw [HD.out])
      | (go_at_call 62; refine H2.out.mono ?_; rintro e w' ⟨rfl, hb⟩))
    go_ret
    exact ⟨by rw [HR.out]; rfl, hb⟩
theorem itoaV_any (n : Int) (h0 : -9223372036854775808 ≤ n) (h1 : n ≤ 9223372036854775807) (w : World) (htab : Stamp.Tab w) :
    Calls Tryz.prog 43 #[.int .i64 n] w fun e w' => e = .returned (.string (bs (Lib.itoa n))) ∧ Below w.heap.size w w' := by
  refine (Tryz.strconv_Itoa n h0 h1 w htab).mono ?_
  rintro e w' ⟨rfl, k, os, rfl⟩
  exact ⟨rfl, Lib.below_grow _ w (Nat.le_refl _) k os⟩
theorem fmtV_any (n : Int) (h0 : -9223372036854775808 ≤ n) (h1 : n ≤ 9223372036854775807) (w : World) (htab : Stamp.Tab w) :
    Calls Tryz.prog 85 #[.int .i64 n, .int .i64 10] w fun e w' => e = .returned (.string (bs (Lib.itoa n))) ∧ Below w.heap.size w w' := by
  refine (Tryz.strconv_FormatInt_10 n h0 h1 w htab).mono ?_
  rintro e w' ⟨rfl, k, os, rfl⟩
  exact ⟨rfl, Lib.below_grow _ w (Nat.le_refl _) k os⟩
def placeV (n : Int) : Bs := if FitN n then Lib.itoa n else []
def diffV (n : Int) : Bs := if -1000000 ≤ n ∧ n ≤ 1000000 then Lib.itoa n else []
set_option maxRecDepth 1000000 in
theorem scPlace_any (n : Int) {w : World} (hL : SV w) :
    Calls Tryz.prog 31 #[.int .i64 n] w fun e w' => e = .returned (.string (bs (placeV n))) ∧ Below w.heap.size w w' := by
  have HL := Lib.hid hL
  clear hL
  by_cases h0 : n < 0
  · have HR := Lib.hid (show placeV n = [] from if_neg (by unfold FitN; omega))
    go_enter Tryz.func31, Tryz.ntmps31
    go_wp2_with fail
    go_ret
    exact ⟨by rw [HR.out]; rfl, Below.refl _ _⟩
  · by_cases h1 : 64 ≤ n
    · have HR := Lib.hid (show placeV n = [] from if_neg (by unfold FitN; omega))
      go_enter Tryz.func31, Tryz.ntmps31
      go_wp2_with fail
      go_ret
      exact ⟨by rw [HR.out]; rfl, Below.refl _ _⟩
    · have HR := Lib.hid (show placeV n = Lib.itoa n from if_pos (by unfold FitN; omega))
      go_enter Tryz.func31, Tryz.ntmps31
      go_wp2_with (go_at_call 43; refine (itoaV_any n (by omega) (by omega) _ HL.out.st.tab).mono ?_; rintro e w' ⟨rfl, hb⟩)
      go_ret
      exact ⟨by rw [HR.out]; rfl, hb⟩
set_option maxRecDepth 1000000 in
theorem diff_any (n : Int) {w : World} (hL : SV w) :
    Calls Tryz.prog 64 #[.int .i64 n] w fun e w' => e = .returned (.string (bs (diffV n))) ∧ Below w.heap.size w w' := by
  have HL := Lib.hid hL
  clear hL
  by_cases h0 : n < -1000000
  · have HR := Lib.hid (show diffV n = [] from if_neg (by omega))
    go_enter Tryz.func64, Tryz.ntmps64
    go_wp2_with fail
    go_ret
    exact ⟨by rw [HR.out]; rfl, Below.refl _ _⟩
  · by_cases h1 : 1000000 < n
    · have HR := Lib.hid (show diffV n = [] from if_neg (by omega))
      go_enter Tryz.func64, Tryz.ntmps64
      go_wp2_with fail
      go_ret
      exact ⟨by rw [HR.out]; rfl, Below.refl _ _⟩
    · have HR := Lib.hid (show diffV n = Lib.itoa n from if_pos (by omega))
      go_enter Tryz.func64, Tryz.ntmps64
      go_wp2_with (go_at_call 85; refine (fmtV_any n (by omega) (by omega) _ HL.out.st.tab).mono ?_; rintro e w' ⟨rfl, hb⟩)
      go_ret
      exact ⟨by rw [HR.out]; rfl, hb⟩
set_option maxRecDepth 1000000 in
theorem wordOf_any (k : Int) {w : World} (hL : SV w) :
    Calls Tryz.prog 29 #[.int .i64 k] w fun e w' => e = .returned (.string (bs (wdL k))) ∧ Below w.heap.size w w' := by
  have HL := Lib.hid hL
  clear hL
  by_cases h0 : k < 0
  · have HR := Lib.hid (show wdL k = [] from if_pos (by omega))
    go_enter Tryz.func29, Tryz.ntmps29
    go_wp2_with fail
    go_ret
    exact ⟨by rw [HR.out]; rfl, Below.refl _ _⟩
  · by_cases h1 : 7 < k
    · have HR := Lib.hid (show wdL k = [] from if_pos (by omega))
      go_enter Tryz.func29, Tryz.ntmps29
      go_wp2_with fail
      go_ret
      exact ⟨by rw [HR.out]; rfl, Below.refl _ _⟩
    · obtain ⟨i, rfl⟩ : ∃ i : Nat, k = (i : Int) := ⟨k.toNat, by omega⟩
      have hi : i < wordsL.length := by show i < 8; omega
      have HR := Lib.hid (show wdL (i : Int) = wordsL[i] by
        unfold wdL
        rw [if_neg (by omega), Int.toNat_natCast]
        simp [List.getD, hi])
      have c0 := HL.out.wd i _ (List.getElem?_eq_getElem hi)
      generalize wordsL[i] = x at *
      have q0 : (0 : Int) ≤ (i : Int) := by omega
      have q1 : (i : Int) < 8 := by omega
      go_enter Tryz.func29, Tryz.ntmps29
      go_wp2_with fail
      go_ret
      exact ⟨by rw [HR.out]; rfl, Below.refl _ _⟩
theorem atoi_any (s : Bs) (hs : s.length ≤ 100000) {w : World} (hL : SV w) :
    Calls Tryz.prog 77 #[.string (bs s)] w fun e w' => (∃ x, e = .returned (.tuple #[.int .i64 (atoiV s), x])) ∧ Below w.heap.size w w' := by
  cases h : Lib.atoiAll s
  · rename_i v
    refine (Tryz.strconv_Atoi_ok (bs s) (by rw [bs_size]; omega) v (by rw [bs_data]; exact h) w).mono ?_
    rintro e w' ⟨rfl, hw⟩
    refine ⟨⟨_, by unfold atoiV; rw [h]⟩, ?_⟩
    rcases hw with rfl | ⟨t, rfl⟩
    · exact Below.refl _ _
    · exact Lib.bytesWorld_below w _ t
  · obtain ⟨te, pe, hv⟩ := hL.st.syn
    refine (Any.strconv_Atoi_syntax Tryz.laysC172 (bs s) (by rw [bs_size]; omega) (by rw [bs_data]; exact h) _ w hv (.inr ⟨te, pe, rfl⟩)).mono ?_
    rintro e w' ⟨N, rfl, _, _, hb⟩
    exact ⟨⟨_, by unfold atoiV; rw [h]⟩, hb⟩
  · obtain ⟨te, pe, hv⟩ := hL.st.rng
    refine (Tryz.strconv_Atoi_range (bs s) (by rw [bs_size]; omega) (by rw [bs_data]; exact h) _ w hv (.inr ⟨te, pe, rfl⟩)).mono ?_
    rintro e w' ⟨N, rfl, _, _, hb⟩
    exact ⟨⟨_, by unfold atoiV; rw [h, bs_data]⟩, hb⟩
set_option maxRecDepth 1000000 in
theorem number_any (s : Bs) (hs : s.length ≤ 100000) {w : World} (hL : SV w) :
    Calls Tryz.prog 56 #[.string (bs s)] w fun e w' => e = .returned (.int .i64 (atoiV s)) ∧ Below w.heap.size w w' := by
  have HA := Lib.hid (atoi_any s hs hL)
  clear hL
  go_enter Tryz.func56, Tryz.ntmps56
  go_wp2_with (go_at_call 77; refine HA.out.mono ?_; rintro e w' ⟨⟨x, rfl⟩, hb⟩)
  go_ret
  exact ⟨rfl, hb⟩
set_option maxRecDepth 1000000 in
theorem guessTime_any (s : Bs) (hs : s.length ≤ 100000) {w : World} (hL : SV w) :
    Calls Tryz.prog 57 #[.string (bs s)] w fun e w' => e = .returned (.int .u64 (timeV s)) ∧ Below w.heap.size w w' := by
  have HA := Lib.hid (Stamp.parse_any (bs s) (by rw [bs_size]; omega) w hL.st)
  have HV := Lib.hid (show Stamp.pv (bs s) = timeV s from rfl)
  clear hL
  go_enter Tryz.func57, Tryz.ntmps57
  go_wp2_with (go_at_call 78; refine HA.out.mono ?_; rintro e w' ⟨rfl, hb⟩)
  go_ret
  exact ⟨by rw [HV.out]; rfl, hb⟩
theorem cutS_any (s : Bs) (c : UInt8) (hs : s.length ≤ 100000) {w : World} (hL : SV w) :
    Calls Tryz.prog 54 #[.string (bs s), .string (bs [c])] w fun e w' => (∃ b, e = .returned (.tuple #[.string (bs (Lib.cut s [c]).1), .string (bs (Lib.cut s [c]).2.1), .bool b])) ∧ Below w.heap.size w w' := by
  obtain ⟨m, hm⟩ := hL.mx
  refine (Tryz.strings_Cut (bs s) (bs [c]) m w (by rw [bs_size]; omega) hm).mono ?_
  rintro e w' ⟨rfl, n, rfl⟩
  rw [bs_data, bs_data]
  exact ⟨⟨_, rfl⟩, below_drewN (Below.refl _ _) n⟩
theorem cut_len (s : Bs) (c : UInt8) : (Lib.cut s [c]).1.length ≤ s.length ∧ (Lib.cut s [c]).2.1.length ≤ s.length := by
  unfold Lib.cut
  split
  · simp; omega
  · simp
set_option maxRecDepth 1000000 in
theorem three_any (s : Bs) (hs : s.length ≤ 100000) {w : World} (hL : SV w) :
    Calls Tryz.prog 59 #[.string (bs s)] w fun e w' => e = .returned (.tuple #[.string (bs (Lib.cut s [47]).1), .string (bs (Lib.cut (Lib.cut s [47]).2.1 [47]).1), .string (bs (Lib.cut (Lib.cut s [47]).2.1 [47]).2.1)]) ∧ Below w.heap.size w w' := by
  have H1 := Lib.hid (cutS_any s 47 hs hL)
  have H2 := Lib.hid (fun w' (hb : Below w.heap.size w w') => cutS_any (Lib.cut s [47]).2.1 47 (by have := (cut_len s 47).2; omega) (hL.below hb))
  clear hL
  generalize (Lib.cut s [47]).1 = x1 at *
  generalize (Lib.cut s [47]).2.1 = x2 at *
  generalize (Lib.cut x2 [47]).1 = y1 at *
  generalize (Lib.cut x2 [47]).2.1 = y2 at *
  go_enter Tryz.func59, Tryz.ntmps59
  go_upto_region 2 with (go_at_call 54; refine H1.out.mono ?_; rintro e w1 ⟨⟨b, rfl⟩, hb1⟩)
  have HB1 := Lib.hid hb1
  clear hb1
  go_wp2_with (go_at_call 54; refine (H2.out _ HB1.out).mono ?_; rintro e w2 ⟨⟨b2, rfl⟩, hb2⟩)
  go_ret3
  exact ⟨rfl, HB1.out.trans (hb2.mono HB1.out.size)⟩
end Go.Proofs.YtdbaacalfbbdiaaGreatDoor.Sc
