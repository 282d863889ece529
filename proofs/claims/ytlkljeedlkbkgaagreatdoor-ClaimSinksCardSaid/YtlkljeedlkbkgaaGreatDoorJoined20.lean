/-
  YtlkljeedlkbkgaaGreatDoorFaultWord
  YtlkljeedlkbkgaaGreatDoorStampText
  YtlkljeedlkbkgaaGreatDoorStampParse
  YtlkljeedlkbkgaaGreatDoorFaultTextKit
  YtlkljeedlkbkgaaGreatDoorFaultText
  YtlkljeedlkbkgaaGreatDoorFaultAt
  YtlkljeedlkbkgaaGreatDoorGTold
-/
import Derived.Test.YtlkljeedlkbkgaaGreatDoorJoined19
import Derived.Test.YtlkljeedlkbkgaaGreatDoorJoined10
import Derived.Test.YtlkljeedlkbkgaaGreatDoorJoined5
import Derived.Lib.ItoaMem
import Derived.Lib.AppendIntMem
import Derived.Lib.Walk
import Derived.BigCall
import Derived.BigGuard
import Derived.Deep.RegionWith
import Derived.Deep.QuietTactic
import Derived.BigQuiet
import Derived.Lib.AtoiErrMem
import Derived.Lib.ParseIntBMem
import Derived.Test.YtlkljeedlkbkgaaGreatDoorGFix
namespace Go.Proofs.YtlkljeedlkbkgaaGreatDoor.Fault
open Go.RowKit
set_option linter.unusedVariables false
def wordL : List ByteArray := [⟨#[111, 107]⟩, ⟨#[97, 114, 103, 117, 109, 101, 110, 116]⟩, ⟨#[112, 111, 114, 116]⟩, ⟨#[99, 121, 99, 108, 101]⟩, ⟨#[109, 97, 110, 121]⟩, ⟨#[117, 110, 106, 117, 115, 116, 105, 102, 105, 101, 100]⟩, ⟨#[98, 97, 99, 107]⟩, ⟨#[115, 116, 97, 108, 101]⟩, ⟨#[99, 108, 111, 115, 101, 100]⟩, ⟨#[102, 117, 108, 108]⟩, ⟨#[111, 118, 101, 114]⟩, ⟨#[115, 116, 97, 116, 101]⟩, ⟨#[102, 111, 114, 109]⟩, ⟨#[119, 111, 114, 100]⟩, ⟨#[110, 111, 110, 101]⟩]
def wordS (k : Int) : ByteArray := wordL.getD k.toNat ⟨#[]⟩
set_option maxRecDepth 100000 in
set_option maxHeartbeats 2000000 in
theorem error_any (k : Int) (h0 : 0 ≤ k) (h1 : k ≤ 14) (w : World) : Calls Tryz.prog 71 #[.int .i64 k] w fun e w' => e = .returned (.string (wordS k)) ∧ Below w.heap.size w w' := by
  have hk : k = 0 ∨ k = 1 ∨ k = 2 ∨ k = 3 ∨ k = 4 ∨ k = 5 ∨ k = 6 ∨ k = 7 ∨ k = 8 ∨ k = 9 ∨ k = 10 ∨ k = 11 ∨ k = 12 ∨ k = 13 ∨ k = 14 := by omega
  clear h0 h1
  rcases hk with rfl | rfl | rfl | rfl | rfl | rfl | rfl | rfl | rfl | rfl | rfl | rfl | rfl | rfl | rfl
  all_goals
    go_enter Tryz.func71, Tryz.ntmps71
    go_wp2
    go_ret
    exact ⟨rfl, (Below.refl _ _).alloc (Nat.le_refl _) _⟩
end Go.Proofs.YtlkljeedlkbkgaaGreatDoor.Fault
namespace Go.Proofs.YtlkljeedlkbkgaaGreatDoor.Stamp
open Go.RowKit Go.Sort Go.Lib
set_option linter.unusedVariables false
def Tab (w : World) : Prop := Lib.TabIs Tryz.prog w "internal/strconv.uint64pow10" .u64 Lib.pow10Tab
def numS (n : Int) : ByteArray := ⟨(Lib.decDigits n.toNat).toArray⟩
def neverS : ByteArray := { data := #[110, 101, 118, 101, 114] }
def textS (n : Int) : ByteArray := if n = 18446744073709551615 then neverS else numS n
theorem nDigits_le (u : Nat) (hu : u < 18446744073709551616) : Lib.nDigits u ≤ 20 := by
  by_cases h : 1 ≤ u
  · have := Lib.numDigits_eq u h hu; split at this <;> omega
  · obtain rfl : u = 0 := by omega
    rw [Lib.nDigits_small (by omega)]; omega
theorem numS_size {n : Int} (h : U n) : (numS n).size ≤ 20 := by
  unfold U at h
  have e : (numS n).size = Lib.nDigits n.toNat := by
    show (Lib.decDigits n.toNat).toArray.size = _
    rw [List.size_toArray, Lib.decDigits_length]
  rw [e]
  exact nDigits_le _ (by omega)
def digs : ByteArray := { data := #[48, 49, 50, 51, 52, 53, 54, 55, 56, 57] }
theorem dig_at (d : Nat) (h : d < 10) : digs.extract d (d + 1) = ⟨#[UInt8.ofNat (48 + d)]⟩ := by
  rcases d with _ | _ | _ | _ | _ | _ | _ | _ | _ | _ | d
  all_goals first | decide | rfl | omega
theorem numS_small {n : Int} (h0 : 0 ≤ n) (h : n < 10) : numS n = digs.extract n.toNat (n + 1).toNat := by
  rw [show (n + 1).toNat = n.toNat + 1 by omega, dig_at _ (by omega)]
  unfold numS
  rw [Lib.decDigits, dif_pos (by omega)]
theorem numS_big {n : Int} (h0 : 0 ≤ n) (h : ¬ n < 10) : numS n = numS (n / 10) ++ digs.extract (n % 10).toNat (n % 10 + 1).toNat := by
  rw [show (n % 10 + 1).toNat = (n % 10).toNat + 1 by omega, dig_at _ (by omega)]
  unfold numS
  rw [Lib.decDigits, dif_neg (by omega), show (n / 10).toNat = n.toNat / 10 by omega, show (n % 10).toNat = n.toNat % 10 by omega]
  apply ByteArray.ext
  simp
theorem refNum_any (k : Nat) : ∀ (n : Int) (w : World), n ≤ k → U n →
    Calls Tryz.prog 118 #[.int .u64 n] w fun e w' => e = .returned (.string (numS n)) ∧ ∃ m, w' = w.drewN m := by
  induction k with
  | zero =>
    intro n w hk hn
    obtain ⟨hn1, hn2⟩ := hn
    have hlt : n < 10 := by omega
    have HR := Lib.hid (numS_small hn1 hlt)
    go_enter Tryz.func118, Tryz.ntmps118
    go_wp2_with fail
    go_ret
    exact ⟨by rw [HR.out]; rfl, 0, rfl⟩
  | succ k ih =>
    intro n w hk hn
    have hnu := hn
    obtain ⟨hn1, hn2⟩ := hn
    by_cases hlt : n < 10
    · have HR := Lib.hid (numS_small hn1 hlt)
      go_enter Tryz.func118, Tryz.ntmps118
      go_wp2_with fail
      go_ret
      exact ⟨by rw [HR.out]; rfl, 0, rfl⟩
    · have hq : U (n / 10) := by unfold U at *; omega
      have hqk : n / 10 ≤ k := by omega
      have hsz := numS_size hq
      have HR := Lib.hid (numS_big hn1 hlt)
      have IH := Lib.hid ih
      clear ih
      go_enter Tryz.func118, Tryz.ntmps118
      go_wp2_with fail
      go_quiet ((go_at_call 118; exact Calls.quiet_of (IH.out _ _ hqk hq)))
      go_wp2_with fail
      go_ret
      exact ⟨by rw [HR.out]; rfl, _, rfl⟩
end Go.Proofs.YtlkljeedlkbkgaaGreatDoor.Stamp
namespace Go.Proofs.YtlkljeedlkbkgaaGreatDoor.Stamp
open Go.RowKit Go.Sort Go.Lib
set_option linter.unusedVariables false
theorem tab_below {w w' : World} (h : Tab w) (hb : Below w.heap.size w w') : Tab w' :=
  var?_below hb (show Tryz.prog.globalNamed "internal/strconv.uint64pow10" = some 1 by kernel_rfl) (by
    unfold Tab Lib.TabIs at h
    have := World.var?_cell (show Tryz.prog.globalNamed "internal/strconv.uint64pow10" = some 1 by kernel_rfl) h 0
    exact Lib.lt_of_cell (v := .int .u64 1) (by simpa [Lib.pow10Tab] using this)) h
def parseE (s : ByteArray) : Option Nat :=
  if s = neverS then some 18446744073709551615
  else match Lib.parseUintB 64 s.data.toList with
    | .ok u => if textS u = s then some u else none
    | _ => none
def pv (s : ByteArray) : Int := ((parseE s).getD 0 : Nat)
def pe (s : ByteArray) : Int := if (parseE s).isSome then 0 else 13
end Go.Proofs.YtlkljeedlkbkgaaGreatDoor.Stamp
namespace Go.Proofs.YtlkljeedlkbkgaaGreatDoor.Fault
open Go.RowKit
set_option linter.unusedVariables false
def Has (B b : Nat) (l : List UInt8) (w : World) : Prop := Lib.IsBuilder 132 5 B b (Lib.byteCells l) w
theorem own_below {w w' : World} {B n : Nat} {v : Value} {xs : List Value} (h : w.ownsRow B 5 1 v n xs) (hb : Below w.heap.size w w') : w'.ownsRow B 5 1 v n xs := by
  refine ⟨h.1, ?_⟩
  rcases h.2 with h0 | ⟨g, cap, cur, h1, h2, h3, h4⟩
  · exact .inl h0
  · refine .inr ⟨g, cap, cur, h1, h2, ?_, h4⟩
    have hg : g < w.heap.size := by
      rcases Nat.lt_or_ge g w.heap.size with h5 | h5
      · exact h5
      · rw [Array.getElem?_eq_none h5] at h3; cases h3
    rw [hb.block g hg]; exact h3
theorem at_below {w w' : World} {B b : Nat} {p : Value} {bs : List Value} (h : Lib.BuilderAt 132 5 B b p bs w) (hb : Below w.heap.size w w') : Lib.BuilderAt 132 5 B b p bs w' := by
  have hlt := h.lt
  obtain ⟨h1, v, h2, h3, h4⟩ := h
  exact ⟨h1, v, by rw [hb.block b hlt]; exact h2, own_below h3 hb, h4⟩
theorem Has.below {w w' : World} {B b : Nat} {l : List UInt8} (h : Has B b l w) (hb : Below w.heap.size w w') : Has B b l w' := by
  rcases h with h | h
  · exact .inl (at_below h hb)
  · exact .inr (at_below h hb)
theorem has_new (w : World) : Has w.heap.size w.heap.size [] (w.alloc (.cells #[.pointer none, .slice none 0 0] 132)) :=
  .inl ⟨Nat.le_refl _, .slice none 0 0, by show (w.heap.push _)[w.heap.size]? = _; simp, World.ownsRow_nil _ _ _ _, by intro h; cases h⟩
theorem write_any (B b : Nat) (l : List UInt8) (s : ByteArray) (w : World) (h : Has B b l w) (hlen : l.length + s.size ≤ 140737488355328) (hBw : B ≤ w.heap.size) :
    Calls Tryz.prog 69 #[.pointer (some ⟨b, 0, none⟩), .string s] w fun e w' => e = .returned (.tuple #[.int .i64 s.size, .nilIface]) ∧ Has B b (l ++ s.data.toList) w' ∧ Below B w w' ∧ Bld.Keeps b w w' := by
  refine (Bld.writeString B b _ s w h (by rw [Lib.byteCells_length]; exact hlen) hBw).mono ?_
  rintro e w' ⟨rfl, h1, h2, h3⟩
  refine ⟨rfl, .inr ?_, h2, h3⟩
  have e1 : Lib.byteCells (l ++ s.data.toList) = Lib.byteCells l ++ Lib.strCells s := by unfold Lib.byteCells Lib.strCells; rw [List.map_append]
  rw [e1]; exact h1
theorem itoa_any (n : Int) (h0 : -9223372036854775808 ≤ n) (h1 : n ≤ 9223372036854775807) (w : World) (htab : Stamp.Tab w) :
    Calls Tryz.prog 70 #[.int .i64 n] w fun e w' => e = .returned (.string ⟨(Lib.itoa n).toArray⟩) ∧ Below w.heap.size w w' := by
  refine (Tryz.strconv_Itoa n h0 h1 w htab).mono ?_
  rintro e w' ⟨rfl, k, os, rfl⟩
  exact ⟨rfl, Lib.below_grow _ w (Nat.le_refl _) k os⟩
theorem itoa_length (n : Int) (h0 : -9223372036854775808 ≤ n) (h1 : n ≤ 9223372036854775807) : (Lib.itoa n).length ≤ 21 := by
  unfold Lib.itoa
  split
  · rw [List.length_cons, Lib.decDigits_length]
    have := Stamp.nDigits_le n.natAbs (by omega); omega
  · rw [Lib.decDigits_length]
    have := Stamp.nDigits_le n.toNat (by omega); omega
def placeL (x : Pl) : List UInt8 := x.1.data.toList ++ [32] ++ Lib.itoa x.2 ++ [58, 32]
def placesL (l : List Pl) : List UInt8 := l.flatMap placeL
def textL (l : List Pl) (k : Int) : List UInt8 := placesL l ++ (wordS k).data.toList
def Small (x : Pl) : Prop := x.1.size ≤ 20 ∧ -9223372036854775808 ≤ x.2 ∧ x.2 ≤ 9223372036854775807
theorem placeL_length {x : Pl} (h : Small x) : (placeL x).length ≤ 44 := by
  obtain ⟨h1, h2, h3⟩ := h
  unfold placeL
  have := itoa_length x.2 h2 h3
  have e : x.1.data.toList.length = x.1.size := rfl
  simp only [List.length_append, List.length_cons, List.length_nil, e]
  omega
theorem placesL_length : ∀ (l : List Pl), (∀ x ∈ l, Small x) → (placesL l).length ≤ 44 * l.length
  | [], _ => by simp [placesL]
  | x :: r, h => by
    have h1 := placeL_length (h x (List.mem_cons_self ..))
    have h2 := placesL_length r (fun y hy => h y (List.mem_cons_of_mem _ hy))
    unfold placesL at *
    rw [List.flatMap_cons, List.length_append, List.length_cons]
    omega
theorem placesL_snoc (l : List Pl) (x : Pl) : placesL (l ++ [x]) = placesL l ++ x.1.data.toList ++ [32] ++ Lib.itoa x.2 ++ [58, 32] := by
  unfold placesL; rw [List.flatMap_append]; simp [placeL]
theorem wordS_size (k : Int) (h0 : 0 ≤ k) (h1 : k ≤ 14) : (wordS k).size ≤ 11 := by
  have hk : k = 0 ∨ k = 1 ∨ k = 2 ∨ k = 3 ∨ k = 4 ∨ k = 5 ∨ k = 6 ∨ k = 7 ∨ k = 8 ∨ k = 9 ∨ k = 10 ∨ k = 11 ∨ k = 12 ∨ k = 13 ∨ k = 14 := by omega
  rcases hk with rfl | rfl | rfl | rfl | rfl | rfl | rfl | rfl | rfl | rfl | rfl | rfl | rfl | rfl | rfl <;> decide
end Go.Proofs.YtlkljeedlkbkgaaGreatDoor.Fault
namespace Go.Proofs.YtlkljeedlkbkgaaGreatDoor.Fault
open Go.RowKit
set_option linter.unusedVariables false
set_option linter.unusedSimpArgs false
theorem plCells_at (l : List Pl) (i : Nat) (s : ByteArray) (n : Int) (h : l[i]? = some (s, n)) : (plCells l)[i * 2]? = some (.string s) ∧ (plCells l)[i * 2 + 1]? = some (.int .i64 n) := by
  induction l generalizing i with
  | nil => simp at h
  | cons x r ih =>
    cases i with
    | zero => simp at h; subst h; exact ⟨rfl, rfl⟩
    | succ i =>
      have h' : r[i]? = some (s, n) := by simpa using h
      obtain ⟨a, b⟩ := ih i h'
      have e : plCells (x :: r) = .string x.1 :: .int .i64 x.2 :: plCells r := rfl
      rw [e, show (i + 1) * 2 = i * 2 + 2 by omega, show i * 2 + 2 + 1 = (i * 2 + 1) + 2 by omega]
      exact ⟨by simpa using a, by simpa using b⟩
theorem keep_pl {b k : Nat} {w w' : World} {cs : Array Value} (h : Bld.Keeps b w w') (hk : k ≠ b) (hw : w.heap[k]? = some (.cells cs 136 (0, 0))) : w'.heap[k]? = some (.cells cs 136 (0, 0)) :=
  h.2 k _ hk hw (fun cur fz e => by injection e with _ h2 _; revert h2; decide)
theorem heap_below {k : Nat} {w w' : World} {o : Obj} (h : Below w.heap.size w w') (hw : w.heap[k]? = some o) : w'.heap[k]? = some o := by
  have hk : k < w.heap.size := by
    rcases Nat.lt_or_ge k w.heap.size with h1 | h1
    · exact h1
    · rw [Array.getElem?_eq_none h1] at hw; cases hw
  rw [h.block k hk]; exact hw
theorem cur_at {cur : Array Value} {l : List Pl} (h : cur.toList.take (l.length * 2) = plCells l) {j : Nat} {v : Value} (hv : (plCells l)[j]? = some v) (hj : j < l.length * 2) : cur[j]? = some v := by
  rw [← h, List.getElem?_take_of_lt hj] at hv
  rw [← Array.getElem?_toList]; exact hv
set_option maxRecDepth 1000000 in
set_option maxHeartbeats 4000000 in
theorem text_chain {w : World} {E b : Value} {l : List Pl} (kk : Int) (hb : IsBase b) (hch : Chain w E l b) (hk0 : 0 ≤ kk) (hk1 : kk ≤ 14)
    (hkind : ∀ W, Below w.heap.size w W → Calls Tryz.prog 37 #[E] W fun e w' => e = .returned (.int .i64 kk) ∧ Below W.heap.size W w')
    (hl : l.length ≤ 12) (hs : ∀ x ∈ l, Small x) (htab : Stamp.Tab w) :
    Calls Tryz.prog 29 #[E] w fun e w' => e = .returned (.string ⟨(textL l kk).toArray⟩) ∧ Below w.heap.size w w' := by
  obtain ⟨u, x, rfl⟩ := ne_nil hb hch
  have hb1 : Below w.heap.size w (w.alloc (.cells #[.pointer none, .slice none 0 0] 132)) := (Below.refl _ _).alloc (Nat.le_refl _) _
  have HP := Lib.hid (path_any (w := w.alloc (.cells #[.pointer none, .slice none 0 0] 132)) hb (hch.below hb1) (by omega))
  have HH := Lib.hid (has_new w)
  have HK := Lib.hid hkind
  have HT := Lib.hid htab
  have HS := Lib.hid hs
  clear hch hkind htab hs hb
  go_enter Tryz.func29, Tryz.ntmps29
  go_wp2_with fail
  go_at_call 68
  refine HP.out.mono ?_
  rintro e w1 ⟨v, rfl, hown, hb2⟩
  have hh1 := HH.out.below hb2
  have hbw := hb1.trans (hb2.mono hb1.size)
  clear hb1
  have hgeq : w.heap.size + 1 = (w.alloc (.cells #[.pointer none, .slice none 0 0] 132)).heap.size := by simp
  rcases hown.2 with ⟨rfl, h0⟩ | ⟨g, cap, cur, rfl, hBg, hg, hle, hcap, hsz, hcur⟩
  · have hnil : l = [] := List.eq_nil_of_length_eq_zero h0
    have HN := Lib.hid hnil
    clear hown h0 hnil hb2 hgeq
    go_wp2_with fail
    refine wp_loop_rounds 1 ?_
    rw [rounds_succ]
    have hz : (placesL l) = [] := by rw [HN.out]; rfl
    have hh2 : Has w.heap.size w.heap.size (placesL l) w1 := by rw [hz]; exact hh1
    clear hz hh1
    have HE := Lib.hid hh2
    have HW := Lib.hid hbw
    go_wp2_with fail
    go_at_call 37
    refine (HK.out _ HW.out).mono ?_
    rintro e w2 ⟨rfl, hb2⟩
    have HE2 := Lib.hid (HE.out.below hb2)
    have HW2 := Lib.hid (HW.out.trans (hb2.mono HW.out.size))
    clear hb2
    go_wp2_with fail
    go_at_call 71
    refine (error_any kk hk0 hk1 _).mono ?_
    rintro e w3 ⟨rfl, hb3⟩
    have HE3 := Lib.hid (HE2.out.below hb3)
    have HW3 := Lib.hid (HW2.out.trans (hb3.mono HW2.out.size))
    clear hb3
    go_wp2_with fail
    go_at_call 69
    refine (write_any w.heap.size w.heap.size _ (wordS kk) _ HE3.out (by have h1 := placesL_length l HS.out; have h2 := wordS_size kk hk0 hk1; omega) HW3.out.size).mono ?_
    rintro e w4 ⟨rfl, hh4, hb4, _⟩
    have HE4 := Lib.hid hh4
    have HW4 := Lib.hid (HW3.out.trans hb4)
    clear hh4 hb4
    go_wp2_with fail
    go_at_call 72
    refine (Tryz.Builder_String_any w.heap.size w.heap.size _ _ HE4.out HW4.out.size).mono ?_
    rintro e w5 ⟨rfl, hb5⟩
    go_wp2_with fail
    go_ret
    exact ⟨rfl, HW4.out.trans hb5⟩
  · rw [← hgeq] at hBg
    have HCUR := Lib.hid hcur
    have HG := Lib.hid hg
    have HH1 := Lib.hid hh1
    have hl1 : l.length ≤ cap := hle
    clear hown hh1 hb2 hcur hg hgeq hsz
    go_wp2_with fail
    go_loopg [9] l.length (fun k t wr => ∃ i, i + k = l.length ∧ t = .int .i64 i ∧ Has w.heap.size w.heap.size (placesL (l.take i)) wr ∧ Below w.heap.size w wr ∧ wr.heap[g]? = some (.cells cur 136 (0, 0)))
    case atStart => exact ⟨0, by omega, rfl, HH1.out, hbw, HG.out⟩
    case round =>
      obtain ⟨i, hik, rfl, hhr, hbr, hgr⟩ := hrel
      have HHR := Lib.hid hhr
      have HGR := Lib.hid hgr
      have HIK := Lib.hid hik
      clear hhr hgr hik hbw
      by_cases hi : i < l.length
      · obtain ⟨s, n, hx⟩ : ∃ s n, l[i]? = some (s, n) := ⟨_, _, List.getElem?_eq_getElem hi⟩
        have HSM := Lib.hid (HS.out (s, n) (List.mem_of_getElem? hx))
        have c0 : wr.cell? ⟨g, i * 2, none⟩ = some (.string s) := by rw [Lib.cell_of_heap HGR.out]; exact cur_at HCUR.out (plCells_at l i s n hx).1 (by omega)
        have c1 : wr.cell? ⟨g, i * 2 + 1, none⟩ = some (.int .i64 n) := by rw [Lib.cell_of_heap HGR.out]; exact cur_at HCUR.out (plCells_at l i s n hx).2 (by omega)
        have HX := Lib.hid hx
        have HI := Lib.hid (And.intro hi hl)
        clear hx
        have hgb : g ≠ w.heap.size := by omega
        have hpb : wr.heap.size ≠ w.heap.size := by rcases HHR.out with h | h <;> (have := h.lt; omega)
        have hbA : Below wr.heap.size wr (wr.alloc (.cells #[.string s, .int .i64 n] 136)) := (Below.refl _ _).alloc (Nat.le_refl _) _
        have HH0 := Lib.hid (HHR.out.below hbA)
        have HW0 := Lib.hid (hbr.trans (hbA.mono hbr.size))
        have HG0 := Lib.hid (heap_below hbA HGR.out)
        have HP0 := Lib.hid (show (wr.alloc (.cells #[.string s, .int .i64 n] 136)).heap[wr.heap.size]? = some (.cells #[.string s, .int .i64 n] 136 (0, 0)) by show (wr.heap.push _)[wr.heap.size]? = _; simp)
        clear hbA hbr
        go_wp2_with fail
        go_at_call 69
        refine (write_any w.heap.size w.heap.size _ s _ HH0.out (by have hI := HI.out; have h1 := placesL_length (l.take i) (fun x hx => HS.out x (List.mem_of_mem_take hx)); have h2 := HSM.out.1; have h3 := itoa_length n HSM.out.2.1 HSM.out.2.2; have h4 : (l.take i).length ≤ i := List.length_take_le _ _; have e1 : s.data.toList.length = s.size := rfl; have e2 : ({ data := #[32] } : ByteArray).size = 1 := rfl; have e3 : ({ data := #[58, 32] } : ByteArray).size = 2 := rfl; have e4 : (⟨(Lib.itoa n).toArray⟩ : ByteArray).size = (Lib.itoa n).length := (List.size_toArray ..); (try simp only [List.length_append, List.length_cons, List.length_nil, e1, e2, e3, e4]); (try simp only at h2); omega) HW0.out.size).mono ?_
        rintro e wa ⟨rfl, hha, hba, hka⟩
        have HHa := Lib.hid hha
        have HWa := Lib.hid (HW0.out.trans hba)
        have HGa := Lib.hid (keep_pl hka hgb HG0.out)
        have HPa := Lib.hid (keep_pl hka hpb HP0.out)
        clear hha hba hka
        go_wp2_with fail
        go_at_call 69
        refine (write_any w.heap.size w.heap.size _ { data := #[32] } _ HHa.out (by have hI := HI.out; have h1 := placesL_length (l.take i) (fun x hx => HS.out x (List.mem_of_mem_take hx)); have h2 := HSM.out.1; have h3 := itoa_length n HSM.out.2.1 HSM.out.2.2; have h4 : (l.take i).length ≤ i := List.length_take_le _ _; have e1 : s.data.toList.length = s.size := rfl; have e2 : ({ data := #[32] } : ByteArray).size = 1 := rfl; have e3 : ({ data := #[58, 32] } : ByteArray).size = 2 := rfl; have e4 : (⟨(Lib.itoa n).toArray⟩ : ByteArray).size = (Lib.itoa n).length := (List.size_toArray ..); (try simp only [List.length_append, List.length_cons, List.length_nil, e1, e2, e3, e4]); (try simp only at h2); omega) HWa.out.size).mono ?_
        rintro e wb ⟨rfl, hhb, hbb, hkb⟩
        have HHb := Lib.hid hhb
        have HWb := Lib.hid (HWa.out.trans hbb)
        have HGb := Lib.hid (keep_pl hkb hgb HGa.out)
        have HPb := Lib.hid (keep_pl hkb hpb HPa.out)
        clear hhb hbb hkb
        have hc1 : wb.cell? ⟨wr.heap.size, 1, none⟩ = some (.int .i64 n) := by rw [Lib.cell_of_heap HPb.out]; rfl
        go_wp2_with fail
        go_at_call 70
        refine (itoa_any n HSM.out.2.1 HSM.out.2.2 _ (Stamp.tab_below HT.out HWb.out)).mono ?_
        rintro e wc ⟨rfl, hbc⟩
        have HHc := Lib.hid (HHb.out.below hbc)
        have HWc := Lib.hid (HWb.out.trans (hbc.mono HWb.out.size))
        have HGc := Lib.hid (heap_below hbc HGb.out)
        have HPc := Lib.hid (heap_below hbc HPb.out)
        clear hbc hc1
        go_wp2_with fail
        go_at_call 69
        refine (write_any w.heap.size w.heap.size _ ⟨(Lib.itoa n).toArray⟩ _ HHc.out (by have hI := HI.out; have h1 := placesL_length (l.take i) (fun x hx => HS.out x (List.mem_of_mem_take hx)); have h2 := HSM.out.1; have h3 := itoa_length n HSM.out.2.1 HSM.out.2.2; have h4 : (l.take i).length ≤ i := List.length_take_le _ _; have e1 : s.data.toList.length = s.size := rfl; have e2 : ({ data := #[32] } : ByteArray).size = 1 := rfl; have e3 : ({ data := #[58, 32] } : ByteArray).size = 2 := rfl; have e4 : (⟨(Lib.itoa n).toArray⟩ : ByteArray).size = (Lib.itoa n).length := (List.size_toArray ..); (try simp only [List.length_append, List.length_cons, List.length_nil, e1, e2, e3, e4]); (try simp only at h2); omega) HWc.out.size).mono ?_
        rintro e wd ⟨rfl, hhd, hbd, hkd⟩
        have HHd := Lib.hid hhd
        have HWd := Lib.hid (HWc.out.trans hbd)
        have HGd := Lib.hid (keep_pl hkd hgb HGc.out)
        have HPd := Lib.hid (keep_pl hkd hpb HPc.out)
        clear hhd hbd hkd
        go_wp2_with fail
        go_at_call 69
        refine (write_any w.heap.size w.heap.size _ { data := #[58, 32] } _ HHd.out (by have hI := HI.out; have h1 := placesL_length (l.take i) (fun x hx => HS.out x (List.mem_of_mem_take hx)); have h2 := HSM.out.1; have h3 := itoa_length n HSM.out.2.1 HSM.out.2.2; have h4 : (l.take i).length ≤ i := List.length_take_le _ _; have e1 : s.data.toList.length = s.size := rfl; have e2 : ({ data := #[32] } : ByteArray).size = 1 := rfl; have e3 : ({ data := #[58, 32] } : ByteArray).size = 2 := rfl; have e4 : (⟨(Lib.itoa n).toArray⟩ : ByteArray).size = (Lib.itoa n).length := (List.size_toArray ..); (try simp only [List.length_append, List.length_cons, List.length_nil, e1, e2, e3, e4]); (try simp only at h2); omega) HWd.out.size).mono ?_
        rintro e we ⟨rfl, hhf, hbf, hkf⟩
        have HHf := Lib.hid hhf
        have HWf := Lib.hid (HWd.out.trans hbf)
        have HGf := Lib.hid (keep_pl hkf hgb HGd.out)
        have HPf := Lib.hid (keep_pl hkf hpb HPd.out)
        clear hhf hbf hkf
        go_wp2_with fail
        go_roundg (gk - 1)
        case measure => have := HIK.out; omega
        case rel =>
          refine ⟨i + 1, by have := HIK.out; omega, by go_num, ?_, HWf.out, HGf.out⟩
          have h := HHf.out
          have e1 : l.take (i + 1) = l.take i ++ [(s, n)] := by rw [List.take_add_one, HX.out]; rfl
          rw [e1, placesL_snoc]
          exact h
      · have hin : i = l.length := by have := HIK.out; omega
        have hh2 : Has w.heap.size w.heap.size (placesL l) wr := by have h := HHR.out; rw [hin, List.take_length] at h; exact h
        clear hin HHR HIK
        have HE := Lib.hid hh2
        have HW := Lib.hid hbr
        go_wp2_with fail
        go_at_call 37
        refine (HK.out _ HW.out).mono ?_
        rintro e w2 ⟨rfl, hb2⟩
        have HE2 := Lib.hid (HE.out.below hb2)
        have HW2 := Lib.hid (HW.out.trans (hb2.mono HW.out.size))
        clear hb2
        go_wp2_with fail
        go_at_call 71
        refine (error_any kk hk0 hk1 _).mono ?_
        rintro e w3 ⟨rfl, hb3⟩
        have HE3 := Lib.hid (HE2.out.below hb3)
        have HW3 := Lib.hid (HW2.out.trans (hb3.mono HW2.out.size))
        clear hb3
        go_wp2_with fail
        go_at_call 69
        refine (write_any w.heap.size w.heap.size _ (wordS kk) _ HE3.out (by have h1 := placesL_length l HS.out; have h2 := wordS_size kk hk0 hk1; omega) HW3.out.size).mono ?_
        rintro e w4 ⟨rfl, hh4, hb4, _⟩
        have HE4 := Lib.hid hh4
        have HW4 := Lib.hid (HW3.out.trans hb4)
        clear hh4 hb4
        go_wp2_with fail
        go_at_call 72
        refine (Tryz.Builder_String_any w.heap.size w.heap.size _ _ HE4.out HW4.out.size).mono ?_
        rintro e w5 ⟨rfl, hb5⟩
        go_wp2_with fail
        go_ret
        exact ⟨rfl, HW4.out.trans hb5⟩
end Go.Proofs.YtlkljeedlkbkgaaGreatDoor.Fault
namespace Go.Proofs.YtlkljeedlkbkgaaGreatDoor.Fault
open Go.RowKit
set_option linter.unusedVariables false
structure LV (w : World) : Prop where
  tab : Stamp.Tab w
  typ : ErrType w
theorem LV.below {w w' : World} (h : LV w) (hb : Below w.heap.size w w') : LV w' :=
  ⟨Stamp.tab_below h.tab hb, (hb.cell (p := ⟨0, 0, none⟩) (Lib.lt_of_cell h.typ)).trans h.typ⟩
theorem text_errno {w : World} {E : Value} {l : List Pl} (k : Int) (hL : LV w) (hch : Chain w E l (errnoV k)) (hk0 : 0 ≤ k) (hk1 : k ≤ 14) (hl : l.length ≤ 12) (hs : ∀ x ∈ l, Small x) :
    Calls Tryz.prog 29 #[E] w fun e w' => e = .returned (.string ⟨(textL l k).toArray⟩) ∧ Below w.heap.size w w' :=
  text_chain k (.inl ⟨k, rfl⟩) hch hk0 hk1 (fun W hW => kind_errno k (hL.below hW).typ (hch.below hW)) hl hs hL.tab
end Go.Proofs.YtlkljeedlkbkgaaGreatDoor.Fault
namespace Go.Proofs.YtlkljeedlkbkgaaGreatDoor.Gr
open Go.RowKit Go.Deep Go.Proofs.YtlkljeedlkbkgaaGreatDoor.Fault
set_option linter.unusedVariables false
def T2 : List Ed := [⟨0, 1, 0⟩, ⟨1, 0, 0⟩]
theorem rdi_new {w : World} {T : TypeId} : RdI (w.alloc (.cells #[.int .i64 0] T)) (.slice (some ⟨w.heap.size, 0, none⟩) 1 1) [0] :=
  (own1 (w := w) (base := 0) (T := T) 0 (Nat.zero_le _)).rd (by intro x hx; simp at hx; subst hx; decide)
end Go.Proofs.YtlkljeedlkbkgaaGreatDoor.Gr
