/-
  PACKAGE marchlandlaw05: few.
  THE LAWS' OWN CUT: at most twelve places, at most twenty letters of each: in memory of the call's own.
  THE LAWS' OWN CHAIN: an error of a kind at places, the outer ones ahead.
  THE DOCUMENT's OWN ANSWER IN WORDS: a number below 0 too; the words of the kinds; places and kind in words.
  PACKAGE marchlandlaw05: GraphChecks.
-/
import Derived.Test.YtdllgeanmlmmfaaGreatDoorGTo
import Derived.BigRegion
import Derived.Test.YtdllgeanmlmmfaaGreatDoorJoined25
import Derived.StillTactics
import Derived.Deep.RegionHeld3
import Derived.Deep.AppendLies
import Derived.StillTailTactics
import Derived.Deep.RegionHeldLaw
namespace Go.Proofs.YtdllgeanmlmmfaaGreatDoor.Gr
open Go.RowKit Go.Deep
set_option linter.unusedVariables false
set_option linter.unusedSimpArgs false

theorem cut_slice {T : TypeId} {s : Nat} (ht : Tryz.prog.underlying T = some (.slice (Tryz.prog.elem T))) (hz : ∀ w, (Go.sizeOf (Tryz.prog.elem T)).run Tryz.prog w = .ok s w) (ao : Option Addr) (n cap k : Nat) (hk : k ≤ cap) (w : World) :
    (Instr.slice T (.slice ao n cap) none (some (.int .i64 (k : Int))) none).run Tryz.prog w = .ok (.slice ao k cap) w := by
  rw [run_slice_h (P := Tryz.prog) (w := w) (t := T) (a := ao) (len := n) (cap := cap) (ht := ht) (kh := .i64) (h := (k : Int)) (h0 := by omega) (h2 := by omega), hz]
  simp only [Result.andThen, sliced, Int.toNat_natCast, Nat.sub_zero, Nat.zero_mul]
  have e : (if cap = 0 then ao else ao.map (·.add 0)) = ao := by
    split
    · rfl
    · cases ao <;> rfl
  rw [e]
theorem few_facts {T : TypeId} {s : Nat} (ht : Tryz.prog.underlying T = some (.slice (Tryz.prog.elem T))) (hz : ∀ w, (Go.sizeOf (Tryz.prog.elem T)).run Tryz.prog w = .ok s w) (ao : Option Addr) (n cap c : Nat) (ci : Int) (hci : ci = (c : Int)) (hk : n ≤ cap) :
    ∃ m : Int, (∀ (ts : Array TypeId) (t : TypeId) (w : World), (Builtin.min_ ts t #[.int .i64 (n : Int), .int .i64 ci]).run Tryz.prog w = .ok (.int .i64 m) w) ∧
      ∀ w, (Instr.slice T (.slice ao n cap) none (some (.int .i64 m)) none).run Tryz.prog w = .ok (.slice ao (min n c) cap) w := by
  refine ⟨((min n c : Nat) : Int), fun ts t w => ?_, fun w => cut_slice ht hz ao n cap _ (by omega) w⟩
  rw [run_min_int2 w ts t .i64 .i64 _ _, show (if ci < (n : Int) then ci else (n : Int)) = ((min n c : Nat) : Int) by split <;> omega]
theorem sizeEs : ∀ w, (Go.sizeOf (Tryz.prog.elem 22)).run Tryz.prog w = .ok 3 w := by
  intro w
  simp [go_sem]
theorem sizeIs : ∀ w, (Go.sizeOf (Tryz.prog.elem 23)).run Tryz.prog w = .ok 1 w := by
  intro w
  simp [go_sem]
theorem GMemP.take {w : World} {ao aoi : Option Addr} {cap capi : Nat} {E : List Ed} {I : List Int} (h : GMemP w (.slice ao E.length cap) (.slice aoi I.length capi) E I) (a b : Nat) :
    GMemP w (.slice ao (min E.length a) cap) (.slice aoi (min I.length b) capi) (E.take a) (I.take b) := by
  obtain ⟨⟨ao', cap', hv, hc1, hc2, _⟩, ⟨aoi', capi', hv', hc3, hc4, _⟩⟩ := And.intro h.ed h.inp
  simp only [Value.slice.injEq] at hv hv'
  obtain ⟨rfl, _, rfl⟩ := hv
  obtain ⟨rfl, _, rfl⟩ := hv'
  have h1 : E.take (min E.length a) = E.take a := by rw [List.take_eq_take_iff]; omega
  have h2 : I.take (min I.length b) = I.take b := by rw [List.take_eq_take_iff]; omega
  rw [← h1, ← h2]
  exact ⟨h.ed.take _ (by omega) cap (by omega) hc2, h.inp.take _ (by omega) capi (by omega) hc4⟩
end Go.Proofs.YtdllgeanmlmmfaaGreatDoor.Gr
namespace Go.Proofs.YtdllgeanmlmmfaaGreatDoor.Fault
open Go.RowKit
set_option linter.unusedVariables false

/-- A slice of places that came in, as it reads. -/
def Reads (w : World) (v : Value) (l : List Pl) : Prop := ∃ (ao : Option Addr) (cap : Nat), v = .slice ao l.length cap ∧ l.length ≤ 9223372036854775807 ∧ (∀ x ∈ l, x.1.size ≤ 9223372036854775807 ∧ -9223372036854775808 ≤ x.2 ∧ x.2 ≤ 9223372036854775807) ∧
  (l = [] ∨ ∃ b off, ao = some ⟨b, off, none⟩ ∧ ∀ i s n, l[i]? = some (s, n) → w.cell? ⟨b, off + i * 2, none⟩ = some (.string s) ∧ w.cell? ⟨b, off + i * 2 + 1, none⟩ = some (.int .i64 n))
def cutS (s : ByteArray) : ByteArray := s.extract 0 (min s.size 20)
def fewL (l : List Pl) : List Pl := (l.take 12).map fun x => (cutS x.1, x.2)
theorem fewL_at {l : List Pl} {i : Nat} {s : ByteArray} {n : Int} (h : l[i]? = some (s, n)) (hi : i < 12) : (fewL l).take (i + 1) = (fewL l).take i ++ [(cutS s, n)] := by
  rw [List.take_add_one]
  congr 1
  unfold fewL
  rw [List.getElem?_map, List.getElem?_take_of_lt hi, h]
  rfl
theorem fewL_length (l : List Pl) : (fewL l).length = min 12 l.length := by unfold fewL; simp
theorem infoRP : (Tryz.prog.info? 76).map (fun i => (i.zero, i.size, i.bytes)) = some (some (.agg #[.string ⟨#[]⟩, .int .i64 0]), 2, 24) := by kernel_rfl

theorem cut_facts (s : ByteArray) (hs : s.size ≤ 9223372036854775807) : ∃ m : Int, (∀ (ts : Array TypeId) (t : TypeId) (w : World), (Builtin.min_ ts t #[.int .i64 s.size, .int .i64 20]).run Tryz.prog w = .ok (.int .i64 m) w) ∧
    ∀ w, (Instr.slice 9 (.string s) none (some (.int .i64 m)) none).run Tryz.prog w = .ok (.string (cutS s)) w := by
  refine ⟨if (20 : Int) < s.size then 20 else s.size, fun ts t w => run_min_int2 w ts t .i64 .i64 _ _, fun w => ?_⟩
  have hm : (if (20 : Int) < s.size then (20 : Int) else s.size).toNat = min s.size 20 := by split <;> omega
  rw [run_slice_string_h (t := 9) (P := Tryz.prog) (s := s) (w := w) Tryz.underlying9 .i64 _ (by split <;> omega) (by split <;> omega), hm]
  rfl

end Go.Proofs.YtdllgeanmlmmfaaGreatDoor.Fault
namespace Go.Proofs.YtdllgeanmlmmfaaGreatDoor.Fault
open Go.RowKit
set_option linter.unusedVariables false

theorem Reads.below {w w' : World} {v : Value} {l : List Pl} (h : Reads w v l) (hb : Below w.heap.size w w') : Reads w' v l := by
  obtain ⟨ao, cap, h1, h2, h3, h4⟩ := h
  refine ⟨ao, cap, h1, h2, h3, ?_⟩
  rcases h4 with h4 | ⟨b, off, h5, h6⟩
  · exact .inl h4
  · refine .inr ⟨b, off, h5, fun i s n hx => ?_⟩
    obtain ⟨q0, q1⟩ := h6 i s n hx
    exact ⟨(hb.cell (p := ⟨b, off + i * 2, none⟩) (Lib.lt_of_cell q0)).trans q0, (hb.cell (p := ⟨b, off + i * 2 + 1, none⟩) (Lib.lt_of_cell q1)).trans q1⟩
theorem reads_own {w : World} {B : Nat} {T : TypeId} {v : Value} {l : List Pl} (h : w.ownsRow B T 2 v l.length (plCells l)) (hl : l.length ≤ 1000) (hs : ∀ x ∈ l, Small x) : Reads w v l := by
  have hok : ∀ x ∈ l, x.1.size ≤ 9223372036854775807 ∧ -9223372036854775808 ≤ x.2 ∧ x.2 ≤ 9223372036854775807 := fun x hx => ⟨by have := (hs x hx).1; omega, (hs x hx).2⟩
  rcases h.2 with ⟨hv, h0⟩ | ⟨g, cap, cur, hv, hB, hg, hle, hcap, hsz, hcur⟩
  · exact ⟨none, 0, by rw [hv, h0], by omega, hok, .inl (List.eq_nil_of_length_eq_zero h0)⟩
  · refine ⟨some ⟨g, 0, none⟩, cap, hv, by omega, hok, .inr ⟨g, 0, rfl, fun i s n hx => ?_⟩⟩
    have hi : i < l.length := (List.getElem?_eq_some_iff.1 hx).1
    obtain ⟨p0, p1⟩ := plCells_at l i s n hx
    rw [Nat.zero_add, Lib.cell_of_heap hg, Lib.cell_of_heap hg]
    exact ⟨cur_at hcur p0 (by omega), cur_at hcur p1 (by omega)⟩

end Go.Proofs.YtdllgeanmlmmfaaGreatDoor.Fault
namespace Go.Proofs.YtdllgeanmlmmfaaGreatDoor.Fault
open Go.RowKit
set_option linter.unusedVariables false

def itoaS (n : Int) : ByteArray := ⟨(Lib.itoa n).toArray⟩
theorem itoaS_neg {n : Int} (h : n < 0) : itoaS n = ({ data := #[45] } : ByteArray) ++ Stamp.numS (-(n + 1) + 1) := by
  unfold itoaS Lib.itoa Stamp.numS
  rw [if_pos h, show (-(n + 1) + 1).toNat = n.natAbs by omega]
  apply ByteArray.ext
  simp
theorem itoaS_pos {n : Int} (h : ¬ n < 0) : itoaS n = Stamp.numS n := by unfold itoaS Lib.itoa Stamp.numS; rw [if_neg h]
theorem itoaS_size {n : Int} (h0 : -9223372036854775808 ≤ n) (h1 : n ≤ 9223372036854775807) : (itoaS n).size ≤ 21 := by
  have := itoa_length n h0 h1
  show (Lib.itoa n).toArray.size ≤ 21
  rw [List.size_toArray]; exact this

theorem num_any (n : Int) (h0 : -9223372036854775808 ≤ n) (h1 : n ≤ 9223372036854775807) (w : World) :
    Calls Tryz.prog 52 #[.int .i64 n] w fun e w' => e = .returned (.string (itoaS n)) ∧ ∃ m, w' = w.drewN m := by
  by_cases hn : n < 0
  · have HR := Lib.hid (itoaS_neg hn)
    have hu : Stamp.U (-(n + 1) + 1) := by unfold Stamp.U; omega
    have HC := Lib.hid (Stamp.refNum_any (-(n + 1) + 1).toNat (-(n + 1) + 1) w (by omega) hu)
    have hsz := Stamp.numS_size hu
    go_enter Tryz.func52, Tryz.ntmps52
    go_wp2_with fail
    go_at_call 82
    refine HC.out.mono ?_
    rintro e w' ⟨rfl, m, rfl⟩
    go_wp2_with fail
    go_ret
    exact ⟨by rw [HR.out]; rfl, m, rfl⟩
  · have HR := Lib.hid (itoaS_pos hn)
    have hu : Stamp.U n := by unfold Stamp.U; omega
    have HC := Lib.hid (Stamp.refNum_any n.toNat n w (by omega) hu)
    have hn0 : 0 ≤ n := by omega
    go_enter Tryz.func52, Tryz.ntmps52
    go_wp2_with fail
    go_at_call 82
    refine HC.out.mono ?_
    rintro e w' ⟨rfl, m, rfl⟩
    go_wp2_with fail
    go_ret
    exact ⟨by rw [HR.out]; rfl, m, rfl⟩

set_option maxRecDepth 100000 in
set_option maxHeartbeats 4000000 in
theorem word_any (k : Int) (h0 : 1 ≤ k) (h1 : k ≤ 14) (w : World) : Calls Tryz.prog 53 #[.int .i64 k] w fun e w' => e = .returned (.string (wordS k)) ∧ Below w.heap.size w w' := by
  have hk : k = 1 ∨ k = 2 ∨ k = 3 ∨ k = 4 ∨ k = 5 ∨ k = 6 ∨ k = 7 ∨ k = 8 ∨ k = 9 ∨ k = 10 ∨ k = 11 ∨ k = 12 ∨ k = 13 ∨ k = 14 := by omega
  clear h0 h1
  rcases hk with rfl | rfl | rfl | rfl | rfl | rfl | rfl | rfl | rfl | rfl | rfl | rfl | rfl | rfl
  all_goals
    go_enter Tryz.func53, Tryz.ntmps53
    go_wp2
    go_ret
    exact ⟨rfl, (Below.refl _ _).alloc (Nat.le_refl _) _⟩

set_option maxRecDepth 1000000 in
set_option maxHeartbeats 4000000 in
theorem refTextF_any {w : World} {v : Value} {l : List Pl} (k : Int) (h0 : 1 ≤ k) (h1 : k ≤ 14) (hv : Reads w v l) (hl : l.length ≤ 12) (hs : ∀ x ∈ l, Small x) :
    Calls Tryz.prog 19 #[v, .int .i64 k] w fun e w' => e = .returned (.string ⟨(textL l k).toArray⟩) ∧ Below w.heap.size w w' := by
  obtain ⟨ao, cap, rfl, hlen, hok, hcell⟩ := hv
  have HC := Lib.hid hcell
  have HS := Lib.hid hs
  clear hok hcell hs
  go_enter Tryz.func19, Tryz.ntmps19
  go_wp2
  go_loopg [5, 6] l.length (fun j o t wr => ∃ (i : Nat) (A : ByteArray), i + j = l.length ∧ t = .int .i64 i ∧ o = .string A ∧ A.data.toList = placesL (l.take i) ∧ Below w.heap.size w wr)
  case atStart => exact ⟨0, ⟨#[]⟩, by omega, rfl, rfl, rfl, Below.refl _ _⟩
  case round =>
    obtain ⟨i, A, hij, rfl, rfl, hA, hbw⟩ := hrel
    have HA := Lib.hid hA
    have HIJ := Lib.hid hij
    have HB := Lib.hid hbw
    have hAs : A.size ≤ 528 := by
      have e : A.size = A.data.toList.length := rfl
      have h3 := placesL_length (l.take i) (fun x hx => HS.out x (List.mem_of_mem_take hx))
      have h4 : (l.take i).length ≤ 12 := by rw [List.length_take]; omega
      rw [e, hA]; omega
    clear hA hij
    by_cases hlt1 : i < l.length
    · obtain ⟨s, n, hx⟩ : ∃ s n, l[i]? = some (s, n) := ⟨_, _, List.getElem?_eq_getElem hlt1⟩
      have hne : l ≠ [] := by intro e; rw [e] at hlt1; simp at hlt1
      obtain ⟨b, off, hao, hcc⟩ := HC.out.resolve_left hne
      obtain ⟨q0, q1⟩ := hcc i s n hx
      have hbl := Lib.lt_of_cell q0
      have c0 := (hbw.cell (p := ⟨b, off + i * 2, none⟩) hbl).trans q0
      have c1 := (hbw.cell (p := ⟨b, off + i * 2 + 1, none⟩) hbl).trans q1
      have HX := Lib.hid hx
      obtain ⟨hs1, hs2, hs3⟩ := HS.out (s, n) (List.mem_of_getElem? hx)
      simp only at hs1 hs2 hs3
      have hNs := itoaS_size hs2 hs3
      have HN := Lib.hid (fun W => num_any n hs2 hs3 W)
      subst hao
      have hi0 : (0 : Int) ≤ (i : Int) := Int.natCast_nonneg _
      have hi1 : (i : Int) < (l.length : Int) := by omega
      have HLT := Lib.hid hlt1
      clear hx hne hcc q0 q1 hbl HC hbw hs2 hs3
      go_wp2
      go_quiet ((go_at_call 52; exact Calls.quiet_of (HN.out _)))
      go_wp2
      go_roundg (gk - 1)
      case measure => have := HIJ.out; have := HLT.out; omega
      case rel =>
        refine ⟨i + 1, _, by have := HIJ.out; have := HLT.out; omega, by go_num, rfl, ?_, below_drewN HB.out _⟩
        have e1 : l.take (i + 1) = l.take i ++ [(s, n)] := by rw [List.take_add_one, HX.out]; rfl
        rw [e1, placesL_snoc, ← HA.out]
        simp [itoaS]
    · have hin : i = l.length := by have := HIJ.out; omega
      have hA2 : A.data.toList = placesL l := by have h := HA.out; rw [hin, List.take_length] at h; exact h
      have HA2 := Lib.hid hA2
      have hws := wordS_size k (by omega) h1
      clear hA2 hin HIJ hbw HC
      go_wp2_with fail
      go_at_call 53
      refine (word_any k h0 h1 _).mono ?_
      rintro e w1 ⟨rfl, hb1⟩
      go_wp2_with fail
      go_ret
      refine ⟨?_, HB.out.trans (hb1.mono HB.out.size)⟩
      have e : A ++ wordS k = ⟨(textL l k).toArray⟩ := by
        apply ByteArray.ext
        apply Array.ext'
        unfold textL
        rw [← HA2.out]
        simp
      exact congrArg (fun S => Ending.returned (Value.string S)) e
end Go.Proofs.YtdllgeanmlmmfaaGreatDoor.Fault
namespace Go.Proofs.YtdllgeanmlmmfaaGreatDoor.Gr
open Go.RowKit Go.Deep Go.Proofs.YtdllgeanmlmmfaaGreatDoor.Fault
set_option linter.unusedVariables false
set_option linter.unusedSimpArgs false

/-- What is told of a wrong graph is small. -/
def SmallV (V : List Pl × Int) : Prop := (∀ x ∈ V.1, Small x) ∧ V.1.length ≤ 2 ∧ 0 ≤ V.2 ∧ V.2 ≤ 4
theorem SmallV.nil (k : Int) (h0 : 0 ≤ k) (h1 : k ≤ 4) : SmallV ([], k) := ⟨by simp, by simp, h0, h1⟩
theorem small_of {s : ByteArray} {x : Int} (hs : s.size ≤ 20) (h0 : -9223372036854775808 ≤ x) (h1 : x ≤ 9223372036854775807) : Small (s, x) := ⟨hs, h0, h1⟩
theorem SmallV.one {s : ByteArray} {x k : Int} (hs : s.size ≤ 20) (h0 : -9223372036854775808 ≤ x) (h1 : x ≤ 9223372036854775807) (k0 : 0 ≤ k) (k1 : k ≤ 4) : SmallV ([(s, x)], k) :=
  ⟨fun y hy => by simp at hy; subst hy; exact small_of hs h0 h1, by simp, k0, k1⟩
theorem SmallV.two {s s' : ByteArray} {x x' k : Int} (hs : s.size ≤ 20) (h0 : -9223372036854775808 ≤ x) (h1 : x ≤ 9223372036854775807) (hs' : s'.size ≤ 20) (h0' : -9223372036854775808 ≤ x') (h1' : x' ≤ 9223372036854775807) (k0 : 0 ≤ k) (k1 : k ≤ 4) : SmallV ([(s, x), (s', x')], k) :=
  ⟨fun y hy => by
    simp at hy
    rcases hy with rfl | rfl
    · exact small_of hs h0 h1
    · exact small_of hs' h0' h1', by simp, k0, k1⟩
theorem edgesV_small (n : Int) : ∀ (l : List Ed) (i : Nat), (∀ y ∈ l, y.Wf) → i + l.length ≤ 1000000 → SmallV (edgesV n i l)
  | [], _, _, _ => SmallV.nil 0 (by decide) (by decide)
  | x :: r, i, h, hi => by
    have hx := h x (by simp)
    simp only [List.length_cons] at hi
    unfold edgesV
    split
    · exact SmallV.two (by decide) (by omega) (by omega) (by decide) hx.f0 hx.f1 (by decide) (by decide)
    · split
      · exact SmallV.two (by decide) (by omega) (by omega) (by decide) hx.t0 hx.t1 (by decide) (by decide)
      · exact edgesV_small n r (i + 1) (fun y hy => h y (by simp [hy])) (by omega)
theorem inputsV_small (n : Int) : ∀ (l pre : List Int) (i : Nat), i + l.length ≤ 1000000 → SmallV (inputsV n i pre l)
  | [], _, _, _ => SmallV.nil 0 (by decide) (by decide)
  | p :: r, pre, i, hi => by
    simp only [List.length_cons] at hi
    unfold inputsV
    split
    · exact SmallV.one (by decide) (by omega) (by omega) (by decide) (by decide)
    · split
      · exact SmallV.one (by decide) (by omega) (by omega) (by decide) (by decide)
      · exact inputsV_small n r (pre ++ [p]) (i + 1) (by omega)
theorem chkV_small {n : Int} {E : List Ed} {I : List Int} (hw : ∀ y ∈ E, y.Wf) (he : E.length ≤ 1000) (hi : I.length ≤ 1000) : SmallV (chkV n E I) := by
  unfold chkV
  split
  · exact SmallV.nil _ (by decide) (by decide)
  rename_i hn
  split
  · exact SmallV.nil _ (by decide) (by decide)
  split
  · exact edgesV_small n E 0 hw (by omega)
  split
  · exact SmallV.nil _ (by decide) (by decide)
  split
  · exact inputsV_small n I [] 0 (by omega)
  by_cases hex : ∃ o, CycAt E n.toNat o
  · have hs := hex.choose_spec
    have he : cycO E n.toNat = hex.choose := cycO_eq hs
    rw [he]
    rcases hs with ⟨p, hp, hpn, _⟩ | ⟨hp, _⟩
    · rw [hp]
      exact SmallV.one (by decide) (by omega) (by omega) (by decide) (by decide)
    · rw [hp]
      exact SmallV.nil _ (by decide) (by decide)
  · have he : cycO E n.toNat = none := by unfold cycO; rw [dif_neg hex]
    rw [he]
    exact SmallV.nil _ (by decide) (by decide)
theorem reads_rdp {w : World} {v : Value} {V : List Pl × Int} (h : RdP w v V.1) (hs : SmallV V) : Reads w v V.1 := by
  obtain ⟨ao, cap, rfl, hc⟩ := h
  exact ⟨ao, cap, rfl, by have := hs.2.1; omega, fun x hx => ⟨by have := (hs.1 x hx).1; omega, (hs.1 x hx).2⟩, hc⟩
/-- What Paths gives: the least of all ways, or nothing where the graph is wrong. -/
def PV (n : Int) (E : List Ed) (I : List Int) (w : World) (v : Value) : Prop :=
  ((chkV n E I).2 = 0 ∧ ∃ (m : Nat) (M : Nat → Nat → Int) (b : Nat), n = m ∧ m ≤ 64 ∧ Mat w b v m M ∧ LeastM E true m M) ∨ ((chkV n E I).2 ≠ 0 ∧ v = .slice none 0 0)
theorem PV.below {n : Int} {E : List Ed} {I : List Int} {w w' : World} {v : Value} (h : PV n E I w v) (hb : Below w.heap.size w w') : PV n E I w' v := by
  rcases h with ⟨h0, m, M, b, hm, h6, hM, hl⟩ | h
  · exact .inl ⟨h0, m, M, b, hm, h6, hM.below hb, hl⟩
  · exact .inr h
theorem paths_pv {w : World} {ve vi : Value} {E : List Ed} {I : List Int} (n : Int) (hg : GMemP w ve vi E I) :
    Calls Tryz.prog 28 #[.agg #[.int .i64 n, ve, vi]] w fun e w' => ∃ v, e = .returned v ∧ PV n E I w' v ∧ Below w.heap.size w w' := by
  by_cases h : (chkV n E I).2 = 0
  · obtain ⟨m, rfl, hok⟩ := gok_of hg.ed.wf h
    refine (paths_any hg.ed hg.inp hok).mono ?_
    rintro e w' ⟨v, M, rfl, hM, hl, hb⟩
    exact ⟨v, rfl, .inl ⟨h, m, M, _, rfl, hok.n1, hM, hl⟩, hb⟩
  · refine (paths_none n hg.ed hg.inp h).mono ?_
    rintro e w' ⟨rfl, hb⟩
    exact ⟨_, rfl, .inr ⟨h, rfl⟩, hb⟩
theorem kind_pv {w : World} {v : Value} {V : List Pl × Int} (hL : LV w) (h : ErrIs w v V) :
    Calls Tryz.prog 10 #[v] w fun e w' => e = .returned (.int .i64 V.2) ∧ Below w.heap.size w w' := by
  rcases h with ⟨h0, _, rfl⟩ | ⟨_, hch, _⟩
  · rw [h0]; exact kind_nil w
  · exact kind_errno V.2 hL.typ hch
/-- The Graph that is looked at. -/
def ChkW (w : World) (n : Int) (aoi : Option Addr) (capi : Nat) (I1 : List Int) (wx : World) : Prop := ∃ (E2 : List Ed) (ao2 : Option Addr) (cap2 : Nat), E2.length ≤ 300 ∧ GMemP w (.slice ao2 E2.length cap2) (.slice aoi I1.length capi) E2 I1 ∧ wx.heap[w.heap.size]? = some (.cells #[.int .i64 n, .slice ao2 E2.length cap2, .slice aoi I1.length capi] 25 (0, 0)) ∧ Below w.heap.size w wx
end Go.Proofs.YtdllgeanmlmmfaaGreatDoor.Gr
