/-
  THE LIBRARY's slices.Grow of nothing, and slices.Concat of lists of accesses (package pool).
-/
import Derived.Test.YtmggnalobfihnaaJoined2
import Derived.Test.YtmggnalobfihnaaJoined1
import Derived.Lib.AppendZeros
namespace Go.Proofs.Ytmggnalobfihnaa.Pl
open Go.RowKit Rw Pk Go.Maps Mm
set_option linter.unusedVariables false

/-- An access: its Kind, and what it goes to. -/
def accK : Kd (Int × Int) where
  k := 2
  cells x := [.int .i64 x.1, .int .i64 x.2]
  wf x := I64 x.1 ∧ I64 x.2
  len _ := rfl
  one x u hu := by simp at hu; rcases hu with rfl | rfl <;> rfl
theorem infoA : (Try.prog.info? 76).map (fun i => (i.zero, i.size, i.bytes)) = some (some (.agg #[.int .i64 0, .int .i64 0]), accK.k, 16) := by kernel_rfl
theorem zc_size (n : Nat) : (Builtin.zeroCells #[.int .i64 0, .int .i64 0] n).size = n * 2 := by rw [size_zeroCells]; rfl
set_option maxRecDepth 1000000 in
set_option maxHeartbeats 4000000 in
theorem grow0_any (n : Nat) (hn : n ≤ 1000) (w : World) :
    Calls Try.prog 45 #[.slice none 0 0, .int .i64 (n : Int)] w fun e w' => ∃ v, e = .returned v ∧ Own accK w' w.heap.size 76 v [] ∧ Below w.heap.size w w' := by
  obtain ⟨i0, hi, hz0, hz1, hz2⟩ := info_partsP infoA
  have hw1 : wrap64 (n : Int) = (n : Int) := by unfold wrap64; omega
  have hw2 : IntKind.i64.wrap (n : Int) = (n : Int) := by rw [IntKind.wrap_i64]; omega
  have hneg : ¬ ((n : Int) < 0) := by omega
  by_cases h0 : n = 0
  · subst h0
    go_enter Try.func45, Try.ntmps45
    go_wp2_with fail
    go_ret
    exact ⟨_, rfl, Own.nil _ _ _, Below.refl _ _⟩
  · have hpos : (0 : Int) < (n : Int) := by omega
    have hrz : ∀ ty, (Builtin.append_ #[69, 3] ty #[.slice none 0 0, .int .i64 (n : Int)]).run Try.prog w =
        .ok (.slice (some ⟨w.heap.size, 0, none⟩) n (grownCap w n 0 76)) (w.drew.alloc (.cells (Builtin.zeroCells (Value.agg #[.int .i64 0, .int .i64 0]).cells n ++ Builtin.zeroCells (Value.agg #[.int .i64 0, .int .i64 0]).cells (grownCap w n 0 76 - n)) 76)) :=
      fun ty => Lib.run_append_nil_zeros w _ _ ty _ i0 _ .i64 .i64 Try.underlying69 Try.underlying3 hi hz0 n (by omega) (by rw [hz1]; decide) (by omega) (by rw [hz2]; omega)
    have hGn : n ≤ grownCap w n 0 76 := grownCap_ge w _ _ _
    have hGm : grownCap w n 0 76 ≤ maxLen := grownCap_le_maxLen w n 0 _ (by unfold maxLen; omega)
    generalize grownCap w n 0 76 = G at *
    have HG := Lib.hid (And.intro hGn hGm)
    have hG0 : (0 : Int) ≤ (G : Int) := by omega
    have hNI : ((n : Int) == 0) = false := by rw [beq_eq_false_iff_ne]; omega
    clear hGn hGm h0 hi hz0 hz1 hz2
    go_enter Try.func45, Try.ntmps45
    go_wp2_with (at_builtin; refine Lib.wpList_append_run _ rfl _ _ _ _ rfl _ _ rfl rfl _ _ (hrz _) ?_)
    go_ret
    refine ⟨_, rfl, ?_, (Below.refl _ _).drew.alloc (Nat.le_refl _) _⟩
    refine ⟨rfl, .inr ⟨w.heap.size, G, _, rfl, Nat.le_refl _, heap_alloc_new w.drew _, Nat.zero_le _, HG.out.2, ?_, rfl⟩⟩
    rw [Array.size_append, zc_size, zc_size]
    have := HG.out.1
    show n * 2 + (G - n) * 2 = G * 2
    omega
def lens (P : List (List (Int × Int))) : Nat := P.flatten.length
theorem take_snoc {α : Type} {P : List α} {i : Nat} {l : α} (h : P[i]? = some l) : P.take (i + 1) = P.take i ++ [l] := by
  rw [List.take_add_one, h]; rfl
theorem lens_take {P : List (List (Int × Int))} (i : Nat) : lens (P.take i) ≤ lens P := by
  have h : lens P = lens (P.take i) + lens (P.drop i) := by
    unfold lens
    rw [← List.length_append, ← List.flatten_append, List.take_append_drop]
  omega
theorem lens_snoc (P : List (List (Int × Int))) (l : List (Int × Int)) : lens (P ++ [l]) = lens P + l.length := by unfold lens; simp
set_option maxRecDepth 1000000 in
set_option maxHeartbeats 8000000 in
theorem concat_any {w : World} {g : Nat} {ss : List Sv} {P : List (List (Int × Int))} (hc : ∀ (j : Nat) (s : Sv), ss[j]? = some s → w.cell? ⟨g, j, none⟩ = some s.val) (hl : ss.length = P.length) (hr : ∀ (j : Nat) (s : Sv) (l : List (Int × Int)), ss[j]? = some s → P[j]? = some l → Rr accK w s.val l) (hn : lens P ≤ 1000) (hm : P.length ≤ 100) :
    Calls Try.prog 30 #[.slice (some ⟨g, 0, none⟩) P.length P.length] w fun e w' => ∃ v, e = .returned v ∧ Own accK w' w.heap.size 76 v P.flatten ∧ Below w.heap.size w w' := by
  obtain ⟨i0, hi, hz0, hz1, hz2⟩ := info_partsP infoA
  have HC := Lib.hid hc
  have HL := Lib.hid hl
  have HR := Lib.hid hr
  have HN := Lib.hid hn
  have hmm : (P.length : Int) ≤ 100 := by omega
  clear hc hl hr hn
  go_enter Try.func30, Try.ntmps30
  go_wp2_with fail
  go_loopg [3, 11] (P.length + 1) (fun k s t wr => ∃ (i c : Nat), i + k = P.length + 1 ∧ i ≤ P.length ∧ t = .int .i64 (i : Int) ∧ s = .int .i64 (c : Int) ∧ Hid (c = lens (P.take i)) ∧ Hid (w = wr))
  case atStart => exact ⟨0, 0, by omega, by omega, rfl, rfl, Lib.hid rfl, Lib.hid rfl⟩
  case round =>
    obtain ⟨i, c, hik, hil, rfl, rfl, HCI, HW⟩ := hrel
    obtain rfl := HW.out
    have HIK := Lib.hid hik
    have hc1 : c ≤ 1000 := by have := HCI.out; have := lens_take (P := P) i; have := HN.out; omega
    clear hik
    by_cases hlt : i < P.length
    · obtain ⟨l, hx⟩ : ∃ l, P[i]? = some l := ⟨_, List.getElem?_eq_getElem hlt⟩
      obtain ⟨s, hs⟩ : ∃ s, ss[i]? = some s := ⟨_, List.getElem?_eq_getElem (by rw [HL.out]; exact hlt)⟩
      have c0 := HC.out i s hs
      have hlen : s.n = l.length := (HR.out i s l hs hx).len
      obtain ⟨sa, sn, sc⟩ := s
      simp only [Sv.val] at c0 hlen
      subst hlen
      have hc2 : c + l.length = lens (P.take (i + 1)) := by rw [take_snoc hx, lens_snoc, HCI.out]
      have hc3 : c + l.length ≤ 1000 := by have := lens_take (P := P) (i + 1); have := HN.out; omega
      have HC2 := Lib.hid hc2
      have hlt' : (i : Int) < (P.length : Int) := by omega
      have hi0 : (0 : Int) ≤ (i : Int) := Int.natCast_nonneg _
      have hw1 : IntKind.i64.wrap ((c : Int) + (l.length : Int)) = (c : Int) + (l.length : Int) := by rw [IntKind.wrap_i64]; omega
      have hw2 : IntKind.i64.wrap ((i : Int) + 1) = (i : Int) + 1 := by rw [IntKind.wrap_i64]; omega
      have hng : ¬ ((c : Int) + (l.length : Int) < 0) := by omega
      have HLT := Lib.hid hlt
      clear hx hs hc2 hc3
      go_wp2_with fail
      go_roundg (gk - 1)
      case measure => have := HIK.out; have := HLT.out; omega
      case rel => exact ⟨i + 1, c + l.length, by have := HIK.out; have := HLT.out; omega, by have := HLT.out; omega, by simp, by simp, HC2, Lib.hid rfl⟩
    · have hie : i = P.length := by omega
      subst hie
      have hct : c = lens P := by rw [HCI.out, List.take_length]
      have HCT := Lib.hid hct
      have hlt' : ¬ ((P.length : Int) < (P.length : Int)) := by omega
      clear hlt hct
      go_wp2_with fail
      go_at_call 45
      refine (grow0_any c hc1 w).mono ?_
      rintro e w2 ⟨v0, rfl, ho, hb⟩
      have HO0 := Lib.hid ho
      have HB0 := Lib.hid hb
      clear ho hb
      go_wp2_with fail
      go_loopg [6, 27] (P.length + 1) (fun k s t wx => ∃ (i : Nat) (sv : Value), sv = s ∧ i + k = P.length + 1 ∧ i ≤ P.length ∧ t = .int .i64 (i : Int) ∧ Hid (Own accK wx w.heap.size 76 sv (P.take i).flatten) ∧ Hid (Below w.heap.size w wx))
      case atStart => exact ⟨0, _, rfl, by omega, by omega, rfl, HO0, HB0⟩
      case round =>
        obtain ⟨i, sv, rfl, hik, hil, rfl, HO, HB⟩ := hrel
        have HIK := Lib.hid hik
        clear hik
        by_cases hlt : i < P.length
        · obtain ⟨l, hx⟩ : ∃ l, P[i]? = some l := ⟨_, List.getElem?_eq_getElem hlt⟩
          obtain ⟨s, hs⟩ : ∃ s, ss[i]? = some s := ⟨_, List.getElem?_eq_getElem (by rw [HL.out]; exact hlt)⟩
          have hcw := HC.out i s hs
          have c0 := (HB.out.cell (p := ⟨g, i, none⟩) (Lib.lt_of_cell hcw)).trans hcw
          have hrr := (HR.out i s l hs hx).below HB.out
          have hlen : s.n = l.length := (HR.out i s l hs hx).len
          obtain ⟨sa, sn, sc⟩ := s
          simp only [Sv.val] at c0 hlen hrr
          subst hlen
          have hsrc := Rr.src (by decide) hrr
          have HSRC := Lib.hid hsrc
          have hown : wr.ownsRow w.heap.size 76 2 sv (P.take i).flatten.length (accK.flat (P.take i).flatten) := HO.out
          have hcc : (P.take i).flatten.length + l.length ≤ 1000 := by
            have h1 := lens_take (P := P) (i + 1)
            rw [take_snoc hx, lens_snoc] at h1
            have := HN.out
            unfold lens at h1 this
            omega
          have HCC := Lib.hid hcc
          have hlt' : (i : Int) < (P.length : Int) := by omega
          have hi0 : (0 : Int) ≤ (i : Int) := Int.natCast_nonneg _
          have hw2 : IntKind.i64.wrap ((i : Int) + 1) = (i : Int) + 1 := by rw [IntKind.wrap_i64]; omega
          have HLT := Lib.hid hlt
          have HX := Lib.hid hx
          have hone := flat_one (S := accK) l
          have HONE := Lib.hid hone
          generalize hLi : (P.take i).flatten = Li at *
          have HLI := Lib.hid hLi
          clear hx hs hcw hrr hsrc hcc hlt hone hLi
          go_wp2_with (at_builtin; refine Batch.wpList_append_any _ rfl _ _ 69 69 rfl w.heap.size 76 76 i0 (.agg #[.int .i64 0, .int .i64 0]) 2 16 Try.underlying69 Try.underlying69 hi hz0 hz1 hz2 rfl (by decide) sv Li.length (accK.flat Li) rfl hown sa l.length sc (accK.flat l) rfl ?c0 ?c1 ?c2 ?c3 ?c4 ?c5 ?_)
          case c0 => rw [flat_length]; rfl
          case c1 => exact HSRC.out
          case c2 => exact HONE.out
          case c3 => have := HCC.out; unfold maxLen; omega
          case c4 => have := HCC.out; omega
          case c5 => exact HB.out.size
          intro v' w6 hown6 hgrow hblk
          have hb6 : Below w.heap.size w w6 := HB.out.grown hgrow HB.out.size (fun k e => (hown.lt k e).1)
          have hnew : Own accK w6 w.heap.size 76 v' (Li ++ l) := by
            unfold Own
            rw [flat_append, List.length_append]
            exact hown6
          have HN6 : Hid (Own accK w6 w.heap.size 76 v' (P.take (i + 1)).flatten) := Lib.hid (by
            rw [take_snoc HX.out, List.flatten_append, HLI.out]
            simpa using hnew)
          have HB6 := Lib.hid hb6
          clear hown hown6 hgrow hblk hb6 hnew
          go_wp2_with fail
          go_roundg (gk - 1)
          case measure => have := HIK.out; have := HLT.out; omega
          case rel => exact ⟨i + 1, _, rfl, by have := HIK.out; have := HLT.out; omega, by have := HLT.out; omega, by simp, HN6, HB6⟩
        · have hie : i = P.length := by omega
          subst hie
          have hlt' : ¬ ((P.length : Int) < (P.length : Int)) := by omega
          have HOE : Hid (Own accK wr w.heap.size 76 sv P.flatten) := Lib.hid (by have := HO.out; rwa [List.take_length] at this)
          clear hlt
          go_wp2_with fail
          go_ret
          exact ⟨_, rfl, HOE.out, HB.out⟩
end Go.Proofs.Ytmggnalobfihnaa.Pl
