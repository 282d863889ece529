/-
  PACKAGE bag: the library's binary search by Port; Least, Sum, Right.
  PACKAGE claim: the library's binary search by Id; where a handle stands, the handle of an Id.
-/
import Derived.Test.YtdllgeanmlmmfaaGreatDoorJoined8
import Derived.Test.YtdllgeanmlmmfaaGreatDoorClMath
import Derived.Test.YtdllgeanmlmmfaaGreatDoorJoined4
namespace Go.Proofs.YtdllgeanmlmmfaaGreatDoor.Batch
open Go.RowKit
set_option linter.unusedVariables false

theorem comparePort_any (x : Ch) (port : Int) (w : World) : Calls Tryz.prog 124 #[x.agg, .int .i64 port] w fun e w' => e = .returned (.int .i64 (cmpI x.p port)) ∧ Below w.heap.size w w' := by
  obtain ⟨p, t, d⟩ := x
  have hb : Below w.heap.size w (w.alloc (.cells #[.int .i64 p, .int .u64 t, .int .i64 d] 103)) := (Below.refl _ _).alloc (Nat.le_refl _) _
  have HB := Lib.hid hb
  clear hb
  go_enter Tryz.func124, Tryz.ntmps124
  go_wp2_with fail
  go_at_call 113
  refine (cmpInt_any p port _).mono ?_
  rintro e w' ⟨rfl, rfl⟩
  go_wp2_with fail
  go_ret
  exact ⟨rfl, HB.out⟩

theorem cmpI_neg {a b : Int} (h : a < b) : cmpI a b < 0 := by unfold cmpI; rw [if_pos h]; decide
theorem cmpI_not {a b : Int} (h : ¬ a < b) : ¬ (cmpI a b < 0) := by unfold cmpI; rw [if_neg h]; split <;> decide
theorem cmpI_eq {a b : Int} (h : a = b) : (cmpI a b == 0) = true := by unfold cmpI; rw [if_neg (by omega), if_neg (by omega)]; rfl
theorem cmpI_ne {a b : Int} (h : a ≠ b) : (cmpI a b == 0) = false := by
  unfold cmpI
  split
  · rfl
  · split
    · rfl
    · omega
def PPart (l : List Ch) (p : Int) (lo hi : Nat) : Prop := (∀ k y, k < lo → l[k]? = some y → y.p < p) ∧ (∀ k y, hi ≤ k → l[k]? = some y → ¬ y.p < p)
theorem PPart.start (l : List Ch) (p : Int) : PPart l p 0 l.length := ⟨fun k y h => by omega, fun k y h hy => by have := (List.getElem?_eq_some_iff.1 hy).1; omega⟩
theorem port_le {l : List Ch} (h : l.Pairwise Lt) {i j : Nat} {x y : Ch} (hx : l[i]? = some x) (hy : l[j]? = some y) (hij : i < j) : x.p ≤ y.p := by
  obtain ⟨h1, e1⟩ := List.getElem?_eq_some_iff.1 hx
  obtain ⟨h2, e2⟩ := List.getElem?_eq_some_iff.1 hy
  have := (List.pairwise_iff_getElem.1 h) i j h1 h2 hij
  rw [e1, e2] at this
  unfold Lt at this
  omega
theorem PPart.up {l : List Ch} {p : Int} {y : Ch} {lo hi m : Nat} (hr : l.Pairwise Lt) (h : PPart l p lo hi) (hy : l[m]? = some y) (hl : y.p < p) : PPart l p (m + 1) hi := by
  refine ⟨fun k z hk hz => ?_, h.2⟩
  by_cases e : k = m
  · subst e
    rw [hy] at hz
    obtain rfl := Option.some.inj hz
    exact hl
  · have := port_le hr hz hy (by omega)
    omega
theorem PPart.down {l : List Ch} {p : Int} {y : Ch} {lo hi m : Nat} (hr : l.Pairwise Lt) (h : PPart l p lo hi) (hy : l[m]? = some y) (hl : ¬ y.p < p) : PPart l p lo m := by
  refine ⟨h.1, fun k z hk hz => ?_⟩
  by_cases e : k = m
  · subst e
    rw [hy] at hz
    obtain rfl := Option.some.inj hz
    exact hl
  · have := port_le hr hy hz (by omega)
    omega
/-- What the search tells. -/
def FoundP (l : List Ch) (p : Int) (i : Nat) (f : Bool) : Prop := (f = true ∧ ∃ y, l[i]? = some y ∧ leastL l p = y.t) ∨ (f = false ∧ leastL l p = 18446744073709551615)
theorem PPart.yes {l : List Ch} {p : Int} {y : Ch} {i : Nat} (hr : l.Pairwise Lt) (h : PPart l p i i) (hw : y.t ≤ 18446744073709551615) (hy : l[i]? = some y) (hk : y.p = p) : FoundP l p i true :=
  .inl ⟨rfl, y, hy, leastL_first hr hw hy hk h.1⟩
theorem PPart.no {l : List Ch} {p : Int} {i : Nat} (hr : l.Pairwise Lt) (h : PPart l p i i) (hk : ∀ y, l[i]? = some y → y.p ≠ p) : FoundP l p i false := by
  refine .inr ⟨rfl, leastL_none fun y hy hyp => ?_⟩
  obtain ⟨k, hk'⟩ := List.mem_iff_getElem?.1 hy
  rcases Nat.lt_trichotomy k i with h1 | h1 | h1
  · have := h.1 k y h1 hk'; omega
  · subst h1; exact hk y hk' hyp
  · have hlt : i < l.length := by have := (List.getElem?_eq_some_iff.1 hk').1; omega
    have hz : l[i]? = some l[i] := List.getElem?_eq_getElem hlt
    have h2 := h.2 i _ (Nat.le_refl _) hz
    have h3 := hk _ hz
    have h4 := port_le hr hz hk' h1
    omega

set_option maxRecDepth 1000000 in
set_option maxHeartbeats 8000000 in
theorem searchP_any {w : World} {v : Value} {l : List Ch} (p : Int) (hv : Sl w v l) (hr : l.Pairwise Lt) (hl : l.length ≤ 100000) :
    Calls Tryz.prog 123 #[v, .int .i64 p, .func (.func 124) #[] #[]] w
      fun e w' => ∃ (i : Nat) (f : Bool), (e = .returned (.tuple #[.int .i64 i, .bool f])) ∧ FoundP l p i f ∧ Below w.heap.size w w' := by
  have HWF := Lib.hid hv.wf
  obtain ⟨ao, cap, rfl, hcell, hlc, hcm, _⟩ := hv
  have HC := Lib.hid hcell
  have HR := Lib.hid hr
  have hlen : l.length ≤ 9223372036854775807 := by omega
  have HCM := Lib.hid (fun y W => comparePort_any y p W)
  clear hcell hlc hcm hr
  go_enter Tryz.func123, Tryz.ntmps123
  go_wp2
  go_loopg [9, 10] l.length (fun k s9 s10 wr => ∃ lo hi : Nat, s9 = .int .i64 lo ∧ s10 = .int .i64 hi ∧ lo ≤ hi ∧ hi ≤ l.length ∧ hi - lo ≤ k ∧ PPart l p lo hi ∧ Below w.heap.size w wr)
  case atStart => exact ⟨0, l.length, rfl, rfl, Nat.zero_le _, Nat.le_refl _, by omega, PPart.start _ _, Below.refl _ _⟩
  case round =>
    obtain ⟨lo, hi, rfl, rfl, hlh, hin, hg, hpart, hbw⟩ := hrel
    have HG := Lib.hid hg
    have HP := Lib.hid hpart
    have HBW := Lib.hid hbw
    clear hpart hbw hg
    by_cases hlt : lo < hi
    · obtain ⟨y, hy, _⟩ := at_of (show (lo + hi) / 2 < l.length by omega)
      obtain ⟨b, off, rfl, hcc⟩ := HC.out.resolve_left (fun h => by rw [h.2] at hy; simp at hy)
      have q := hcc _ y hy
      have hbl := q.lt
      obtain ⟨c0, c1, c2⟩ := q.below HBW.out hbl
      have HY := Lib.hid hy
      have hm0 : (0 : Int) ≤ ((lo : Int) + (hi : Int)) / 2 := by omega
      have hm1 : ((lo : Int) + (hi : Int)) / 2 < (l.length : Int) := by omega
      have hm2 : (((lo : Int) + (hi : Int)) / 2).toNat = (lo + hi) / 2 := by omega
      by_cases hyx : y.p < p
      case' pos => have hord : cmpI y.p p < 0 := cmpI_neg hyx
      case' neg => have hord : ¬ (cmpI y.p p < 0) := cmpI_not hyx
      all_goals
        have HYX := Lib.hid hyx
        obtain ⟨yp, yt, yd⟩ := y
        simp only at c0 c1 c2 hord
        clear hy hcc q hyx
        go_wp2_with fail
        go_at_call 124
        refine (HCM.out ⟨yp, yt, yd⟩ _).mono ?_
        rintro e w1 ⟨rfl, hcb⟩
        have HB1 := Lib.hid (HBW.out.trans (hcb.mono HBW.out.size))
        clear hcb c0 c1 c2
        go_wp2_with fail
      · go_roundg ((lo + hi) / 2 - lo)
        case measure => have := HG.out; omega
        case rel => exact ⟨lo, (lo + hi) / 2, rfl, by rw [show ((lo : Int) + (hi : Int)) / 2 = (((lo + hi) / 2 : Nat) : Int) by omega], by omega, by omega, Nat.le_refl _, HP.out.down HR.out HY.out (by have := HYX.out; show ¬ yp < p; omega), HB1.out⟩
      · go_roundg (hi - ((lo + hi) / 2 + 1))
        case measure => have := HG.out; omega
        case rel => exact ⟨(lo + hi) / 2 + 1, hi, by rw [show ((lo : Int) + (hi : Int)) / 2 + 1 = (((lo + hi) / 2 + 1 : Nat) : Int) by omega], rfl, by omega, hin, Nat.le_refl _, HP.out.up HR.out HY.out HYX.out, HB1.out⟩
    · obtain rfl : hi = lo := by omega
      by_cases hn : hi < l.length
      · obtain ⟨y, hy, hym⟩ := at_of hn
        obtain ⟨b, off, rfl, hcc⟩ := HC.out.resolve_left (fun h => by rw [h.2] at hy; simp at hy)
        have q := hcc _ y hy
        have hbl := q.lt
        obtain ⟨c0, c1, c2⟩ := q.below HBW.out hbl
        have HY := Lib.hid hy
        have hm0 : (0 : Int) ≤ (hi : Int) := Int.natCast_nonneg _
        have hm1 : (hi : Int) < (l.length : Int) := by omega
        by_cases hyx : y.p = p
        case' pos =>
          have HF := Lib.hid (HP.out.yes HR.out (HWF.out y hym).t1 hy hyx)
          have hord : (cmpI y.p p == 0) = true := cmpI_eq hyx
        case' neg =>
          have HF := Lib.hid (HP.out.no HR.out (fun z hz => by rw [hy] at hz; obtain rfl := Option.some.inj hz; exact hyx))
          have hord : (cmpI y.p p == 0) = false := cmpI_ne hyx
        all_goals
          obtain ⟨yp, yt, yd⟩ := y
          simp only at c0 c1 c2 hord
          clear hy hym hcc q hyx
          go_wp2_with fail
          go_at_call 124
          refine (HCM.out ⟨yp, yt, yd⟩ _).mono ?_
          rintro e w1 ⟨rfl, hcb⟩
          have HB1 := Lib.hid (HBW.out.trans (hcb.mono HBW.out.size))
          clear hcb c0 c1 c2
          go_wp2_with fail
          go_ret2
          exact ⟨hi, _, rfl, HF.out, HB1.out⟩
      · have HF := Lib.hid (HP.out.no HR.out (fun z hz => by have := (List.getElem?_eq_some_iff.1 hz).1; omega))
        have hj2 : decide ((hi : Int) < (l.length : Int)) = false := decide_eq_false (by omega)
        go_wp2_with fail
        go_ret2
        exact ⟨hi, _, rfl, HF.out, HBW.out⟩

set_option maxRecDepth 1000000 in
set_option maxHeartbeats 8000000 in
theorem least_any {w : World} {v : Value} {l : List Ch} (p : Int) (hv : Sl w v l) (hr : l.Pairwise Lt) (hl : l.length ≤ 100000) :
    Calls Tryz.prog 97 #[v, .int .i64 p] w fun e w' => e = .returned (.int .u64 (leastL l p)) ∧ Below w.heap.size w w' := by
  have HS := Lib.hid (searchP_any p hv hr hl)
  obtain ⟨ao, cap, rfl, hcell, hlc, hcm, _⟩ := hv
  have HC := Lib.hid hcell
  have hlen : l.length ≤ 9223372036854775807 := by omega
  clear hcell hlc hcm hr
  go_enter Tryz.func97, Tryz.ntmps97
  go_wp2_with fail
  go_at_call 123
  refine HS.out.mono ?_
  rintro e w1 ⟨i, f, rfl, hf, hb1⟩
  have HB1 := Lib.hid hb1
  rcases hf with ⟨rfl, y, hy, ht⟩ | ⟨rfl, hno⟩
  · have HT := Lib.hid ht
    obtain ⟨b, off, rfl, hcc⟩ := HC.out.resolve_left (fun h => by rw [h.2] at hy; simp at hy)
    have q := hcc _ y hy
    have hbl := q.lt
    obtain ⟨c0, c1, c2⟩ := q.below hb1 hbl
    have hi := (List.getElem?_eq_some_iff.1 hy).1
    have hm0 : (0 : Int) ≤ (i : Int) := Int.natCast_nonneg _
    have hm1 : (i : Int) < (l.length : Int) := by omega
    clear hy ht hcc q hb1 hbl c0 c2
    go_wp2_with fail
    go_ret
    exact ⟨by rw [HT.out]; rfl, HB1.out⟩
  · have HT := Lib.hid hno
    clear hno hb1
    go_wp2_with fail
    go_ret
    exact ⟨by rw [HT.out]; rfl, HB1.out⟩

end Go.Proofs.YtdllgeanmlmmfaaGreatDoor.Batch
namespace Go.Proofs.YtdllgeanmlmmfaaGreatDoor.Cl
open Go.RowKit Gr
set_option linter.unusedVariables false

theorem place1_any (x : Ed) (id : Int) (w : World) : Calls Tryz.prog 127 #[x.agg, .int .i64 id] w fun e w' => e = .returned (.int .i64 (Batch.cmpI x.f id)) ∧ Below w.heap.size w w' := by
  obtain ⟨p, t, d⟩ := x
  have hb : Below w.heap.size w (w.alloc (.cells #[.int .i64 p, .int .i64 t, .int .u64 d] 107)) := (Below.refl _ _).alloc (Nat.le_refl _) _
  have HB := Lib.hid hb
  clear hb
  go_enter Tryz.func127, Tryz.ntmps127
  go_wp2_with fail
  go_at_call 113
  refine (Batch.cmpInt_any p id _).mono ?_
  rintro e w' ⟨rfl, rfl⟩
  go_wp2_with fail
  go_ret
  exact ⟨rfl, HB.out⟩
def HPart (H : List Ed) (id : Int) (lo hi : Nat) : Prop := (∀ k y, k < lo → H[k]? = some y → y.f < id) ∧ (∀ k y, hi ≤ k → H[k]? = some y → ¬ y.f < id)
theorem HPart.start (H : List Ed) (id : Int) : HPart H id 0 H.length := ⟨fun k y h => by omega, fun k y h hy => by have := (List.getElem?_eq_some_iff.1 hy).1; omega⟩
theorem HPart.up {H : List Ed} {id : Int} {y : Ed} {lo hi m : Nat} (hr : Rise H) (h : HPart H id lo hi) (hy : H[m]? = some y) (hl : y.f < id) : HPart H id (m + 1) hi := by
  refine ⟨fun k z hk hz => ?_, h.2⟩
  by_cases e : k = m
  · subst e
    rw [hy] at hz
    obtain rfl := Option.some.inj hz
    exact hl
  · have := rise_lt hr hz hy (by omega)
    omega
theorem HPart.down {H : List Ed} {id : Int} {y : Ed} {lo hi m : Nat} (hr : Rise H) (h : HPart H id lo hi) (hy : H[m]? = some y) (hl : ¬ y.f < id) : HPart H id lo m := by
  refine ⟨h.1, fun k z hk hz => ?_⟩
  by_cases e : k = m
  · subst e
    rw [hy] at hz
    obtain rfl := Option.some.inj hz
    exact hl
  · have := rise_lt hr hy hz (by omega)
    omega
theorem HPart.done {H : List Ed} {id : Int} {i : Nat} (hr : Rise H) (hi : i ≤ H.length) (h : HPart H id i i) : AtP H id i := AtP.of hr hi h.1 h.2

set_option maxRecDepth 1000000 in
set_option maxHeartbeats 8000000 in
theorem searchH_any {w : World} {v : Value} {l : List Ed} (p : Int) (hv : Sl w v l) (hr : Rise l) (hl : l.length ≤ 100000) :
    Calls Tryz.prog 126 #[v, .int .i64 p, .func (.func 127) #[] #[]] w
      fun e w' => e = .returned (.tuple #[.int .i64 (idx l p : Int), .bool (hasB l p)]) ∧ Below w.heap.size w w' := by
  obtain ⟨ao, cap, rfl, hcell, hlc, hcm, _⟩ := hv
  have HC := Lib.hid hcell
  have HR := Lib.hid hr
  have hlen : l.length ≤ 9223372036854775807 := by omega
  have HCM := Lib.hid (fun y W => place1_any y p W)
  clear hcell hlc hcm hr
  go_enter Tryz.func126, Tryz.ntmps126
  go_wp2
  go_loopg [9, 10] l.length (fun k s9 s10 wr => ∃ lo hi : Nat, s9 = .int .i64 lo ∧ s10 = .int .i64 hi ∧ lo ≤ hi ∧ hi ≤ l.length ∧ hi - lo ≤ k ∧ HPart l p lo hi ∧ Below w.heap.size w wr)
  case atStart => exact ⟨0, l.length, rfl, rfl, Nat.zero_le _, Nat.le_refl _, by omega, HPart.start _ _, Below.refl _ _⟩
  case round =>
    obtain ⟨lo, hi, rfl, rfl, hlh, hin, hg, hpart, hbw⟩ := hrel
    have HG := Lib.hid hg
    have HP := Lib.hid hpart
    have HBW := Lib.hid hbw
    clear hpart hbw hg
    by_cases hlt : lo < hi
    · obtain ⟨y, hy, _⟩ := Gr.at_of (show (lo + hi) / 2 < l.length by omega)
      obtain ⟨b, off, rfl, hcc⟩ := HC.out.resolve_left (fun h => by rw [h.2] at hy; simp at hy)
      have q := hcc _ y hy
      have hbl := q.lt
      obtain ⟨c0, c1, c2⟩ := q.below HBW.out hbl
      have HY := Lib.hid hy
      have hm0 : (0 : Int) ≤ ((lo : Int) + (hi : Int)) / 2 := by omega
      have hm1 : ((lo : Int) + (hi : Int)) / 2 < (l.length : Int) := by omega
      have hm2 : (((lo : Int) + (hi : Int)) / 2).toNat = (lo + hi) / 2 := by omega
      by_cases hyx : y.f < p
      case' pos => have hord : Batch.cmpI y.f p < 0 := Batch.cmpI_neg hyx
      case' neg => have hord : ¬ (Batch.cmpI y.f p < 0) := Batch.cmpI_not hyx
      all_goals
        have HYX := Lib.hid hyx
        obtain ⟨yp, yt, yd⟩ := y
        simp only at c0 c1 c2 hord
        clear hy hcc q hyx
        go_wp2_with fail
        go_at_call 127
        refine (HCM.out ⟨yp, yt, yd⟩ _).mono ?_
        rintro e w1 ⟨rfl, hcb⟩
        have HB1 := Lib.hid (HBW.out.trans (hcb.mono HBW.out.size))
        clear hcb c0 c1 c2
        go_wp2_with fail
      · go_roundg ((lo + hi) / 2 - lo)
        case measure => have := HG.out; omega
        case rel => exact ⟨lo, (lo + hi) / 2, rfl, by rw [show ((lo : Int) + (hi : Int)) / 2 = (((lo + hi) / 2 : Nat) : Int) by omega], by omega, by omega, Nat.le_refl _, HP.out.down HR.out HY.out (by have := HYX.out; show ¬ yp < p; omega), HB1.out⟩
      · go_roundg (hi - ((lo + hi) / 2 + 1))
        case measure => have := HG.out; omega
        case rel => exact ⟨(lo + hi) / 2 + 1, hi, by rw [show ((lo : Int) + (hi : Int)) / 2 + 1 = (((lo + hi) / 2 + 1 : Nat) : Int) by omega], rfl, by omega, hin, Nat.le_refl _, HP.out.up HR.out HY.out HYX.out, HB1.out⟩
    · obtain rfl : hi = lo := by omega
      have ha := HP.out.done HR.out hin
      have HI := Lib.hid ha.idx
      by_cases hn : hi < l.length
      · obtain ⟨y, hy, hym⟩ := Gr.at_of hn
        obtain ⟨b, off, rfl, hcc⟩ := HC.out.resolve_left (fun h => by rw [h.2] at hy; simp at hy)
        have q := hcc _ y hy
        have hbl := q.lt
        obtain ⟨c0, c1, c2⟩ := q.below HBW.out hbl
        have hm0 : (0 : Int) ≤ (hi : Int) := Int.natCast_nonneg _
        have hm1 : (hi : Int) < (l.length : Int) := by omega
        by_cases hyx : y.f = p
        case' pos =>
          have HF := Lib.hid (has_at hy hyx)
          have hord : (Batch.cmpI y.f p == 0) = true := Batch.cmpI_eq hyx
        case' neg =>
          have HF := Lib.hid (no_at HR.out ha (fun z hz => by rw [hy] at hz; obtain rfl := Option.some.inj hz; exact hyx))
          have hord : (Batch.cmpI y.f p == 0) = false := Batch.cmpI_ne hyx
        all_goals
          obtain ⟨yp, yt, yd⟩ := y
          simp only at c0 c1 c2 hord
          clear hy hym hcc q hyx ha
          go_wp2_with fail
          go_at_call 127
          refine (HCM.out ⟨yp, yt, yd⟩ _).mono ?_
          rintro e w1 ⟨rfl, hcb⟩
          have HB1 := Lib.hid (HBW.out.trans (hcb.mono HBW.out.size))
          clear hcb c0 c1 c2
          go_wp2_with fail
          go_ret2
          exact ⟨by rw [HI.out, HF.out]; rfl, HB1.out⟩
      · have HF := Lib.hid (no_at HR.out ha (fun z hz => by have := (List.getElem?_eq_some_iff.1 hz).1; omega))
        have hj2 : decide ((hi : Int) < (l.length : Int)) = false := decide_eq_false (by omega)
        clear ha
        go_wp2_with fail
        go_ret2
        exact ⟨by rw [HI.out, HF.out]; rfl, HBW.out⟩

theorem place_any {w : World} {v vb : Value} {l : List Ed} (p : Int) (hv : Sl w v l) (hr : Rise l) (hl : l.length ≤ 100000) :
    Calls Tryz.prog 100 #[.agg #[v, vb], .int .i64 p] w fun e w' => e = .returned (.tuple #[.int .i64 (idx l p : Int), .bool (hasB l p)]) ∧ Below w.heap.size w w' := by
  have hb : Below w.heap.size w (w.alloc (.cells #[v, vb] 60)) := (Below.refl _ _).alloc (Nat.le_refl _) _
  have HS := Lib.hid (searchH_any p (hv.below hb) hr hl)
  have HB := Lib.hid hb
  clear hb hr hv
  go_enter Tryz.func100, Tryz.ntmps100
  go_wp2_with fail
  go_at_call 126
  refine HS.out.mono ?_
  rintro e w1 ⟨rfl, hb1⟩
  have HB1 := Lib.hid (HB.out.trans (hb1.mono HB.out.size))
  clear hb1
  go_wp2_with fail
  go_ret2
  exact ⟨rfl, HB1.out⟩
theorem pair_cells {w : World} {G : Nat} {x y : Value} {T : TypeId} (h : w.heap[G]? = some (.cells #[x, y] T (0, 0))) : w.cell? ⟨G, 0, none⟩ = some x ∧ w.cell? ⟨G, 1, none⟩ = some y ∧ ∀ o, w.frozen? ⟨G, o, none⟩ = false :=
  ⟨by rw [cell_of_row _ G 0 _ T (0, 0) h]; rfl, by rw [cell_of_row _ G 1 _ T (0, 0) h]; rfl, fun o => by simp [World.frozen?, h]⟩
theorem trip_cells {w : World} {G : Nat} {x y z : Value} {T : TypeId} (h : w.heap[G]? = some (.cells #[x, y, z] T (0, 0))) : w.cell? ⟨G, 0, none⟩ = some x ∧ w.cell? ⟨G, 1, none⟩ = some y ∧ w.cell? ⟨G, 2, none⟩ = some z ∧ ∀ o, w.frozen? ⟨G, o, none⟩ = false := by
  refine ⟨?_, ?_, ?_, fun o => ?_⟩ <;> simp [World.cell?, World.frozen?, h]
set_option maxRecDepth 1000000 in
set_option maxHeartbeats 8000000 in
/-- The handle that is told. -/
theorem find_yes {w : World} {v vb : Value} {l : List Ed} {x : Ed} (p : Int) (hv : Sl w v l) (hr : Rise l) (hl : l.length ≤ 100000) (hh : hasB l p = true) (hx : l[idx l p]? = some x) :
    Calls Tryz.prog 98 #[.agg #[v, vb], .int .i64 p] w fun e w' => e = .returned (.tuple #[x.agg, .bool true]) ∧ Below w.heap.size w w' := by
  have HP := Lib.hid (fun W h => place_any (w := W) (vb := vb) (l := l) (v := v) p h hr hl)
  have HV := Lib.hid hv
  have HH := Lib.hid hh
  obtain ⟨ao, cap, rfl, hcell, hlc, hcm, hwf⟩ := hv
  obtain ⟨b, off, rfl, hcc⟩ := hcell.resolve_left (fun h => by rw [h.2] at hx; simp at hx)
  have q := hcc _ x hx
  have hbl := q.lt
  have hil := (List.getElem?_eq_some_iff.1 hx).1
  obtain ⟨i, hi⟩ : ∃ i, i = idx l p := ⟨_, rfl⟩
  rw [← hi] at q hil
  have HI := Lib.hid hi
  have hi0 : (0 : Int) ≤ (i : Int) := Int.natCast_nonneg _
  have hi1 : (i : Int) < (l.length : Int) := by omega
  obtain ⟨xp, xt, xd⟩ := x
  obtain ⟨w0, hw0⟩ : ∃ w0, w0 = (w.alloc (.cells #[.slice (some ⟨b, off, none⟩) l.length cap, vb] 60)).alloc (.cells #[.int .i64 0, .int .i64 0, .int .u64 0] 107) := ⟨_, rfl⟩
  have hb0 : Below w.heap.size w w0 := by rw [hw0]; exact ((Below.refl _ _).alloc (Nat.le_refl _) _).alloc (by simp) _
  have hs0 : w0.heap.size = w.heap.size + 1 + 1 := by rw [hw0]; simp
  have hx0 : w0.heap[w.heap.size]? = some (.cells #[.slice (some ⟨b, off, none⟩) l.length cap, vb] 60 (0, 0)) := by
    rw [hw0, heap_alloc_old _ _ (by simp)]; exact heap_alloc_new w _
  have hy0 : w0.heap[w.heap.size + 1]? = some (.cells #[.int .i64 0, .int .i64 0, .int .u64 0] 107 (0, 0)) := by
    rw [hw0]; have := heap_alloc_new (w.alloc (.cells #[.slice (some ⟨b, off, none⟩) l.length cap, vb] 60)) (.cells #[.int .i64 0, .int .i64 0, .int .u64 0] 107); simpa using this
  have HX := Lib.hid hx0
  have HY := Lib.hid hy0
  have HB0 := Lib.hid hb0
  have HS0 := Lib.hid hs0
  have HQ := Lib.hid q
  clear hcell hcc hx q hb0 hs0 hx0 hy0 hi hh hr hwf hlc hcm
  go_enter Tryz.func98, Tryz.ntmps98
  go_wp2_with fail
  go_at_call 100
  rw [← hw0]
  clear hw0
  refine (HP.out w0 (HV.out.below HB0.out)).mono ?_
  rw [← HI.out, HH.out]
  rintro e w1 ⟨rfl, hb⟩
  have hlt0 : w.heap.size < w0.heap.size := by have := HS0.out; omega
  have hlt1 : w.heap.size + 1 < w0.heap.size := by have := HS0.out; omega
  obtain ⟨x0, x1, _⟩ := pair_cells ((hb.block _ hlt0).trans HX.out)
  obtain ⟨y0, y1, y2, yf⟩ := trip_cells ((hb.block _ hlt1).trans HY.out)
  have yf0 := yf 0
  have yf1 := yf 1
  have yf2 := yf 2
  have HB1 := Lib.hid (HB0.out.trans (hb.mono HB0.out.size))
  obtain ⟨c0, c1, c2⟩ := HQ.out.below HB1.out hbl
  have HR := Lib.hid (trip_cells (heap_setCell_same _ (w.heap.size + 1) 2 _ _ (.int .u64 xd) (heap_setCell_same _ (w.heap.size + 1) 1 _ _ (.int .i64 xt) (heap_setCell_same w1 (w.heap.size + 1) 0 _ _ (.int .i64 xp) ((hb.block _ hlt1).trans HY.out)))))
  clear hb yf hlt0 hlt1
  go_wp2_with fail
  obtain ⟨r0, r1, r2, _⟩ := HR.out
  refine bodyPost_ret (v := .tuple #[.agg #[.int .i64 xp, .int .i64 xt, .int .u64 xd], .bool true]) (by simp [results, Tryz.results98, go_sem, r0, r1, r2]) rfl ⟨rfl, ?_⟩
  exact ((HB1.out.setCell (p := ⟨w.heap.size + 1, 0, none⟩) (Nat.le_succ _) _).setCell (p := ⟨w.heap.size + 1, 1, none⟩) (Nat.le_succ _) _).setCell (p := ⟨w.heap.size + 1, 2, none⟩) (Nat.le_succ _) _
end Go.Proofs.YtdllgeanmlmmfaaGreatDoor.Cl
