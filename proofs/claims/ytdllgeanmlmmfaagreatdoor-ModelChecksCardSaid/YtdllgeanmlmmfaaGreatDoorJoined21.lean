/-
  PACKAGE batch: the library's binary search at Changes; Of.
  PACKAGE bag: Apply.
-/
import Derived.Test.YtdllgeanmlmmfaaGreatDoorJoined7
import Derived.Test.YtdllgeanmlmmfaaGreatDoorJoined8
namespace Go.Proofs.YtdllgeanmlmmfaaGreatDoor.Batch
open Go.RowKit
set_option linter.unusedVariables false

def Parted (l : List Ch) (x : Ch) (lo hi : Nat) : Prop := (∀ k y, k < lo → l[k]? = some y → Lt y x) ∧ (∀ k y, hi ≤ k → l[k]? = some y → ¬ Lt y x)
theorem Parted.start (l : List Ch) (x : Ch) : Parted l x 0 l.length := ⟨fun k y h => by omega, fun k y h hy => by have := (List.getElem?_eq_some_iff.1 hy).1; omega⟩
theorem rising_at {l : List Ch} (h : l.Pairwise Lt) {i j : Nat} {x y : Ch} (hx : l[i]? = some x) (hy : l[j]? = some y) (hij : i < j) : Lt x y := by
  obtain ⟨h1, e1⟩ := List.getElem?_eq_some_iff.1 hx
  obtain ⟨h2, e2⟩ := List.getElem?_eq_some_iff.1 hy
  have := (List.pairwise_iff_getElem.1 h) i j h1 h2 hij
  rw [e1, e2] at this
  exact this
theorem Parted.up {l : List Ch} {x y : Ch} {lo hi m : Nat} (hr : l.Pairwise Lt) (h : Parted l x lo hi) (hy : l[m]? = some y) (hl : Lt y x) : Parted l x (m + 1) hi := by
  refine ⟨fun k z hk hz => ?_, h.2⟩
  by_cases e : k = m
  · subst e
    rw [hy] at hz
    obtain rfl := Option.some.inj hz
    exact hl
  · exact (rising_at hr hz hy (by omega)).trans hl
theorem Parted.down {l : List Ch} {x y : Ch} {lo hi m : Nat} (hr : l.Pairwise Lt) (h : Parted l x lo hi) (hy : l[m]? = some y) (hl : ¬ Lt y x) : Parted l x lo m := by
  refine ⟨h.1, fun k z hk hz => ?_⟩
  by_cases e : k = m
  · subst e
    rw [hy] at hz
    obtain rfl := Option.some.inj hz
    exact hl
  · exact fun hzx => hl ((rising_at hr hy hz (by omega)).trans hzx)
/-- What the search tells. -/
def Found (l : List Ch) (x : Ch) (i : Nat) (f : Bool) : Prop := (f = true ∧ ∃ y, l[i]? = some y ∧ Key y x) ∨ (f = false ∧ ∀ y ∈ l, ¬ Key y x)
theorem Parted.yes {l : List Ch} {x y : Ch} {i : Nat} (hy : l[i]? = some y) (hk : Key y x) : Found l x i true := .inl ⟨rfl, y, hy, hk⟩
theorem Parted.no {l : List Ch} {x : Ch} {i : Nat} (hr : l.Pairwise Lt) (h : Parted l x i i) (hk : ∀ y, l[i]? = some y → ¬ Key y x) : Found l x i false := by
  refine .inr ⟨rfl, fun y hy hyx => ?_⟩
  obtain ⟨k, hk'⟩ := List.mem_iff_getElem?.1 hy
  rcases Nat.lt_trichotomy k i with h1 | h1 | h1
  · exact (h.1 k y h1 hk').not_key hyx
  · subst h1; exact hk y hk' hyx
  · have hlt : i < l.length := by have := (List.getElem?_eq_some_iff.1 hk').1; omega
    have hz : l[i]? = some l[i] := List.getElem?_eq_getElem hlt
    have h2 := h.2 i _ (Nat.le_refl _) hz
    have h3 := hk _ hz
    have h4 := rising_at hr hz hk' h1
    unfold Lt Key at *
    omega

set_option maxRecDepth 1000000 in
set_option maxHeartbeats 8000000 in
theorem search_any {w : World} {v : Value} {l : List Ch} (x : Ch) (hv : Sl w v l) (hr : l.Pairwise Lt) (hl : l.length ≤ 100000) :
    Calls Tryz.prog 122 #[v, x.agg, .func (.func 108) #[] #[]] w
      fun e w' => ∃ (i : Nat) (f : Bool), (e = .returned (.tuple #[.int .i64 i, .bool f])) ∧ Found l x i f ∧ Below w.heap.size w w' := by
  obtain ⟨ao, cap, rfl, hcell, hlc, hcm, _⟩ := hv
  have HC := Lib.hid hcell
  have HR := Lib.hid hr
  have hlen : l.length ≤ 9223372036854775807 := by omega
  have HCM := Lib.hid (fun y W => cmpB_any y x W)
  obtain ⟨p, t, d⟩ := x
  clear hcell hlc hcm hr
  go_enter Tryz.func122, Tryz.ntmps122
  go_wp2
  go_loopg [9, 10] l.length (fun k s9 s10 wr => ∃ lo hi : Nat, s9 = .int .i64 lo ∧ s10 = .int .i64 hi ∧ lo ≤ hi ∧ hi ≤ l.length ∧ hi - lo ≤ k ∧ Parted l ⟨p, t, d⟩ lo hi ∧ Below w.heap.size w wr ∧ wr.heap[w.heap.size]? = some (.cells #[.int .i64 p, .int .u64 t, .int .i64 d] 103 (0, 0)))
  case atStart =>
    refine ⟨0, l.length, rfl, rfl, Nat.zero_le _, Nat.le_refl _, by omega, Parted.start _ _, ?_, ?_⟩
    · exact (Below.refl _ _).alloc (Nat.le_refl _) _
    · exact heap_alloc_new w _
  case round =>
    obtain ⟨lo, hi, rfl, rfl, hlh, hin, hg, hpart, hbw, hblk⟩ := hrel
    have HG := Lib.hid hg
    have HP := Lib.hid hpart
    have HBW := Lib.hid hbw
    have HBLK := Lib.hid hblk
    obtain ⟨s0, s1, s2, _⟩ := one_cells hblk
    have hGlt : w.heap.size < wr.heap.size := (Array.getElem?_eq_some_iff.1 hblk).1
    clear hpart hbw hblk hg
    by_cases hlt : lo < hi
    · obtain ⟨y, hy, _⟩ := at_of (show (lo + hi) / 2 < l.length by omega)
      obtain ⟨b, off, rfl, hcc⟩ := HC.out.resolve_left (fun h => by rw [h.2] at hy; simp at hy)
      have q := hcc _ y hy
      have hbl := q.lt
      obtain ⟨c0, c1, c2⟩ := q.below HBW.out hbl
      have HY := Lib.hid hy
      have hm0 : (0 : Int) ≤ ((lo : Int) + (hi : Int)) / 2 := by omega
      have hm1 : ((lo : Int) + (hi : Int)) / 2 < (l.length : Int) := by omega
      have hm2 : (((lo : Int) + (hi : Int)) / 2).toNat = (lo + hi) / 2 := by omega
      by_cases hyx : Lt y ⟨p, t, d⟩
      case' pos => have hord : ordI y ⟨p, t, d⟩ < 0 := ordI_neg.2 hyx
      case' neg => have hord : ¬ (ordI y ⟨p, t, d⟩ < 0) := fun h => hyx (ordI_neg.1 h)
      all_goals
        have HYX := Lib.hid hyx
        obtain ⟨yp, yt, yd⟩ := y
        simp only at c0 c1 c2
        clear hy hcc q hyx
        go_wp2_with fail
        go_region_held3 (fun w' => w'.cell? ⟨w.heap.size, 0, none⟩ = some (.int .i64 p) ∧ w'.cell? ⟨w.heap.size, 1, none⟩ = some (.int .u64 t) ∧ w'.cell? ⟨w.heap.size, 2, none⟩ = some (.int .i64 d) ∧ w'.cell? ⟨b, off + (lo + hi) / 2 * 3, none⟩ = some (.int .i64 yp) ∧ w'.cell? ⟨b, off + (lo + hi) / 2 * 3 + 1, none⟩ = some (.int .u64 yt) ∧ w'.cell? ⟨b, off + (lo + hi) / 2 * 3 + 2, none⟩ = some (.int .i64 yd))
          (first
            | go_keep
            | (go_split_ands
               refine ⟨?_, ?_, ?_, ?_, ?_, ?_⟩ <;> (rw [hcb.cell (by simp; omega)]; assumption)))
          ((go_at_call 108; refine (HCM.out ⟨yp, yt, yd⟩ _).mono ?_; rintro e w1 ⟨rfl, hcb⟩))
        have hb1 : Below wr.heap.size wr w1 := ((Below.refl _ _).drew).trans hcb
        have HB1 := Lib.hid (HBW.out.trans (hb1.mono HBW.out.size))
        have HBLK1 := Lib.hid ((hb1.block w.heap.size hGlt).trans HBLK.out)
        clear hcb hb1 c0 c1 c2 s0 s1 s2
        go_wp2_with fail
      · go_roundg ((lo + hi) / 2 - lo)
        case measure => have := HG.out; omega
        case rel => exact ⟨lo, (lo + hi) / 2, rfl, by rw [show ((lo : Int) + (hi : Int)) / 2 = (((lo + hi) / 2 : Nat) : Int) by omega], by omega, by omega, Nat.le_refl _, HP.out.down HR.out HY.out HYX.out, HB1.out, HBLK1.out⟩
      · go_roundg (hi - ((lo + hi) / 2 + 1))
        case measure => have := HG.out; omega
        case rel => exact ⟨(lo + hi) / 2 + 1, hi, by rw [show ((lo : Int) + (hi : Int)) / 2 + 1 = (((lo + hi) / 2 + 1 : Nat) : Int) by omega], rfl, by omega, hin, Nat.le_refl _, HP.out.up HR.out HY.out HYX.out, HB1.out, HBLK1.out⟩
    · obtain rfl : hi = lo := by omega
      by_cases hn : hi < l.length
      · obtain ⟨y, hy, _⟩ := at_of hn
        obtain ⟨b, off, rfl, hcc⟩ := HC.out.resolve_left (fun h => by rw [h.2] at hy; simp at hy)
        have q := hcc _ y hy
        have hbl := q.lt
        obtain ⟨c0, c1, c2⟩ := q.below HBW.out hbl
        have HY := Lib.hid hy
        have hm0 : (0 : Int) ≤ (hi : Int) := Int.natCast_nonneg _
        have hm1 : (hi : Int) < (l.length : Int) := by omega
        by_cases hyx : Key y ⟨p, t, d⟩
        case' pos =>
          have HF := Lib.hid (Parted.yes hy hyx)
          have hord : (ordI y ⟨p, t, d⟩ == 0) = true := eqZ_true hyx
        case' neg =>
          have HF := Lib.hid (HP.out.no HR.out (fun z hz => by rw [hy] at hz; obtain rfl := Option.some.inj hz; exact hyx))
          have hord : (ordI y ⟨p, t, d⟩ == 0) = false := eqZ_false hyx
        all_goals
          obtain ⟨yp, yt, yd⟩ := y
          simp only at c0 c1 c2
          clear hy hcc q hyx
          go_wp2_with fail
          go_region_held3 (fun w' => w'.cell? ⟨w.heap.size, 0, none⟩ = some (.int .i64 p) ∧ w'.cell? ⟨w.heap.size, 1, none⟩ = some (.int .u64 t) ∧ w'.cell? ⟨w.heap.size, 2, none⟩ = some (.int .i64 d) ∧ w'.cell? ⟨b, off + hi * 3, none⟩ = some (.int .i64 yp) ∧ w'.cell? ⟨b, off + hi * 3 + 1, none⟩ = some (.int .u64 yt) ∧ w'.cell? ⟨b, off + hi * 3 + 2, none⟩ = some (.int .i64 yd))
            (first
              | go_keep
              | (go_split_ands
                 refine ⟨?_, ?_, ?_, ?_, ?_, ?_⟩ <;> (rw [hcb.cell (by simp; omega)]; assumption)))
            ((go_at_call 108; refine (HCM.out ⟨yp, yt, yd⟩ _).mono ?_; rintro e w1 ⟨rfl, hcb⟩))
          have hb1 : Below wr.heap.size wr w1 := ((Below.refl _ _).drew).trans hcb
          have HB1 := Lib.hid (HBW.out.trans (hb1.mono HBW.out.size))
          clear hcb hb1 c0 c1 c2 s0 s1 s2
          go_wp2_with fail
          go_ret2
          exact ⟨hi, _, rfl, HF.out, HB1.out⟩
      · have HF := Lib.hid (HP.out.no HR.out (fun z hz => by have := (List.getElem?_eq_some_iff.1 hz).1; omega))
        have hj2 : decide ((hi : Int) < (l.length : Int)) = false := decide_eq_false (by omega)
        go_wp2_with fail
        go_quiet (fail)
        go_wp2_with fail
        go_ret2
        exact ⟨hi, _, rfl, HF.out, below_drewN HBW.out _⟩

set_option maxRecDepth 1000000 in
set_option maxHeartbeats 8000000 in
theorem of_any {w : World} {v : Value} {l : List Ch} (p t : Int) (hv : Sl w v l) (hr : l.Pairwise Lt) (hl : l.length ≤ 100000) :
    Calls Tryz.prog 96 #[v, .int .i64 p, .int .u64 t] w fun e w' => e = .returned (.int .i64 (tot l p t)) ∧ Below w.heap.size w w' := by
  have HS := Lib.hid (search_any ⟨p, t, 0⟩ hv hr hl)
  have HR := Lib.hid hr
  obtain ⟨ao, cap, rfl, hcell, hlc, hcm, _⟩ := hv
  have HC := Lib.hid hcell
  have hlen : l.length ≤ 9223372036854775807 := by omega
  clear hcell hlc hcm hr
  go_enter Tryz.func96, Tryz.ntmps96
  go_wp2_with fail
  go_at_call 122
  refine HS.out.mono ?_
  rintro e w1 ⟨i, f, rfl, hf, hb1⟩
  have HB1 := Lib.hid hb1
  rcases hf with ⟨rfl, y, hy, hk⟩ | ⟨rfl, hno⟩
  · have HT := Lib.hid (show tot l p t = y.d by rw [← tot_one HR.out (List.mem_of_getElem? hy), hk.1, hk.2])
    obtain ⟨b, off, rfl, hcc⟩ := HC.out.resolve_left (fun h => by rw [h.2] at hy; simp at hy)
    have q := hcc _ y hy
    have hbl := q.lt
    obtain ⟨c0, c1, c2⟩ := q.below hb1 hbl
    have hi := (List.getElem?_eq_some_iff.1 hy).1
    have hm0 : (0 : Int) ≤ (i : Int) := Int.natCast_nonneg _
    have hm1 : (i : Int) < (l.length : Int) := by omega
    clear hy hk hcc q hb1 hbl c0 c1
    go_wp2_with fail
    go_ret
    exact ⟨by rw [HT.out]; rfl, HB1.out⟩
  · have HT := Lib.hid (show tot l p t = 0 from tot_none fun x hx hk => hno x hx ⟨hk.1, hk.2⟩)
    clear hno hb1
    go_wp2_with fail
    go_ret
    exact ⟨by rw [HT.out]; rfl, HB1.out⟩
end Go.Proofs.YtdllgeanmlmmfaaGreatDoor.Batch
namespace Go.Proofs.YtdllgeanmlmmfaaGreatDoor.Batch
open Go.RowKit
set_option linter.unusedVariables false

theorem of_at {w0 w : World} {v : Value} {l : List Ch} (p t : Int) (hv : Sl w0 v l) (hr : l.Pairwise Lt) (hl : l.length ≤ 100000) (hb : Below w0.heap.size w0 w) :
    Calls Tryz.prog 96 #[v, .int .i64 p, .int .u64 t] w fun e w' => e = .returned (.int .i64 (tot l p t)) ∧ Below w.heap.size w w' := of_any p t (hv.below hb) hr hl

set_option maxRecDepth 1000000 in
set_option maxHeartbeats 8000000 in
theorem apply_any {w : World} {vb vc : Value} {B C : List Ch} (hvb : Sl w vb B) (hvc : Sl w vc C) (hB : RightP B) (hC : RightP C) (hl : B.length + C.length ≤ 100000) :
    Calls Tryz.prog 70 #[vb, vc] w fun e w' => ∃ v' : Value, (e = .returned (.tuple #[v', .int .i64 (applyE B C)])) ∧ Own w' w.heap.size 103 v' (applyR B C) ∧ Below w.heap.size w w' := by
  have HVB := Lib.hid hvb
  have HVC := Lib.hid hvc
  have HB := Lib.hid hB
  have HCR := Lib.hid hC
  have HL := Lib.hid hl
  have hl1 : B.length ≤ 100000 := by omega
  have HL1 := Lib.hid hl1
  obtain ⟨ab, cb, rfl, _⟩ := hvb
  obtain ⟨ac, cc, rfl, hcell, hlc, hcm, _⟩ := hvc
  have HC := Lib.hid hcell
  have hlen : C.length ≤ 9223372036854775807 := by omega
  have HOF := Lib.hid (fun p t W h => of_at p t HVB.out HB.out.2 HL1.out (w := W) h)
  clear hcell hlc hcm hB hC hl hl1
  go_enter Tryz.func70, Tryz.ntmps70
  go_wp2
  go_loopg [10] C.length (fun k t wr => ∃ i : Nat, i + k = C.length ∧ t = .int .i64 i ∧ (∀ y ∈ C.take i, ¬ (tot B y.p y.t + y.d < 0)) ∧ Below w.heap.size w wr)
  case atStart => exact ⟨0, by omega, rfl, by simp, Below.refl _ _⟩
  case round =>
    obtain ⟨i, hik, rfl, hok, hbw⟩ := hrel
    have HIK := Lib.hid hik
    have HOK := Lib.hid hok
    have HBW := Lib.hid hbw
    clear hok hbw hik
    have hbs : w.heap.size ≤ wr.heap.size := HBW.out.size
    by_cases hlt1 : i < C.length
    · obtain ⟨x, hx, hxm⟩ := at_of hlt1
      obtain ⟨b, off, rfl, hcc⟩ := HC.out.resolve_left (fun h => by rw [h.2] at hlt1; simp at hlt1)
      have q := hcc i x hx
      have hbl := q.lt
      obtain ⟨c0, c1, c2⟩ := q.below HBW.out hbl
      have HX := Lib.hid hx
      have HXM := Lib.hid hxm
      have hi0' : (0 : Int) ≤ (i : Int) := Int.natCast_nonneg _
      have hi1 : (i : Int) < (C.length : Int) := by omega
      have HLT := Lib.hid hlt1
      have hd := HCR.out.d x hxm
      have ht := HB.out.totR x.p x.t
      have hd0 : -576460752303423488 ≤ x.d := hd.1
      have hd1 : x.d ≤ 576460752303423488 := hd.2
      by_cases hn : tot B x.p x.t + x.d < 0
      case' pos => have HN := Lib.hid (apply_neg (anyNeg_at hxm hn))
      case' neg =>
        have HN := Lib.hid (show ∀ y ∈ C.take (i + 1), ¬ (tot B y.p y.t + y.d < 0) by
          intro y hy
          rw [take_succ' hx] at hy
          rcases List.mem_append.1 hy with hy | hy
          · exact HOK.out y hy
          · simp at hy; subst hy; exact hn)
      all_goals
        obtain ⟨p, t, d⟩ := x
        simp only at c0 c1 c2 hn ht hd0 hd1
        have HOFX := Lib.hid (fun W h => HOF.out p t W h)
        have HTV : ∃ tv, tv = tot B p t := ⟨_, rfl⟩
        obtain ⟨tv, htv⟩ := HTV
        rw [← htv] at hn ht HOFX
        have hw : IntKind.i64.wrap (tv + d) = tv + d := by rw [wr_i64, wr_id (by omega) (by omega)]
        have ht0 := ht.1
        have ht1 := ht.2
        clear hx hxm hcc q hbl hd ht htv
        go_wp2_with fail
        go_region_held3 (fun w' => w'.cell? ⟨wr.heap.size, 0, none⟩ = some (.int .i64 p) ∧ w'.cell? ⟨wr.heap.size, 1, none⟩ = some (.int .u64 t) ∧ w'.cell? ⟨wr.heap.size, 2, none⟩ = some (.int .i64 d))
          (first
            | go_keep
            | (go_split_ands
               refine ⟨?_, ?_, ?_⟩ <;> (rw [hcb.cell (by simp)]; assumption)))
          ((go_at_call 96; refine (HOFX.out _ ((HBW.out.alloc hbs _).drew)).mono ?_; rintro e w1 ⟨rfl, hcb⟩))
        have HB1 := Lib.hid (((HBW.out.alloc hbs (.cells #[.int .i64 p, .int .u64 t, .int .i64 d] 103)).drew).trans (hcb.mono (by simp; omega)))
        clear hcb c0 c1 c2
        go_wp2_with fail
      · go_roundg (gk - 1)
        case measure => have := HIK.out; have := HLT.out; omega
        case rel => exact ⟨i + 1, by have := HIK.out; have := HLT.out; omega, by go_num, HN.out, HB1.out⟩
      · go_ret2
        refine ⟨_, ret_two HN.out.1.symm, ?_, HB1.out⟩
        rw [HN.out.2]
        exact Own.nil _ _ _
    · have HN := Lib.hid (apply_not (anyNeg_no (B := B) (C := C) (fun y hy => HOK.out y (by rw [take_all (by omega)]; exact hy))))
      have HM := Lib.hid (merge_any (HVB.out.below HBW.out) (HVC.out.below HBW.out) (RightP.sorted HB.out) (RightP.sorted HCR.out) HL.out)
      go_wp2_with fail
      go_at_call 41
      refine HM.out.mono ?_
      rintro e w1 ⟨v1, rfl, hown, hb1⟩
      have HO := Lib.hid (hown.mono hbs)
      have HB1 := Lib.hid (HBW.out.trans (hb1.mono hbs))
      clear hown hb1
      go_wp2_with fail
      go_ret2
      refine ⟨_, ret_two HN.out.1.symm, ?_, HB1.out⟩
      rw [HN.out.2]
      exact HO.out
end Go.Proofs.YtdllgeanmlmmfaaGreatDoor.Batch
