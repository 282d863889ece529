/-
  YtlkljeedlkbkgaaGreatDoorBatchOf
  YtlkljeedlkbkgaaGreatDoorClLets
  YtlkljeedlkbkgaaGreatDoorClWrong
  YtlkljeedlkbkgaaGreatDoorBagApply
-/
import Derived.Test.YtlkljeedlkbkgaaGreatDoorJoined7
import Derived.Test.YtlkljeedlkbkgaaGreatDoorJoined13
import Derived.Deep.QuietTactic
import Derived.BigQuiet
import Derived.Deep.RegionHeld3
import Derived.Test.YtlkljeedlkbkgaaGreatDoorJoined8
namespace Go.Proofs.YtlkljeedlkbkgaaGreatDoor.Batch
open Go.RowKit
set_option linter.unusedVariables false
def Parted (l : List Ch) (x : Ch) (lo hi : Nat) : Prop := (∀ k y, k < lo → l[k]? = some y → Lt y x) ∧ (∀ k y, hi ≤ k → l[k]? = some y → ¬ Lt y x)
theorem Parted.start (l : List Ch) (x : Ch) : Parted l x 0 l.length := ⟨fun k y h => by omega, fun k y h hy => by have := (List.getElem?_eq_some_iff.1 hy).1; omega⟩
theorem rising_at {l : List Ch} (h : l.Pairwise Lt) {i j : Nat} {x y : Ch} (hx : l[i]? = some x) (hy : l[j]? = some y) (hij : i < j) : Lt x y := by
  obtain ⟨h1, e1⟩ := List.getElem?_eq_some_iff.1 hx
  obtain ⟨h2, e2⟩ := List.getElem?_eq_some_iff.1 hy
  have := (List.pairwise_iff_getElem.1 h) i j h1 h2 hij
  rw [e1, e2] at this
  exact this
theorem Parted.up {l : List Ch} {x y : Ch} {lo hi m : Nat} (hr : l.Pairwise Lt) (h : Parted l x lo hi) (hy : l[m]? = some y) (hl : Lt y x) : Parted l x (m + 1) hi := by
  refine ⟨fun k z hk hz => ?_, h.2⟩
  by_cases e : k = m
  · subst e
    rw [hy] at hz
    obtain rfl := Option.some.inj hz
    exact hl
  · exact (rising_at hr hz hy (by omega)).trans hl
theorem Parted.down {l : List Ch} {x y : Ch} {lo hi m : Nat} (hr : l.Pairwise Lt) (h : Parted l x lo hi) (hy : l[m]? = some y) (hl : ¬ Lt y x) : Parted l x lo m := by
  refine ⟨h.1, fun k z hk hz => ?_⟩
  by_cases e : k = m
  · subst e
    rw [hy] at hz
    obtain rfl := Option.some.inj hz
    exact hl
  · exact fun hzx => hl ((rising_at hr hy hz (by omega)).trans hzx)
def Found (l : List Ch) (x : Ch) (i : Nat) (f : Bool) : Prop := (f = true ∧ ∃ y, l[i]? = some y ∧ Key y x) ∨ (f = false ∧ ∀ y ∈ l, ¬ Key y x)
theorem Parted.yes {l : List Ch} {x y : Ch} {i : Nat} (hy : l[i]? = some y) (hk : Key y x) : Found l x i true := .inl ⟨rfl, y, hy, hk⟩
theorem Parted.no {l : List Ch} {x : Ch} {i : Nat} (hr : l.Pairwise Lt) (h : Parted l x i i) (hk : ∀ y, l[i]? = some y → ¬ Key y x) : Found l x i false := by
  refine .inr ⟨rfl, fun y hy hyx => ?_⟩
  obtain ⟨k, hk'⟩ := List.mem_iff_getElem?.1 hy
  rcases Nat.lt_trichotomy k i with h1 | h1 | h1
  · exact (h.1 k y h1 hk').not_key hyx
  · subst h1; exact hk y hk' hyx
  · have hlt : i < l.length := by have := (List.getElem?_eq_some_iff.1 hk').1; omega
    have hz : l[i]? = some l[i] := List.getElem?_eq_getElem hlt
    have h2 := h.2 i _ (Nat.le_refl _) hz
    have h3 := hk _ hz
    have h4 := rising_at hr hz hk' h1
    unfold Lt Key at *
    omega
set_option maxRecDepth 1000000 in
set_option maxHeartbeats 8000000 in
theorem search_any {w : World} {v : Value} {l : List Ch} (x : Ch) (hv : Sl w v l) (hr : l.Pairwise Lt) (hl : l.length ≤ 100000) :
    Calls Tryz.prog 98 #[v, x.agg, .func (.func 99) #[] #[]] w
      fun e w' => ∃ (i : Nat) (f : Bool), (e = .returned (.tuple #[.int .i64 i, .bool f])) ∧ Found l x i f ∧ Below w.heap.size w w' := by
  obtain ⟨ao, cap, rfl, hcell, hlc, hcm, _⟩ := hv
  have HC := Lib.hid hcell
  have HR := Lib.hid hr
  have hlen : l.length ≤ 9223372036854775807 := by omega
  have HCM := Lib.hid (fun y W => cmpB_any y x W)
  obtain ⟨p, t, d⟩ := x
  clear hcell hlc hcm hr
  go_enter Tryz.func98, Tryz.ntmps98
  go_wp2
  go_loopg [9, 10] l.length (fun k s9 s10 wr => ∃ lo hi : Nat, s9 = .int .i64 lo ∧ s10 = .int .i64 hi ∧ lo ≤ hi ∧ hi ≤ l.length ∧ hi - lo ≤ k ∧ Parted l ⟨p, t, d⟩ lo hi ∧ Below w.heap.size w wr ∧ wr.heap[w.heap.size]? = some (.cells #[.int .i64 p, .int .u64 t, .int .i64 d] 72 (0, 0)))
  case atStart =>
    refine ⟨0, l.length, rfl, rfl, Nat.zero_le _, Nat.le_refl _, by omega, Parted.start _ _, ?_, ?_⟩
    · exact (Below.refl _ _).alloc (Nat.le_refl _) _
    · exact heap_alloc_new w _
  case round =>
    obtain ⟨lo, hi, rfl, rfl, hlh, hin, hg, hpart, hbw, hblk⟩ := hrel
    have HG := Lib.hid hg
    have HP := Lib.hid hpart
    have HBW := Lib.hid hbw
    have HBLK := Lib.hid hblk
    obtain ⟨s0, s1, s2, _⟩ := one_cells hblk
    have hGlt : w.heap.size < wr.heap.size := (Array.getElem?_eq_some_iff.1 hblk).1
    clear hpart hbw hblk hg
    by_cases hlt : lo < hi
    · obtain ⟨y, hy, _⟩ := at_of (show (lo + hi) / 2 < l.length by omega)
      obtain ⟨b, off, rfl, hcc⟩ := HC.out.resolve_left (fun h => by rw [h.2] at hy; simp at hy)
      have q := hcc _ y hy
      have hbl := q.lt
      obtain ⟨c0, c1, c2⟩ := q.below HBW.out hbl
      have HY := Lib.hid hy
      have hm0 : (0 : Int) ≤ ((lo : Int) + (hi : Int)) / 2 := by omega
      have hm1 : ((lo : Int) + (hi : Int)) / 2 < (l.length : Int) := by omega
      have hm2 : (((lo : Int) + (hi : Int)) / 2).toNat = (lo + hi) / 2 := by omega
      by_cases hyx : Lt y ⟨p, t, d⟩
      case' pos => have hord : ordI y ⟨p, t, d⟩ < 0 := ordI_neg.2 hyx
      case' neg => have hord : ¬ (ordI y ⟨p, t, d⟩ < 0) := fun h => hyx (ordI_neg.1 h)
      all_goals
        have HYX := Lib.hid hyx
        obtain ⟨yp, yt, yd⟩ := y
        simp only at c0 c1 c2
        clear hy hcc q hyx
        go_wp2_with fail
        go_region_held3 (fun w' => w'.cell? ⟨w.heap.size, 0, none⟩ = some (.int .i64 p) ∧ w'.cell? ⟨w.heap.size, 1, none⟩ = some (.int .u64 t) ∧ w'.cell? ⟨w.heap.size, 2, none⟩ = some (.int .i64 d) ∧ w'.cell? ⟨b, off + (lo + hi) / 2 * 3, none⟩ = some (.int .i64 yp) ∧ w'.cell? ⟨b, off + (lo + hi) / 2 * 3 + 1, none⟩ = some (.int .u64 yt) ∧ w'.cell? ⟨b, off + (lo + hi) / 2 * 3 + 2, none⟩ = some (.int .i64 yd))
          (first
            | go_keep
            | (go_split_ands
               refine ⟨?_, ?_, ?_, ?_, ?_, ?_⟩ <;> (rw [hcb.cell (by simp; omega)]; assumption)))
          ((go_at_call 99; refine (HCM.out ⟨yp, yt, yd⟩ _).mono ?_; rintro e w1 ⟨rfl, hcb⟩))
        have hb1 : Below wr.heap.size wr w1 := ((Below.refl _ _).drew).trans hcb
        have HB1 := Lib.hid (HBW.out.trans (hb1.mono HBW.out.size))
        have HBLK1 := Lib.hid ((hb1.block w.heap.size hGlt).trans HBLK.out)
        clear hcb hb1 c0 c1 c2 s0 s1 s2
        go_wp2_with fail
      · go_roundg ((lo + hi) / 2 - lo)
        case measure => have := HG.out; omega
        case rel => exact ⟨lo, (lo + hi) / 2, rfl, by rw [show ((lo : Int) + (hi : Int)) / 2 = (((lo + hi) / 2 : Nat) : Int) by omega], by omega, by omega, Nat.le_refl _, HP.out.down HR.out HY.out HYX.out, HB1.out, HBLK1.out⟩
      · go_roundg (hi - ((lo + hi) / 2 + 1))
        case measure => have := HG.out; omega
        case rel => exact ⟨(lo + hi) / 2 + 1, hi, by rw [show ((lo : Int) + (hi : Int)) / 2 + 1 = (((lo + hi) / 2 + 1 : Nat) : Int) by omega], rfl, by omega, hin, Nat.le_refl _, HP.out.up HR.out HY.out HYX.out, HB1.out, HBLK1.out⟩
    · obtain rfl : hi = lo := by omega
      by_cases hn : hi < l.length
      · obtain ⟨y, hy, _⟩ := at_of hn
        obtain ⟨b, off, rfl, hcc⟩ := HC.out.resolve_left (fun h => by rw [h.2] at hy; simp at hy)
        have q := hcc _ y hy
        have hbl := q.lt
        obtain ⟨c0, c1, c2⟩ := q.below HBW.out hbl
        have HY := Lib.hid hy
        have hm0 : (0 : Int) ≤ (hi : Int) := Int.natCast_nonneg _
        have hm1 : (hi : Int) < (l.length : Int) := by omega
        by_cases hyx : Key y ⟨p, t, d⟩
        case' pos =>
          have HF := Lib.hid (Parted.yes hy hyx)
          have hord : (ordI y ⟨p, t, d⟩ == 0) = true := eqZ_true hyx
        case' neg =>
          have HF := Lib.hid (HP.out.no HR.out (fun z hz => by rw [hy] at hz; obtain rfl := Option.some.inj hz; exact hyx))
          have hord : (ordI y ⟨p, t, d⟩ == 0) = false := eqZ_false hyx
        all_goals
          obtain ⟨yp, yt, yd⟩ := y
          simp only at c0 c1 c2
          clear hy hcc q hyx
          go_wp2_with fail
          go_region_held3 (fun w' => w'.cell? ⟨w.heap.size, 0, none⟩ = some (.int .i64 p) ∧ w'.cell? ⟨w.heap.size, 1, none⟩ = some (.int .u64 t) ∧ w'.cell? ⟨w.heap.size, 2, none⟩ = some (.int .i64 d) ∧ w'.cell? ⟨b, off + hi * 3, none⟩ = some (.int .i64 yp) ∧ w'.cell? ⟨b, off + hi * 3 + 1, none⟩ = some (.int .u64 yt) ∧ w'.cell? ⟨b, off + hi * 3 + 2, none⟩ = some (.int .i64 yd))
            (first
              | go_keep
              | (go_split_ands
                 refine ⟨?_, ?_, ?_, ?_, ?_, ?_⟩ <;> (rw [hcb.cell (by simp; omega)]; assumption)))
            ((go_at_call 99; refine (HCM.out ⟨yp, yt, yd⟩ _).mono ?_; rintro e w1 ⟨rfl, hcb⟩))
          have hb1 : Below wr.heap.size wr w1 := ((Below.refl _ _).drew).trans hcb
          have HB1 := Lib.hid (HBW.out.trans (hb1.mono HBW.out.size))
          clear hcb hb1 c0 c1 c2 s0 s1 s2
          go_wp2_with fail
          go_ret2
          exact ⟨hi, _, rfl, HF.out, HB1.out⟩
      · have HF := Lib.hid (HP.out.no HR.out (fun z hz => by have := (List.getElem?_eq_some_iff.1 hz).1; omega))
        have hj2 : decide ((hi : Int) < (l.length : Int)) = false := decide_eq_false (by omega)
        go_wp2_with fail
        go_quiet (fail)
        go_wp2_with fail
        go_ret2
        exact ⟨hi, _, rfl, HF.out, below_drewN HBW.out _⟩
set_option maxRecDepth 1000000 in
set_option maxHeartbeats 8000000 in
theorem of_any {w : World} {v : Value} {l : List Ch} (p t : Int) (hv : Sl w v l) (hr : l.Pairwise Lt) (hl : l.length ≤ 100000) :
    Calls Tryz.prog 53 #[v, .int .i64 p, .int .u64 t] w fun e w' => e = .returned (.int .i64 (tot l p t)) ∧ Below w.heap.size w w' := by
  have HS := Lib.hid (search_any ⟨p, t, 0⟩ hv hr hl)
  have HR := Lib.hid hr
  obtain ⟨ao, cap, rfl, hcell, hlc, hcm, _⟩ := hv
  have HC := Lib.hid hcell
  have hlen : l.length ≤ 9223372036854775807 := by omega
  clear hcell hlc hcm hr
  go_enter Tryz.func53, Tryz.ntmps53
  go_wp2_with fail
  go_at_call 98
  refine HS.out.mono ?_
  rintro e w1 ⟨i, f, rfl, hf, hb1⟩
  have HB1 := Lib.hid hb1
  rcases hf with ⟨rfl, y, hy, hk⟩ | ⟨rfl, hno⟩
  · have HT := Lib.hid (show tot l p t = y.d by rw [← tot_one HR.out (List.mem_of_getElem? hy), hk.1, hk.2])
    obtain ⟨b, off, rfl, hcc⟩ := HC.out.resolve_left (fun h => by rw [h.2] at hy; simp at hy)
    have q := hcc _ y hy
    have hbl := q.lt
    obtain ⟨c0, c1, c2⟩ := q.below hb1 hbl
    have hi := (List.getElem?_eq_some_iff.1 hy).1
    have hm0 : (0 : Int) ≤ (i : Int) := Int.natCast_nonneg _
    have hm1 : (i : Int) < (l.length : Int) := by omega
    clear hy hk hcc q hb1 hbl c0 c1
    go_wp2_with fail
    go_ret
    exact ⟨by rw [HT.out]; rfl, HB1.out⟩
  · have HT := Lib.hid (show tot l p t = 0 from tot_none fun x hx hk => hno x hx ⟨hk.1, hk.2⟩)
    clear hno hb1
    go_wp2_with fail
    go_ret
    exact ⟨by rw [HT.out]; rfl, HB1.out⟩
end Go.Proofs.YtlkljeedlkbkgaaGreatDoor.Batch
namespace Go.Proofs.YtlkljeedlkbkgaaGreatDoor.Cl
open Go.RowKit Gr
set_option linter.unusedVariables false
def MU (M : Nat → Nat → Int) (m : Nat) : Prop := ∀ i j, i < m → j < m → Stamp.U (M i j)
theorem letB_neg {M : Nat → Nat → Int} {m : Nat} {c x : Batch.Ch} (h : x.p < 0) : letB M m c x = false := decide_eq_false (fun e => by omega)
theorem letB_far {M : Nat → Nat → Int} {m : Nat} {c x : Batch.Ch} (h : (m : Int) ≤ x.p) : letB M m c x = false := decide_eq_false (fun e => by omega)
theorem letB_at {M : Nat → Nat → Int} {m i j : Nat} {c x : Batch.Ch} (hi : x.p = (i : Int)) (hj : c.p = (j : Int)) (h : i < m) : letB M m c x = Stamp.reachB x.t (M i j) c.t := by
  unfold letB
  rw [hi, hj, Int.toNat_natCast, Int.toNat_natCast]
  cases e : Stamp.reachB x.t (M i j) c.t
  · exact decide_eq_false (fun h => by simp at h)
  · exact decide_eq_true ⟨by omega, by omega, rfl⟩
set_option maxRecDepth 1000000 in
set_option maxHeartbeats 8000000 in
theorem letBe1_any {w : World} {x c : Batch.Ch} {vp : Value} {m base bp bc j : Nat} {M : Nat → Nat → Int} (hM : Mat w base vp m M) (hMU : MU M m) (hm : m ≤ 64) (hx : x.Wf) (hcw : c.Wf) (hj : c.p = (j : Int)) (hjm : j < m)
    (hp : w.heap[bp]? = some (.cells #[vp] 52 (0, 0))) (hc : w.heap[bc]? = some (.cells #[.int .i64 c.p, .int .u64 c.t, .int .i64 c.d] 72 (0, 0))) :
    Calls Tryz.prog 137 #[x.agg, .pointer (some ⟨bp, 0, none⟩), .pointer (some ⟨bc, 0, none⟩)] w fun e w' => e = .returned (.bool (letB M m c x)) ∧ Below w.heap.size w w' := by
  obtain ⟨g, r, rfl, hmf⟩ := hM
  have p0 : w.cell? ⟨bp, 0, none⟩ = some (.slice (some ⟨g, 0, none⟩) m m) := by rw [cell_of_row _ bp 0 _ _ (0, 0) hp]; rfl
  obtain ⟨c0, c1, c2, _⟩ := trip_cells hc
  have hbpl := (Array.getElem?_eq_some_iff.1 hp).1
  have hbcl := (Array.getElem?_eq_some_iff.1 hc).1
  have hgl := hmf.top.lt
  obtain ⟨xp, xt, xd⟩ := x
  obtain ⟨cp, ct, cd⟩ := c
  simp only at hj c0 c1 c2
  subst hj
  have hb : Below w.heap.size w (w.alloc (.cells #[.int .i64 xp, .int .u64 xt, .int .i64 xd] 72)) := (Below.refl _ _).alloc (Nat.le_refl _) _
  have HB := Lib.hid hb
  clear hb hp hc
  by_cases h1 : xp < 0
  · have HL := Lib.hid (letB_neg (M := M) (m := m) (c := ⟨(j : Int), ct, cd⟩) (x := ⟨xp, xt, xd⟩) h1)
    have h2 : decide ((0 : Int) ≤ xp) = false := decide_eq_false (by omega)
    go_enter Tryz.func137, Tryz.ntmps137
    go_wp2_with fail
    go_quiet (fail)
    go_wp2_with fail
    go_ret
    exact ⟨by rw [HL.out]; rfl, below_drewN HB.out _⟩
  · by_cases h2 : xp < (m : Int)
    · obtain ⟨i, rfl⟩ : ∃ i : Nat, xp = (i : Int) := ⟨xp.toNat, by omega⟩
      have him : i < m := by omega
      have HL := Lib.hid (letB_at (M := M) (m := m) (c := ⟨(j : Int), ct, cd⟩) (x := ⟨(i : Int), xt, xd⟩) (i := i) (j := j) rfl rfl him)
      have t0 := hmf.top.cell him
      have r0 := (hmf.row i him).cell hjm
      have hrl := (hmf.row i him).lt
      obtain ⟨mij, hmij⟩ : ∃ z, z = M i j := ⟨_, rfl⟩
      have HU := Lib.hid (hMU i j him hjm)
      rw [← hmij] at r0 HU HL
      have hi0 : (0 : Int) ≤ (i : Int) := Int.natCast_nonneg _
      have hj0 : (0 : Int) ≤ (j : Int) := Int.natCast_nonneg _
      have hjm2 : (j : Int) < (m : Int) := by omega
      obtain ⟨rb, hrb⟩ : ∃ z, z = Stamp.reachB xt mij ct := ⟨_, rfl⟩
      have hsm : ∀ W, Calls Tryz.prog 138 #[.int .u64 xt, .int .u64 mij, .int .u64 ct] W fun e w' => e = .returned (.bool rb) ∧ w' = W := fun W => (Stamp.reaches_any xt mij ct ⟨hx.t0, hx.t1⟩ HU.out ⟨hcw.t0, hcw.t1⟩ W).mono fun e w' ⟨h1, h2⟩ => ⟨by rw [hrb]; exact h1, h2.symm⟩
      have HSM := Lib.hid hsm
      have HRB := Lib.hid hrb
      clear hmf hmij h1 hsm hrb
      go_enter Tryz.func137, Tryz.ntmps137
      go_wp2_with fail
      go_quiet ((go_at_call 138; exact Calls.quiet_of_same (HSM.out _)))
      go_wp2_with fail
      go_ret
      exact ⟨by rw [HL.out]; show _ = Ending.returned (.bool (Stamp.reachB xt mij ct)); rw [← HRB.out]; rfl, below_drewN HB.out _⟩
    · have HL := Lib.hid (letB_far (M := M) (m := m) (c := ⟨(j : Int), ct, cd⟩) (x := ⟨xp, xt, xd⟩) (by show (m : Int) ≤ xp; omega))
      have h1' : (0 : Int) ≤ xp := by omega
      have h3 : decide (xp < (m : Int)) = false := decide_eq_false h2
      go_enter Tryz.func137, Tryz.ntmps137
      go_wp2_with fail
      go_quiet (fail)
      go_wp2_with fail
      go_ret
      exact ⟨by rw [HL.out]; rfl, below_drewN HB.out _⟩
def LetZ (M : Nat → Nat → Int) (m : Nat) (A : List Batch.Ch) (c : Batch.Ch) (z : Int) : Prop := (z = -1 ∧ letsB M m A c = false) ∨ (0 ≤ z ∧ letsB M m A c = true)
theorem lets_no {M : Nat → Nat → Int} {m : Nat} {A : List Batch.Ch} {c : Batch.Ch} (h : ∀ x ∈ A, letB M m c x = false) : letsB M m A c = false := by
  cases e : letsB M m A c
  · rfl
  · obtain ⟨x, hx, e⟩ := letsB_iff.1 e
    rw [h x hx] at e
    cases e
set_option maxRecDepth 1000000 in
set_option maxHeartbeats 8000000 in
theorem idxL_any {w : World} {v vp : Value} {A : List Batch.Ch} {c : Batch.Ch} {m base bp bc j : Nat} {M : Nat → Nat → Int} (hv : Batch.Sl w v A) (hM : Mat w base vp m M) (hMU : MU M m) (hm : m ≤ 64) (hcw : c.Wf) (hj : c.p = (j : Int)) (hjm : j < m)
    (hp : w.heap[bp]? = some (.cells #[vp] 52 (0, 0))) (hc : w.heap[bc]? = some (.cells #[.int .i64 c.p, .int .u64 c.t, .int .i64 c.d] 72 (0, 0))) :
    Calls Tryz.prog 152 #[v, .func (.func 137) #[] #[.pointer (some ⟨bp, 0, none⟩), .pointer (some ⟨bc, 0, none⟩)]] w
      fun e w' => ∃ z : Int, e = .returned (.int .i64 z) ∧ LetZ M m A c z ∧ Below w.heap.size w w' := by
  have HV := Lib.hid hv
  have HWF := Lib.hid hv.wf
  obtain ⟨ao, cap, rfl, hcell, hc1, hc2, _⟩ := hv
  have HC := Lib.hid hcell
  have hlen : A.length ≤ 9223372036854775807 := by omega
  have HCM := Lib.hid (fun (x : Batch.Ch) (hx : x.Wf) (W : World) (hb : Below w.heap.size w W) => letBe1_any (w := W) (x := x) (hM.below hb) hMU hm hx hcw hj hjm ((hb.block _ (Array.getElem?_eq_some_iff.1 hp).1).trans hp) ((hb.block _ (Array.getElem?_eq_some_iff.1 hc).1).trans hc))
  clear hp hc hM hMU hcell hc1 hc2
  go_enter Tryz.func152, Tryz.ntmps152
  go_wp2
  go_loopg [8] A.length (fun k s8 wr => ∃ i : Nat, i + k = A.length ∧ s8 = .int .i64 i ∧ (∀ x ∈ A.take i, letB M m c x = false) ∧ Below w.heap.size w wr)
  case atStart => exact ⟨0, by omega, rfl, by simp, Below.refl _ _⟩
  case round =>
    obtain ⟨i, hik, rfl, hok, hbw⟩ := hrel
    have HIK := Lib.hid hik
    have HOK := Lib.hid hok
    have HBW := Lib.hid hbw
    clear hok hbw hik
    have hi0 : (0 : Int) ≤ (i : Int) := Int.natCast_nonneg _
    by_cases hlt : i < A.length
    · obtain ⟨x, hx, hxm⟩ := Batch.at_of hlt
      obtain ⟨b, off, rfl, hcc⟩ := HC.out.resolve_left (fun h => by rw [h.2] at hx; simp at hx)
      have q := hcc _ x hx
      obtain ⟨c0, c1, c2⟩ := q.below HBW.out q.lt
      have HX := Lib.hid hx
      have hi1 : (i : Int) < (A.length : Int) := by omega
      have HLT := Lib.hid hlt
      have HCX := Lib.hid (HCM.out x (HWF.out x hxm) wr HBW.out)
      have HXM := Lib.hid hxm
      obtain ⟨xp, xt, xd⟩ := x
      simp only at c0 c1 c2
      cases hl : letB M m c ⟨xp, xt, xd⟩
      all_goals
        have HLB := Lib.hid hl
        clear hx hxm q hlt hcc hl
        go_wp2_with fail
        go_at_call 137
        refine HCX.out.mono ?_
        rw [HLB.out]
        rintro e w1 ⟨rfl, hcb⟩
        have HB1 := Lib.hid (HBW.out.trans (hcb.mono HBW.out.size))
        clear hcb c0 c1 c2
        go_wp2_with fail
      · go_roundg (gk - 1)
        case measure => have := HIK.out; have := HLT.out; omega
        case rel => exact ⟨i + 1, by have := HIK.out; have := HLT.out; omega, by go_num, fun x hx => by
          rw [Batch.take_succ' HX.out] at hx
          rcases List.mem_append.1 hx with hx | hx
          · exact HOK.out x hx
          · simp at hx; subst hx; exact HLB.out, HB1.out⟩
      · go_ret
        exact ⟨_, rfl, .inr ⟨hi0, letsB_iff.2 ⟨_, HXM.out, HLB.out⟩⟩, HB1.out⟩
    · have hj2 : decide ((i : Int) < (A.length : Int)) = false := decide_eq_false (by omega)
      have HF := Lib.hid (show LetZ M m A c (-1) from .inl ⟨rfl, lets_no fun x hx => HOK.out x (by rw [List.take_of_length_le (by omega)]; exact hx)⟩)
      go_wp2_with fail
      go_ret
      exact ⟨_, rfl, HF.out, HBW.out⟩
set_option maxRecDepth 1000000 in
set_option maxHeartbeats 8000000 in
theorem containsL_any {w : World} {v vp : Value} {A : List Batch.Ch} {c : Batch.Ch} {m base bp bc j : Nat} {M : Nat → Nat → Int} (hv : Batch.Sl w v A) (hM : Mat w base vp m M) (hMU : MU M m) (hm : m ≤ 64) (hcw : c.Wf) (hj : c.p = (j : Int)) (hjm : j < m)
    (hp : w.heap[bp]? = some (.cells #[vp] 52 (0, 0))) (hc : w.heap[bc]? = some (.cells #[.int .i64 c.p, .int .u64 c.t, .int .i64 c.d] 72 (0, 0))) :
    Calls Tryz.prog 136 #[v, .func (.func 137) #[] #[.pointer (some ⟨bp, 0, none⟩), .pointer (some ⟨bc, 0, none⟩)]] w
      fun e w' => e = .returned (.bool (letsB M m A c)) ∧ Below w.heap.size w w' := by
  have HI := Lib.hid (idxL_any hv hM hMU hm hcw hj hjm hp hc)
  clear hp hc hM hMU hv hj hcw hjm hm
  go_enter Tryz.func136, Tryz.ntmps136
  go_wp2_with fail
  go_at_call 152
  refine HI.out.mono ?_
  rintro e w1 ⟨z, rfl, hz, hb⟩
  have HB := Lib.hid hb
  rcases hz with ⟨rfl, hl⟩ | ⟨hz, hl⟩
  · have HL := Lib.hid hl
    clear hl hb
    go_wp2_with fail
    go_ret
    exact ⟨by rw [HL.out]; rfl, HB.out⟩
  · have HL := Lib.hid hl
    have hz2 : decide ((0 : Int) ≤ z) = true := decide_eq_true hz
    clear hl hb
    go_wp2_with fail
    go_ret
    exact ⟨by rw [HL.out]; rfl, HB.out⟩
set_option maxRecDepth 1000000 in
set_option maxHeartbeats 8000000 in
theorem letBe_any {w : World} {v vp : Value} {A : List Batch.Ch} {c : Batch.Ch} {m base j : Nat} {M : Nat → Nat → Int} (hv : Batch.Sl w v A) (hM : Mat w base vp m M) (hMU : MU M m) (hm : m ≤ 64) (hcw : c.Wf) (hj : c.p = (j : Int)) (hjm : j < m) :
    Calls Tryz.prog 105 #[v, vp, c.agg] w fun e w' => e = .returned (.bool (letsB M m A c)) ∧ Below w.heap.size w w' := by
  obtain ⟨w0, hw0⟩ : ∃ w0, w0 = (w.alloc (.cells #[vp] 52)).alloc (.cells #[.int .i64 c.p, .int .u64 c.t, .int .i64 c.d] 72) := ⟨_, rfl⟩
  have hb0 : Below w.heap.size w w0 := by rw [hw0]; exact ((Below.refl _ _).alloc (Nat.le_refl _) _).alloc (by simp) _
  have hp : w0.heap[w.heap.size]? = some (.cells #[vp] 52 (0, 0)) := by rw [hw0, heap_alloc_old _ _ (by simp)]; exact heap_alloc_new w _
  have hc : w0.heap[w.heap.size + 1]? = some (.cells #[.int .i64 c.p, .int .u64 c.t, .int .i64 c.d] 72 (0, 0)) := by
    rw [hw0]; have := heap_alloc_new (w.alloc (.cells #[vp] 52)) (.cells #[.int .i64 c.p, .int .u64 c.t, .int .i64 c.d] 72); simpa using this
  have HI := Lib.hid (containsL_any (hv.below hb0) (hM.below hb0) hMU hm hcw hj hjm hp hc)
  have HB0 := Lib.hid hb0
  obtain ⟨g, r, rfl, hmf⟩ := hM
  obtain ⟨cp, ct, cd⟩ := c
  clear hp hc hb0 hmf hv hMU hj
  go_enter Tryz.func105, Tryz.ntmps105
  go_wp2_with fail
  go_at_call 136
  rw [← hw0]
  clear hw0
  refine HI.out.mono ?_
  rintro e w1 ⟨rfl, hb⟩
  have HB := Lib.hid (HB0.out.trans (hb.mono HB0.out.size))
  clear hb
  go_wp2_with fail
  go_ret
  exact ⟨rfl, HB.out⟩
end Go.Proofs.YtlkljeedlkbkgaaGreatDoor.Cl
namespace Go.Proofs.YtlkljeedlkbkgaaGreatDoor.Cl
open Go.RowKit Gr
set_option linter.unusedVariables false
theorem upE_port {B A : List Batch.Ch} {M : Nat → Nat → Int} {m : Nat} {c : Batch.Ch} (h : (m : Int) ≤ c.p) : upE B A M m c = 2 := if_pos h
theorem upE_lets {B A : List Batch.Ch} {M : Nat → Nat → Int} {m : Nat} {c : Batch.Ch} (h : ¬ (m : Int) ≤ c.p) (hd : 0 < c.d) (hl : letsB M m A c = false) : upE B A M m c = 5 := by unfold upE; rw [if_neg h, if_pos (.inl ⟨hd, hl⟩)]
theorem upE_few {B A : List Batch.Ch} {M : Nat → Nat → Int} {m : Nat} {c : Batch.Ch} (h : ¬ (m : Int) ≤ c.p) (ht : Batch.tot B c.p c.t + c.d < 0) : upE B A M m c = 5 := by unfold upE; rw [if_neg h, if_pos (.inr ht)]
theorem upE_over {B A : List Batch.Ch} {M : Nat → Nat → Int} {m : Nat} {c : Batch.Ch} (h : ¬ (m : Int) ≤ c.p) (hl : 0 < c.d → letsB M m A c = true) (ht : ¬ Batch.tot B c.p c.t + c.d < 0) (ho : 1125899906842624 < Batch.tot B c.p c.t + c.d) : upE B A M m c = 10 := by
  unfold upE
  rw [if_neg h, if_neg (fun e => e.elim (fun e => by rw [hl e.1] at e; exact absurd e.2 (by decide)) ht), if_pos ho]
theorem upE_ok {B A : List Batch.Ch} {M : Nat → Nat → Int} {m : Nat} {c : Batch.Ch} (h : ¬ (m : Int) ≤ c.p) (hl : 0 < c.d → letsB M m A c = true) (ht : ¬ Batch.tot B c.p c.t + c.d < 0) (ho : ¬ 1125899906842624 < Batch.tot B c.p c.t + c.d) : upE B A M m c = 0 := by
  unfold upE
  rw [if_neg h, if_neg (fun e => e.elim (fun e => by rw [hl e.1] at e; exact absurd e.2 (by decide)) ht), if_neg ho]
set_option maxRecDepth 1000000 in
set_option maxHeartbeats 16000000 in
theorem wrongC_any {w : World} {vB vA vp : Value} {B A : List Batch.Ch} {c : Batch.Ch} {m base : Nat} {M : Nat → Nat → Int} (hB : Batch.Sl w vB B) (hr : B.Pairwise Batch.Lt) (hlb : B.length ≤ 100000) (hA : Batch.Sl w vA A) (hM : Mat w base vp m M) (hMU : MU M m) (hm : m ≤ 64) (hcw : c.Wf) (hc0 : 0 ≤ c.p)
    (ht : -9223372036854775808 ≤ Batch.tot B c.p c.t + c.d ∧ Batch.tot B c.p c.t + c.d ≤ 9223372036854775807) :
    Calls Tryz.prog 57 #[vB, vA, vp, c.agg] w fun e w' => e = .returned (.int .i64 (upE B A M m c)) ∧ Below w.heap.size w w' := by
  have HBV := Lib.hid hB
  have HAV := Lib.hid hA
  have HM := Lib.hid hM
  have HOF := Lib.hid (fun W (h : Below w.heap.size w W) => Batch.of_any (w := W) (v := vB) c.p c.t (hB.below h) hr hlb)
  have HLE := Lib.hid (fun W (h : Below w.heap.size w W) (j : Nat) (hj : c.p = (j : Int)) (hjm : j < m) => letBe_any (w := W) (v := vA) (A := A) (hA.below h) (hM.below h) hMU hm hcw hj hjm)
  have HU1 := Lib.hid (fun h => upE_port (B := B) (A := A) (M := M) (m := m) (c := c) h)
  have HU2 := Lib.hid (fun h h1 h2 => upE_lets (B := B) (A := A) (M := M) (m := m) (c := c) h h1 h2)
  have HU3 := Lib.hid (fun h h1 => upE_few (B := B) (A := A) (M := M) (m := m) (c := c) h h1)
  have HU4 := Lib.hid (fun h h1 h2 h3 => upE_over (B := B) (A := A) (M := M) (m := m) (c := c) h h1 h2 h3)
  have HU5 := Lib.hid (fun h h1 h2 h3 => upE_ok (B := B) (A := A) (M := M) (m := m) (c := c) h h1 h2 h3)
  obtain ⟨tv, htv⟩ : ∃ z, z = Batch.tot B c.p c.t := ⟨_, rfl⟩
  rw [← htv] at ht HOF HU3 HU4 HU5
  obtain ⟨ao, cap, rfl, _⟩ := hB
  obtain ⟨aa, capa, rfl, _⟩ := hA
  obtain ⟨g, r, rfl, _⟩ := hM
  have hd0 := hcw.d0
  have hd1 := hcw.d1
  obtain ⟨cp, ct, cd⟩ := c
  simp only at ht hd0 hd1 hc0
  have hb : Below w.heap.size w (w.alloc (.cells #[.int .i64 cp, .int .u64 ct, .int .i64 cd] 72)) := (Below.refl _ _).alloc (Nat.le_refl _) _
  have HB := Lib.hid hb
  have hws : IntKind.i64.wrap (tv + cd) = tv + cd := by rw [IntKind.wrap_i64]; omega
  have ht0 := ht.1
  have ht1 := ht.2
  have hx := heap_alloc_new w (.cells #[.int .i64 cp, .int .u64 ct, .int .i64 cd] 72)
  have HX := Lib.hid hx
  have hsz : (w.alloc (.cells #[.int .i64 cp, .int .u64 ct, .int .i64 cd] 72)).heap.size = w.heap.size + 1 := by simp
  have HSZ := Lib.hid hsz
  clear htv hb ht hcw hx hsz
  go_enter Tryz.func57, Tryz.ntmps57
  go_wp2_with fail
  go_region_held3 (fun w' => w'.cell? ⟨w.heap.size, 0, none⟩ = some (.int .i64 cp) ∧ w'.cell? ⟨w.heap.size, 1, none⟩ = some (.int .u64 ct) ∧ w'.cell? ⟨w.heap.size, 2, none⟩ = some (.int .i64 cd))
    (first
      | go_keep
      | (go_split_ands
         refine ⟨?_, ?_, ?_⟩ <;> (rw [hcb.cell (by simp)]; assumption)))
    ((go_at_call 53; refine (HOF.out _ (below_drewN HB.out 1)).mono ?_; rintro e w1 ⟨rfl, hcb⟩))
  have hb1 : Below w.heap.size w w1 := (below_drewN HB.out 1).trans (hcb.mono (by have := HSZ.out; show w.heap.size ≤ (w.alloc _).heap.size; omega))
  have HB1 := Lib.hid hb1
  obtain ⟨x0, x1, x2, _⟩ := trip_cells ((hcb.block w.heap.size (by have := HSZ.out; show w.heap.size < (w.alloc _).heap.size; omega)).trans HX.out)
  clear hcb hb1 hws
  by_cases h1 : (m : Int) ≤ cp
  · have HU := Lib.hid (HU1.out h1)
    go_wp2_with fail
    go_ret
    exact ⟨by rw [HU.out]; rfl, HB1.out⟩
  · obtain ⟨j, rfl⟩ : ∃ j : Nat, cp = (j : Int) := ⟨cp.toNat, by omega⟩
    have hjm : j < m := by omega
    have h1d : decide ((m : Int) ≤ (j : Int)) = false := decide_eq_false h1
    have h1e : decide (m ≤ j) = false := decide_eq_false (by omega)
    have HLS := Lib.hid (HLE.out w1 HB1.out j rfl hjm)
    have H1 := Lib.hid (show (j : Int) < (m : Int) by omega)
    clear h1
    by_cases hd : 0 < cd
    · cases hl : letsB M m A ⟨(j : Int), ct, cd⟩
      · have HL := Lib.hid hl
        have HU := Lib.hid (HU2.out H1.out hd hl)
        clear hl
        go_wp2_with fail
        go_at_call 105
        refine HLS.out.mono ?_
        rw [HL.out]
        rintro e w2 ⟨rfl, hb2⟩
        have HB2 := Lib.hid (HB1.out.trans (hb2.mono HB1.out.size))
        clear hb2 x0 x1 x2
        go_wp2_with fail
        go_ret
        exact ⟨by rw [HU.out]; rfl, HB2.out⟩
      · have HL := Lib.hid hl
        clear hl
        by_cases ht : tv + cd < 0
        case' pos => have HU := Lib.hid (HU3.out H1.out ht)
        case' neg =>
          have ht' : ¬ (tv + cd < 0) := ht
          by_cases ho : 1125899906842624 < tv + cd
          case' pos => have HU := Lib.hid (HU4.out H1.out (fun _ => HL.out) (by omega) (by omega))
          case' neg => have HU := Lib.hid (HU5.out H1.out (fun _ => HL.out) (by omega) (by omega))
        all_goals
          go_wp2_with fail
          go_at_call 105
          refine HLS.out.mono ?_
          rw [HL.out]
          rintro e w2 ⟨rfl, hb2⟩
          have HB2 := Lib.hid (HB1.out.trans (hb2.mono HB1.out.size))
          clear hb2 x0 x1 x2
          go_wp2_with fail
          go_ret
          exact ⟨by rw [HU.out]; rfl, HB2.out⟩
    · have hdd : decide (0 < cd) = false := decide_eq_false hd
      by_cases ht : tv + cd < 0
      case' pos => have HU := Lib.hid (HU3.out H1.out ht)
      case' neg =>
        by_cases ho : 1125899906842624 < tv + cd
        case' pos => have HU := Lib.hid (HU4.out H1.out (fun h => absurd h hd) (by omega) (by omega))
        case' neg => have HU := Lib.hid (HU5.out H1.out (fun h => absurd h hd) (by omega) (by omega))
      all_goals
        go_wp2_with fail
        go_ret
        exact ⟨by rw [HU.out]; rfl, HB1.out⟩
end Go.Proofs.YtlkljeedlkbkgaaGreatDoor.Cl
namespace Go.Proofs.YtlkljeedlkbkgaaGreatDoor.Batch
open Go.RowKit
set_option linter.unusedVariables false
theorem of_at {w0 w : World} {v : Value} {l : List Ch} (p t : Int) (hv : Sl w0 v l) (hr : l.Pairwise Lt) (hl : l.length ≤ 100000) (hb : Below w0.heap.size w0 w) :
    Calls Tryz.prog 53 #[v, .int .i64 p, .int .u64 t] w fun e w' => e = .returned (.int .i64 (tot l p t)) ∧ Below w.heap.size w w' := of_any p t (hv.below hb) hr hl
set_option maxRecDepth 1000000 in
set_option maxHeartbeats 8000000 in
theorem apply_any {w : World} {vb vc : Value} {B C : List Ch} (hvb : Sl w vb B) (hvc : Sl w vc C) (hB : RightP B) (hC : RightP C) (hl : B.length + C.length ≤ 100000) :
    Calls Tryz.prog 17 #[vb, vc] w fun e w' => ∃ v' : Value, (e = .returned (.tuple #[v', .int .i64 (applyE B C)])) ∧ Own w' w.heap.size 72 v' (applyR B C) ∧ Below w.heap.size w w' := by
  have HVB := Lib.hid hvb
  have HVC := Lib.hid hvc
  have HB := Lib.hid hB
  have HCR := Lib.hid hC
  have HL := Lib.hid hl
  have hl1 : B.length ≤ 100000 := by omega
  have HL1 := Lib.hid hl1
  obtain ⟨ab, cb, rfl, _⟩ := hvb
  obtain ⟨ac, cc, rfl, hcell, hlc, hcm, _⟩ := hvc
  have HC := Lib.hid hcell
  have hlen : C.length ≤ 9223372036854775807 := by omega
  have HOF := Lib.hid (fun p t W h => of_at p t HVB.out HB.out.2 HL1.out (w := W) h)
  clear hcell hlc hcm hB hC hl hl1
  go_enter Tryz.func17, Tryz.ntmps17
  go_wp2
  go_loopg [10] C.length (fun k t wr => ∃ i : Nat, i + k = C.length ∧ t = .int .i64 i ∧ (∀ y ∈ C.take i, ¬ (tot B y.p y.t + y.d < 0)) ∧ Below w.heap.size w wr)
  case atStart => exact ⟨0, by omega, rfl, by simp, Below.refl _ _⟩
  case round =>
    obtain ⟨i, hik, rfl, hok, hbw⟩ := hrel
    have HIK := Lib.hid hik
    have HOK := Lib.hid hok
    have HBW := Lib.hid hbw
    clear hok hbw hik
    have hbs : w.heap.size ≤ wr.heap.size := HBW.out.size
    by_cases hlt1 : i < C.length
    · obtain ⟨x, hx, hxm⟩ := at_of hlt1
      obtain ⟨b, off, rfl, hcc⟩ := HC.out.resolve_left (fun h => by rw [h.2] at hlt1; simp at hlt1)
      have q := hcc i x hx
      have hbl := q.lt
      obtain ⟨c0, c1, c2⟩ := q.below HBW.out hbl
      have HX := Lib.hid hx
      have HXM := Lib.hid hxm
      have hi0' : (0 : Int) ≤ (i : Int) := Int.natCast_nonneg _
      have hi1 : (i : Int) < (C.length : Int) := by omega
      have HLT := Lib.hid hlt1
      have hd := HCR.out.d x hxm
      have ht := HB.out.totR x.p x.t
      have hd0 : -576460752303423488 ≤ x.d := hd.1
      have hd1 : x.d ≤ 576460752303423488 := hd.2
      by_cases hn : tot B x.p x.t + x.d < 0
      case' pos => have HN := Lib.hid (apply_neg (anyNeg_at hxm hn))
      case' neg =>
        have HN := Lib.hid (show ∀ y ∈ C.take (i + 1), ¬ (tot B y.p y.t + y.d < 0) by
          intro y hy
          rw [take_succ' hx] at hy
          rcases List.mem_append.1 hy with hy | hy
          · exact HOK.out y hy
          · simp at hy; subst hy; exact hn)
      all_goals
        obtain ⟨p, t, d⟩ := x
        simp only at c0 c1 c2 hn ht hd0 hd1
        have HOFX := Lib.hid (fun W h => HOF.out p t W h)
        have HTV : ∃ tv, tv = tot B p t := ⟨_, rfl⟩
        obtain ⟨tv, htv⟩ := HTV
        rw [← htv] at hn ht HOFX
        have hw : IntKind.i64.wrap (tv + d) = tv + d := by rw [wr_i64, wr_id (by omega) (by omega)]
        have ht0 := ht.1
        have ht1 := ht.2
        clear hx hxm hcc q hbl hd ht htv
        go_wp2_with fail
        go_region_held3 (fun w' => w'.cell? ⟨wr.heap.size, 0, none⟩ = some (.int .i64 p) ∧ w'.cell? ⟨wr.heap.size, 1, none⟩ = some (.int .u64 t) ∧ w'.cell? ⟨wr.heap.size, 2, none⟩ = some (.int .i64 d))
          (first
            | go_keep
            | (go_split_ands
               refine ⟨?_, ?_, ?_⟩ <;> (rw [hcb.cell (by simp)]; assumption)))
          ((go_at_call 53; refine (HOFX.out _ ((HBW.out.alloc hbs _).drew)).mono ?_; rintro e w1 ⟨rfl, hcb⟩))
        have HB1 := Lib.hid (((HBW.out.alloc hbs (.cells #[.int .i64 p, .int .u64 t, .int .i64 d] 72)).drew).trans (hcb.mono (by simp; omega)))
        clear hcb c0 c1 c2
        go_wp2_with fail
      · go_roundg (gk - 1)
        case measure => have := HIK.out; have := HLT.out; omega
        case rel => exact ⟨i + 1, by have := HIK.out; have := HLT.out; omega, by go_num, HN.out, HB1.out⟩
      · go_ret2
        refine ⟨_, ret_two HN.out.1.symm, ?_, HB1.out⟩
        rw [HN.out.2]
        exact Own.nil _ _ _
    · have HN := Lib.hid (apply_not (anyNeg_no (B := B) (C := C) (fun y hy => HOK.out y (by rw [take_all (by omega)]; exact hy))))
      have HM := Lib.hid (merge_any (HVB.out.below HBW.out) (HVC.out.below HBW.out) (RightP.sorted HB.out) (RightP.sorted HCR.out) HL.out)
      go_wp2_with fail
      go_at_call 54
      refine HM.out.mono ?_
      rintro e w1 ⟨v1, rfl, hown, hb1⟩
      have HO := Lib.hid (hown.mono hbs)
      have HB1 := Lib.hid (HBW.out.trans (hb1.mono hbs))
      clear hown hb1
      go_wp2_with fail
      go_ret2
      refine ⟨_, ret_two HN.out.1.symm, ?_, HB1.out⟩
      rw [HN.out.2]
      exact HO.out
end Go.Proofs.YtlkljeedlkbkgaaGreatDoor.Batch
