/-
  YtlkljeedlkbkgaaGreatDoorBatchOf
  YtlkljeedlkbkgaaGreatDoorClLets
-/
import Derived.Test.YtlkljeedlkbkgaaGreatDoorJoined8
import Derived.Test.YtlkljeedlkbkgaaGreatDoorJoined14
import Derived.Deep.QuietTactic
import Derived.BigQuiet
namespace Go.Proofs.YtlkljeedlkbkgaaGreatDoor.Batch
open Go.RowKit
set_option linter.unusedVariables false
def Parted (l : List Ch) (x : Ch) (lo hi : Nat) : Prop := (∀ k y, k < lo → l[k]? = some y → Lt y x) ∧ (∀ k y, hi ≤ k → l[k]? = some y → ¬ Lt y x)
theorem Parted.start (l : List Ch) (x : Ch) : Parted l x 0 l.length := ⟨fun k y h => by omega, fun k y h hy => by have := (List.getElem?_eq_some_iff.1 hy).1; omega⟩
theorem rising_at {l : List Ch} (h : l.Pairwise Lt) {i j : Nat} {x y : Ch} (hx : l[i]? = some x) (hy : l[j]? = some y) (hij : i < j) : Lt x y := by
  obtain ⟨h1, e1⟩ := List.getElem?_eq_some_iff.1 hx
  obtain ⟨h2, e2⟩ := List.getElem?_eq_some_iff.1 hy
  have := (List.pairwise_iff_getElem.1 h) i j h1 h2 hij
  rw [e1, e2] at this
  exact this
theorem Parted.up {l : List Ch} {x y : Ch} {lo hi m : Nat} (hr : l.Pairwise Lt) (h : Parted l x lo hi) (hy : l[m]? = some y) (hl : Lt y x) : Parted l x (m + 1) hi := by
  refine ⟨fun k z hk hz => ?_, h.2⟩
  by_cases e : k = m
  · subst e
    rw [hy] at hz
    obtain rfl := Option.some.inj hz
    exact hl
  · exact (rising_at hr hz hy (by omega)).trans hl
theorem Parted.down {l : List Ch} {x y : Ch} {lo hi m : Nat} (hr : l.Pairwise Lt) (h : Parted l x lo hi) (hy : l[m]? = some y) (hl : ¬ Lt y x) : Parted l x lo m := by
  refine ⟨h.1, fun k z hk hz => ?_⟩
  by_cases e : k = m
  · subst e
    rw [hy] at hz
    obtain rfl := Option.some.inj hz
    exact hl
  · exact fun hzx => hl ((rising_at hr hy hz (by omega)).trans hzx)
def Found (l : List Ch) (x : Ch) (i : Nat) (f : Bool) : Prop := (f = true ∧ ∃ y, l[i]? = some y ∧ Key y x) ∨ (f = false ∧ ∀ y ∈ l, ¬ Key y x)
theorem Parted.yes {l : List Ch} {x y : Ch} {i : Nat} (hy : l[i]? = some y) (hk : Key y x) : Found l x i true := .inl ⟨rfl, y, hy, hk⟩
theorem Parted.no {l : List Ch} {x : Ch} {i : Nat} (hr : l.Pairwise Lt) (h : Parted l x i i) (hk : ∀ y, l[i]? = some y → ¬ Key y x) : Found l x i false := by
  refine .inr ⟨rfl, fun y hy hyx => ?_⟩
  obtain ⟨k, hk'⟩ := List.mem_iff_getElem?.1 hy
  rcases Nat.lt_trichotomy k i with h1 | h1 | h1
  · exact (h.1 k y h1 hk').not_key hyx
  · subst h1; exact hk y hk' hyx
  · have hlt : i < l.length := by have := (List.getElem?_eq_some_iff.1 hk').1; omega
    have hz : l[i]? = some l[i] := List.getElem?_eq_getElem hlt
    have h2 := h.2 i _ (Nat.le_refl _) hz
    have h3 := hk _ hz
    have h4 := rising_at hr hz hk' h1
    unfold Lt Key at *
    omega
set_option maxRecDepth 1000000 in
set_option maxHeartbeats 8000000 in
theorem search_any {w : World} {v : Value} {l : List Ch} (x : Ch) (hv : Sl w v l) (hr : l.Pairwise Lt) (hl : l.length ≤ 100000) :
    Calls Tryz.prog 98 #[v, x.agg, .func (.func 99) #[] #[]] w
      fun e w' => ∃ (i : Nat) (f : Bool), (e = .returned (.tuple #[.int .i64 i, .bool f])) ∧ Found l x i f ∧ Below w.heap.size w w' := by
  obtain ⟨ao, cap, rfl, hcell, hlc, hcm, _⟩ := hv
  have HC := Lib.hid hcell
  have HR := Lib.hid hr
  have hlen : l.length ≤ 9223372036854775807 := by omega
  have HCM := Lib.hid (fun y W => cmpB_any y x W)
  obtain ⟨p, t, d⟩ := x
  clear hcell hlc hcm hr
  go_enter Tryz.func98, Tryz.ntmps98
  go_wp2
  go_loopg [9, 10] l.length (fun k s9 s10 wr => ∃ lo hi : Nat, s9 = .int .i64 lo ∧ s10 = .int .i64 hi ∧ lo ≤ hi ∧ hi ≤ l.length ∧ hi - lo ≤ k ∧ Parted l ⟨p, t, d⟩ lo hi ∧ Below w.heap.size w wr ∧ wr.heap[w.heap.size]? = some (.cells #[.int .i64 p, .int .u64 t, .int .i64 d] 72 (0, 0)))
  case atStart =>
    refine ⟨0, l.length, rfl, rfl, Nat.zero_le _, Nat.le_refl _, by omega, Parted.start _ _, ?_, ?_⟩
    · exact (Below.refl _ _).alloc (Nat.le_refl _) _
    · exact heap_alloc_new w _
  case round =>
    obtain ⟨lo, hi, rfl, rfl, hlh, hin, hg, hpart, hbw, hblk⟩ := hrel
    have HG := Lib.hid hg
    have HP := Lib.hid hpart
    have HBW := Lib.hid hbw
    have HBLK := Lib.hid hblk
    obtain ⟨s0, s1, s2, _⟩ := one_cells hblk
    have hGlt : w.heap.size < wr.heap.size := (Array.getElem?_eq_some_iff.1 hblk).1
    clear hpart hbw hblk hg
    by_cases hlt : lo < hi
    · obtain ⟨y, hy, _⟩ := at_of (show (lo + hi) / 2 < l.length by omega)
      obtain ⟨b, off, rfl, hcc⟩ := HC.out.resolve_left (fun h => by rw [h.2] at hy; simp at hy)
      have q := hcc _ y hy
      have hbl := q.lt
      obtain ⟨c0, c1, c2⟩ := q.below HBW.out hbl
      have HY := Lib.hid hy
      have hm0 : (0 : Int) ≤ ((lo : Int) + (hi : Int)) / 2 := by omega
      have hm1 : ((lo : Int) + (hi : Int)) / 2 < (l.length : Int) := by omega
      have hm2 : (((lo : Int) + (hi : Int)) / 2).toNat = (lo + hi) / 2 := by omega
      by_cases hyx : Lt y ⟨p, t, d⟩
      case' pos => have hord : ordI y ⟨p, t, d⟩ < 0 := ordI_neg.2 hyx
      case' neg => have hord : ¬ (ordI y ⟨p, t, d⟩ < 0) := fun h => hyx (ordI_neg.1 h)
      all_goals
        have HYX := Lib.hid hyx
        obtain ⟨yp, yt, yd⟩ := y
        simp only at c0 c1 c2
        clear hy hcc q hyx
        go_wp2_with fail
        go_region_held3 (fun w' => w'.cell? ⟨w.heap.size, 0, none⟩ = some (.int .i64 p) ∧ w'.cell? ⟨w.heap.size, 1, none⟩ = some (.int .u64 t) ∧ w'.cell? ⟨w.heap.size, 2, none⟩ = some (.int .i64 d) ∧ w'.cell? ⟨b, off + (lo + hi) / 2 * 3, none⟩ = some (.int .i64 yp) ∧ w'.cell? ⟨b, off + (lo + hi) / 2 * 3 + 1, none⟩ = some (.int .u64 yt) ∧ w'.cell? ⟨b, off + (lo + hi) / 2 * 3 + 2, none⟩ = some (.int .i64 yd))
          (first
            | go_keep
            | (go_split_ands
               refine ⟨?_, ?_, ?_, ?_, ?_, ?_⟩ <;> (rw [hcb.cell (by simp; omega)]; assumption)))
          ((go_at_call 99; refine (HCM.out ⟨yp, yt, yd⟩ _).mono ?_; rintro e w1 ⟨rfl, hcb⟩))
        have hb1 : Below wr.heap.size wr w1 := ((Below.refl _ _).drew).trans hcb
        have HB1 := Lib.hid (HBW.out.trans (hb1.mono HBW.out.size))
        have HBLK1 := Lib.hid ((hb1.block w.heap.size hGlt).trans HBLK.out)
        clear hcb hb1 c0 c1 c2 s0 s1 s2
        go_wp2_with fail
      · go_roundg ((lo + hi) / 2 - lo)
        case measure => have := HG.out; omega
        case rel => exact ⟨lo, (lo + hi) / 2, rfl, by rw [show ((lo : Int) + (hi : Int)) / 2 = (((lo + hi) / 2 : Nat) : Int) by omega], by omega, by omega, Nat.le_refl _, HP.out.down HR.out HY.out HYX.out, HB1.out, HBLK1.out⟩
      · go_roundg (hi - ((lo + hi) / 2 + 1))
        case measure => have := HG.out; omega
        case rel => exact ⟨(lo + hi) / 2 + 1, hi, by rw [show ((lo : Int) + (hi : Int)) / 2 + 1 = (((lo + hi) / 2 + 1 : Nat) : Int) by omega], rfl, by omega, hin, Nat.le_refl _, HP.out.up HR.out HY.out HYX.out, HB1.out, HBLK1.out⟩
    · obtain rfl : hi = lo := by omega
      by_cases hn : hi < l.length
      · obtain ⟨y, hy, _⟩ := at_of hn
        obtain ⟨b, off, rfl, hcc⟩ := HC.out.resolve_left (fun h => by rw [h.2] at hy; simp at hy)
        have q := hcc _ y hy
        have hbl := q.lt
        obtain ⟨c0, c1, c2⟩ := q.below HBW.out hbl
        have HY := Lib.hid hy
        have hm0 : (0 : Int) ≤ (hi : Int) := Int.natCast_nonneg _
        have hm1 : (hi : Int) < (l.length : Int) := by omega
        by_cases hyx : Key y ⟨p, t, d⟩
        case' pos =>
          have HF := Lib.hid (Parted.yes hy hyx)
          have hord : (ordI y ⟨p, t, d⟩ == 0) = true := eqZ_true hyx
        case' neg =>
          have HF := Lib.hid (HP.out.no HR.out (fun z hz => by rw [hy] at hz; obtain rfl := Option.some.inj hz; exact hyx))
          have hord : (ordI y ⟨p, t, d⟩ == 0) = false := eqZ_false hyx
        all_goals
          obtain ⟨yp, yt, yd⟩ := y
          simp only at c0 c1 c2
          clear hy hcc q hyx
          go_wp2_with fail
          go_region_held3 (fun w' => w'.cell? ⟨w.heap.size, 0, none⟩ = some (.int .i64 p) ∧ w'.cell? ⟨w.heap.size, 1, none⟩ = some (.int .u64 t) ∧ w'.cell? ⟨w.heap.size, 2, none⟩ = some (.int .i64 d) ∧ w'.cell? ⟨b, off + hi * 3, none⟩ = some (.int .i64 yp) ∧ w'.cell? ⟨b, off + hi * 3 + 1, none⟩ = some (.int .u64 yt) ∧ w'.cell? ⟨b, off + hi * 3 + 2, none⟩ = some (.int .i64 yd))
            (first
              | go_keep
              | (go_split_ands
                 refine ⟨?_, ?_, ?_, ?_, ?_, ?_⟩ <;> (rw [hcb.cell (by simp; omega)]; assumption)))
            ((go_at_call 99; refine (HCM.out ⟨yp, yt, yd⟩ _).mono ?_; rintro e w1 ⟨rfl, hcb⟩))
          have hb1 : Below wr.heap.size wr w1 := ((Below.refl _ _).drew).trans hcb
          have HB1 := Lib.hid (HBW.out.trans (hb1.mono HBW.out.size))
          clear hcb hb1 c0 c1 c2 s0 s1 s2
          go_wp2_with fail
          go_ret2
          exact ⟨hi, _, rfl, HF.out, HB1.out⟩
      · have HF := Lib.hid (HP.out.no HR.out (fun z hz => by have := (List.getElem?_eq_some_iff.1 hz).1; omega))
        have hj2 : decide ((hi : Int) < (l.length : Int)) = false := decide_eq_false (by omega)
        go_wp2_with fail
        go_quiet (fail)
        go_wp2_with fail
        go_ret2
        exact ⟨hi, _, rfl, HF.out, below_drewN HBW.out _⟩
set_option maxRecDepth 1000000 in
set_option maxHeartbeats 8000000 in
theorem of_any {w : World} {v : Value} {l : List Ch} (p t : Int) (hv : Sl w v l) (hr : l.Pairwise Lt) (hl : l.length ≤ 100000) :
    Calls Tryz.prog 53 #[v, .int .i64 p, .int .u64 t] w fun e w' => e = .returned (.int .i64 (tot l p t)) ∧ Below w.heap.size w w' := by
  have HS := Lib.hid (search_any ⟨p, t, 0⟩ hv hr hl)
  have HR := Lib.hid hr
  obtain ⟨ao, cap, rfl, hcell, hlc, hcm, _⟩ := hv
  have HC := Lib.hid hcell
  have hlen : l.length ≤ 9223372036854775807 := by omega
  clear hcell hlc hcm hr
  go_enter Tryz.func53, Tryz.ntmps53
  go_wp2_with fail
  go_at_call 98
  refine HS.out.mono ?_
  rintro e w1 ⟨i, f, rfl, hf, hb1⟩
  have HB1 := Lib.hid hb1
  rcases hf with ⟨rfl, y, hy, hk⟩ | ⟨rfl, hno⟩
  · have HT := Lib.hid (show tot l p t = y.d by rw [← tot_one HR.out (List.mem_of_getElem? hy), hk.1, hk.2])
    obtain ⟨b, off, rfl, hcc⟩ := HC.out.resolve_left (fun h => by rw [h.2] at hy; simp at hy)
    have q := hcc _ y hy
    have hbl := q.lt
    obtain ⟨c0, c1, c2⟩ := q.below hb1 hbl
    have hi := (List.getElem?_eq_some_iff.1 hy).1
    have hm0 : (0 : Int) ≤ (i : Int) := Int.natCast_nonneg _
    have hm1 : (i : Int) < (l.length : Int) := by omega
    clear hy hk hcc q hb1 hbl c0 c1
    go_wp2_with fail
    go_ret
    exact ⟨by rw [HT.out]; rfl, HB1.out⟩
  · have HT := Lib.hid (show tot l p t = 0 from tot_none fun x hx hk => hno x hx ⟨hk.1, hk.2⟩)
    clear hno hb1
    go_wp2_with fail
    go_ret
    exact ⟨by rw [HT.out]; rfl, HB1.out⟩
end Go.Proofs.YtlkljeedlkbkgaaGreatDoor.Batch
namespace Go.Proofs.YtlkljeedlkbkgaaGreatDoor.Cl
open Go.RowKit Gr
set_option linter.unusedVariables false
def MU (M : Nat → Nat → Int) (m : Nat) : Prop := ∀ i j, i < m → j < m → Stamp.U (M i j)
theorem letB_neg {M : Nat → Nat → Int} {m : Nat} {c x : Batch.Ch} (h : x.p < 0) : letB M m c x = false := decide_eq_false (fun e => by omega)
theorem letB_far {M : Nat → Nat → Int} {m : Nat} {c x : Batch.Ch} (h : (m : Int) ≤ x.p) : letB M m c x = false := decide_eq_false (fun e => by omega)
theorem letB_at {M : Nat → Nat → Int} {m i j : Nat} {c x : Batch.Ch} (hi : x.p = (i : Int)) (hj : c.p = (j : Int)) (h : i < m) : letB M m c x = Stamp.reachB x.t (M i j) c.t := by
  unfold letB
  rw [hi, hj, Int.toNat_natCast, Int.toNat_natCast]
  cases e : Stamp.reachB x.t (M i j) c.t
  · exact decide_eq_false (fun h => by simp at h)
  · exact decide_eq_true ⟨by omega, by omega, rfl⟩
set_option maxRecDepth 1000000 in
set_option maxHeartbeats 8000000 in
theorem letBe1_any {w : World} {x c : Batch.Ch} {vp : Value} {m base bp bc j : Nat} {M : Nat → Nat → Int} (hM : Mat w base vp m M) (hMU : MU M m) (hm : m ≤ 64) (hx : x.Wf) (hcw : c.Wf) (hj : c.p = (j : Int)) (hjm : j < m)
    (hp : w.heap[bp]? = some (.cells #[vp] 52 (0, 0))) (hc : w.heap[bc]? = some (.cells #[.int .i64 c.p, .int .u64 c.t, .int .i64 c.d] 72 (0, 0))) :
    Calls Tryz.prog 137 #[x.agg, .pointer (some ⟨bp, 0, none⟩), .pointer (some ⟨bc, 0, none⟩)] w fun e w' => e = .returned (.bool (letB M m c x)) ∧ Below w.heap.size w w' := by
  obtain ⟨g, r, rfl, hmf⟩ := hM
  have p0 : w.cell? ⟨bp, 0, none⟩ = some (.slice (some ⟨g, 0, none⟩) m m) := by rw [cell_of_row _ bp 0 _ _ (0, 0) hp]; rfl
  obtain ⟨c0, c1, c2, _⟩ := trip_cells hc
  have hbpl := (Array.getElem?_eq_some_iff.1 hp).1
  have hbcl := (Array.getElem?_eq_some_iff.1 hc).1
  have hgl := hmf.top.lt
  obtain ⟨xp, xt, xd⟩ := x
  obtain ⟨cp, ct, cd⟩ := c
  simp only at hj c0 c1 c2
  subst hj
  have hb : Below w.heap.size w (w.alloc (.cells #[.int .i64 xp, .int .u64 xt, .int .i64 xd] 72)) := (Below.refl _ _).alloc (Nat.le_refl _) _
  have HB := Lib.hid hb
  clear hb hp hc
  by_cases h1 : xp < 0
  · have HL := Lib.hid (letB_neg (M := M) (m := m) (c := ⟨(j : Int), ct, cd⟩) (x := ⟨xp, xt, xd⟩) h1)
    have h2 : decide ((0 : Int) ≤ xp) = false := decide_eq_false (by omega)
    go_enter Tryz.func137, Tryz.ntmps137
    go_wp2_with fail
    go_quiet (fail)
    go_wp2_with fail
    go_ret
    exact ⟨by rw [HL.out]; rfl, below_drewN HB.out _⟩
  · by_cases h2 : xp < (m : Int)
    · obtain ⟨i, rfl⟩ : ∃ i : Nat, xp = (i : Int) := ⟨xp.toNat, by omega⟩
      have him : i < m := by omega
      have HL := Lib.hid (letB_at (M := M) (m := m) (c := ⟨(j : Int), ct, cd⟩) (x := ⟨(i : Int), xt, xd⟩) (i := i) (j := j) rfl rfl him)
      have t0 := hmf.top.cell him
      have r0 := (hmf.row i him).cell hjm
      have hrl := (hmf.row i him).lt
      obtain ⟨mij, hmij⟩ : ∃ z, z = M i j := ⟨_, rfl⟩
      have HU := Lib.hid (hMU i j him hjm)
      rw [← hmij] at r0 HU HL
      have hi0 : (0 : Int) ≤ (i : Int) := Int.natCast_nonneg _
      have hj0 : (0 : Int) ≤ (j : Int) := Int.natCast_nonneg _
      have hjm2 : (j : Int) < (m : Int) := by omega
      obtain ⟨rb, hrb⟩ : ∃ z, z = Stamp.reachB xt mij ct := ⟨_, rfl⟩
      have hsm : ∀ W, Calls Tryz.prog 138 #[.int .u64 xt, .int .u64 mij, .int .u64 ct] W fun e w' => e = .returned (.bool rb) ∧ w' = W := fun W => (Stamp.reaches_any xt mij ct ⟨hx.t0, hx.t1⟩ HU.out ⟨hcw.t0, hcw.t1⟩ W).mono fun e w' ⟨h1, h2⟩ => ⟨by rw [hrb]; exact h1, h2.symm⟩
      have HSM := Lib.hid hsm
      have HRB := Lib.hid hrb
      clear hmf hmij h1 hsm hrb
      go_enter Tryz.func137, Tryz.ntmps137
      go_wp2_with fail
      go_quiet ((go_at_call 138; exact Calls.quiet_of_same (HSM.out _)))
      go_wp2_with fail
      go_ret
      exact ⟨by rw [HL.out]; show _ = Ending.returned (.bool (Stamp.reachB xt mij ct)); rw [← HRB.out]; rfl, below_drewN HB.out _⟩
    · have HL := Lib.hid (letB_far (M := M) (m := m) (c := ⟨(j : Int), ct, cd⟩) (x := ⟨xp, xt, xd⟩) (by show (m : Int) ≤ xp; omega))
      have h1' : (0 : Int) ≤ xp := by omega
      have h3 : decide (xp < (m : Int)) = false := decide_eq_false h2
      go_enter Tryz.func137, Tryz.ntmps137
      go_wp2_with fail
      go_quiet (fail)
      go_wp2_with fail
      go_ret
      exact ⟨by rw [HL.out]; rfl, below_drewN HB.out _⟩
def LetZ (M : Nat → Nat → Int) (m : Nat) (A : List Batch.Ch) (c : Batch.Ch) (z : Int) : Prop := (z = -1 ∧ letsB M m A c = false) ∨ (0 ≤ z ∧ letsB M m A c = true)
theorem lets_no {M : Nat → Nat → Int} {m : Nat} {A : List Batch.Ch} {c : Batch.Ch} (h : ∀ x ∈ A, letB M m c x = false) : letsB M m A c = false := by
  cases e : letsB M m A c
  · rfl
  · obtain ⟨x, hx, e⟩ := letsB_iff.1 e
    rw [h x hx] at e
    cases e
set_option maxRecDepth 1000000 in
set_option maxHeartbeats 8000000 in
theorem idxL_any {w : World} {v vp : Value} {A : List Batch.Ch} {c : Batch.Ch} {m base bp bc j : Nat} {M : Nat → Nat → Int} (hv : Batch.Sl w v A) (hM : Mat w base vp m M) (hMU : MU M m) (hm : m ≤ 64) (hcw : c.Wf) (hj : c.p = (j : Int)) (hjm : j < m)
    (hp : w.heap[bp]? = some (.cells #[vp] 52 (0, 0))) (hc : w.heap[bc]? = some (.cells #[.int .i64 c.p, .int .u64 c.t, .int .i64 c.d] 72 (0, 0))) :
    Calls Tryz.prog 152 #[v, .func (.func 137) #[] #[.pointer (some ⟨bp, 0, none⟩), .pointer (some ⟨bc, 0, none⟩)]] w
      fun e w' => ∃ z : Int, e = .returned (.int .i64 z) ∧ LetZ M m A c z ∧ Below w.heap.size w w' := by
  have HV := Lib.hid hv
  have HWF := Lib.hid hv.wf
  obtain ⟨ao, cap, rfl, hcell, hc1, hc2, _⟩ := hv
  have HC := Lib.hid hcell
  have hlen : A.length ≤ 9223372036854775807 := by omega
  have HCM := Lib.hid (fun (x : Batch.Ch) (hx : x.Wf) (W : World) (hb : Below w.heap.size w W) => letBe1_any (w := W) (x := x) (hM.below hb) hMU hm hx hcw hj hjm ((hb.block _ (Array.getElem?_eq_some_iff.1 hp).1).trans hp) ((hb.block _ (Array.getElem?_eq_some_iff.1 hc).1).trans hc))
  clear hp hc hM hMU hcell hc1 hc2
  go_enter Tryz.func152, Tryz.ntmps152
  go_wp2
  go_loopg [8] A.length (fun k s8 wr => ∃ i : Nat, i + k = A.length ∧ s8 = .int .i64 i ∧ (∀ x ∈ A.take i, letB M m c x = false) ∧ Below w.heap.size w wr)
  case atStart => exact ⟨0, by omega, rfl, by simp, Below.refl _ _⟩
  case round =>
    obtain ⟨i, hik, rfl, hok, hbw⟩ := hrel
    have HIK := Lib.hid hik
    have HOK := Lib.hid hok
    have HBW := Lib.hid hbw
    clear hok hbw hik
    have hi0 : (0 : Int) ≤ (i : Int) := Int.natCast_nonneg _
    by_cases hlt : i < A.length
    · obtain ⟨x, hx, hxm⟩ := Batch.at_of hlt
      obtain ⟨b, off, rfl, hcc⟩ := HC.out.resolve_left (fun h => by rw [h.2] at hx; simp at hx)
      have q := hcc _ x hx
      obtain ⟨c0, c1, c2⟩ := q.below HBW.out q.lt
      have HX := Lib.hid hx
      have hi1 : (i : Int) < (A.length : Int) := by omega
      have HLT := Lib.hid hlt
      have HCX := Lib.hid (HCM.out x (HWF.out x hxm) wr HBW.out)
      have HXM := Lib.hid hxm
      obtain ⟨xp, xt, xd⟩ := x
      simp only at c0 c1 c2
      cases hl : letB M m c ⟨xp, xt, xd⟩
      all_goals
        have HLB := Lib.hid hl
        clear hx hxm q hlt hcc hl
        go_wp2_with fail
        go_at_call 137
        refine HCX.out.mono ?_
        rw [HLB.out]
        rintro e w1 ⟨rfl, hcb⟩
        have HB1 := Lib.hid (HBW.out.trans (hcb.mono HBW.out.size))
        clear hcb c0 c1 c2
        go_wp2_with fail
      · go_roundg (gk - 1)
        case measure => have := HIK.out; have := HLT.out; omega
        case rel => exact ⟨i + 1, by have := HIK.out; have := HLT.out; omega, by go_num, fun x hx => by
          rw [Batch.take_succ' HX.out] at hx
          rcases List.mem_append.1 hx with hx | hx
          · exact HOK.out x hx
          · simp at hx; subst hx; exact HLB.out, HB1.out⟩
      · go_ret
        exact ⟨_, rfl, .inr ⟨hi0, letsB_iff.2 ⟨_, HXM.out, HLB.out⟩⟩, HB1.out⟩
    · have hj2 : decide ((i : Int) < (A.length : Int)) = false := decide_eq_false (by omega)
      have HF := Lib.hid (show LetZ M m A c (-1) from .inl ⟨rfl, lets_no fun x hx => HOK.out x (by rw [List.take_of_length_le (by omega)]; exact hx)⟩)
      go_wp2_with fail
      go_ret
      exact ⟨_, rfl, HF.out, HBW.out⟩
set_option maxRecDepth 1000000 in
set_option maxHeartbeats 8000000 in
theorem containsL_any {w : World} {v vp : Value} {A : List Batch.Ch} {c : Batch.Ch} {m base bp bc j : Nat} {M : Nat → Nat → Int} (hv : Batch.Sl w v A) (hM : Mat w base vp m M) (hMU : MU M m) (hm : m ≤ 64) (hcw : c.Wf) (hj : c.p = (j : Int)) (hjm : j < m)
    (hp : w.heap[bp]? = some (.cells #[vp] 52 (0, 0))) (hc : w.heap[bc]? = some (.cells #[.int .i64 c.p, .int .u64 c.t, .int .i64 c.d] 72 (0, 0))) :
    Calls Tryz.prog 136 #[v, .func (.func 137) #[] #[.pointer (some ⟨bp, 0, none⟩), .pointer (some ⟨bc, 0, none⟩)]] w
      fun e w' => e = .returned (.bool (letsB M m A c)) ∧ Below w.heap.size w w' := by
  have HI := Lib.hid (idxL_any hv hM hMU hm hcw hj hjm hp hc)
  clear hp hc hM hMU hv hj hcw hjm hm
  go_enter Tryz.func136, Tryz.ntmps136
  go_wp2_with fail
  go_at_call 152
  refine HI.out.mono ?_
  rintro e w1 ⟨z, rfl, hz, hb⟩
  have HB := Lib.hid hb
  rcases hz with ⟨rfl, hl⟩ | ⟨hz, hl⟩
  · have HL := Lib.hid hl
    clear hl hb
    go_wp2_with fail
    go_ret
    exact ⟨by rw [HL.out]; rfl, HB.out⟩
  · have HL := Lib.hid hl
    have hz2 : decide ((0 : Int) ≤ z) = true := decide_eq_true hz
    clear hl hb
    go_wp2_with fail
    go_ret
    exact ⟨by rw [HL.out]; rfl, HB.out⟩
set_option maxRecDepth 1000000 in
set_option maxHeartbeats 8000000 in
theorem letBe_any {w : World} {v vp : Value} {A : List Batch.Ch} {c : Batch.Ch} {m base j : Nat} {M : Nat → Nat → Int} (hv : Batch.Sl w v A) (hM : Mat w base vp m M) (hMU : MU M m) (hm : m ≤ 64) (hcw : c.Wf) (hj : c.p = (j : Int)) (hjm : j < m) :
    Calls Tryz.prog 105 #[v, vp, c.agg] w fun e w' => e = .returned (.bool (letsB M m A c)) ∧ Below w.heap.size w w' := by
  obtain ⟨w0, hw0⟩ : ∃ w0, w0 = (w.alloc (.cells #[vp] 52)).alloc (.cells #[.int .i64 c.p, .int .u64 c.t, .int .i64 c.d] 72) := ⟨_, rfl⟩
  have hb0 : Below w.heap.size w w0 := by rw [hw0]; exact ((Below.refl _ _).alloc (Nat.le_refl _) _).alloc (by simp) _
  have hp : w0.heap[w.heap.size]? = some (.cells #[vp] 52 (0, 0)) := by rw [hw0, heap_alloc_old _ _ (by simp)]; exact heap_alloc_new w _
  have hc : w0.heap[w.heap.size + 1]? = some (.cells #[.int .i64 c.p, .int .u64 c.t, .int .i64 c.d] 72 (0, 0)) := by
    rw [hw0]; have := heap_alloc_new (w.alloc (.cells #[vp] 52)) (.cells #[.int .i64 c.p, .int .u64 c.t, .int .i64 c.d] 72); simpa using this
  have HI := Lib.hid (containsL_any (hv.below hb0) (hM.below hb0) hMU hm hcw hj hjm hp hc)
  have HB0 := Lib.hid hb0
  obtain ⟨g, r, rfl, hmf⟩ := hM
  obtain ⟨cp, ct, cd⟩ := c
  clear hp hc hb0 hmf hv hMU hj
  go_enter Tryz.func105, Tryz.ntmps105
  go_wp2_with fail
  go_at_call 136
  rw [← hw0]
  clear hw0
  refine HI.out.mono ?_
  rintro e w1 ⟨rfl, hb⟩
  have HB := Lib.hid (HB0.out.trans (hb.mono HB0.out.size))
  clear hb
  go_wp2_with fail
  go_ret
  exact ⟨rfl, HB.out⟩
end Go.Proofs.YtlkljeedlkbkgaaGreatDoor.Cl
