/-
  PACKAGE batch: weave: two lists that do not fall become one, in memory of the call's own.
-/
import Derived.Test.YtdllgeanmlmmfaaGreatDoorJoined6
import Derived.Test.YtdllgeanmlmmfaaGreatDoorJoined2
import Derived.Laws.MakeOwn
namespace Go.Proofs.YtdllgeanmlmmfaaGreatDoor.Batch
open Go.RowKit
set_option linter.unusedVariables false

def Wv (A B L x y : List Ch) : Prop := (L ++ x ++ y).Perm (A ++ B) ∧ Sorted L ∧ Sorted x ∧ Sorted y ∧ ∀ p ∈ L, ∀ q, q ∈ x ∨ q ∈ y → ¬ Lt q p
theorem Wv.start {A B : List Ch} (ha : Sorted A) (hb : Sorted B) : Wv A B [] A B := ⟨List.Perm.refl _, List.Pairwise.nil, ha, hb, fun p hp => absurd hp (by simp)⟩
theorem Sorted.snoc {L : List Ch} {x : Ch} (h : Sorted L) (hx : ∀ p ∈ L, ¬ Lt x p) : Sorted (L ++ [x]) := by
  unfold Sorted
  rw [List.pairwise_append]
  exact ⟨h, by simp, fun p hp q hq => by simp at hq; subst hq; exact hx p hp⟩
theorem Wv.left {A B L x y : List Ch} {a b : Ch} (h : Wv A B L (a :: x) (b :: y)) (hle : ¬ Lt b a) : Wv A B (L ++ [a]) x (b :: y) := by
  obtain ⟨h1, h2, h3, h4, h5⟩ := h
  have h3' := List.pairwise_cons.1 h3
  have h4' := List.pairwise_cons.1 h4
  refine ⟨by simpa using h1, h2.snoc (fun p hp => h5 p hp a (.inl (by simp))), h3'.2, h4, fun p hp q hq => ?_⟩
  rcases List.mem_append.1 hp with hp | hp
  · exact h5 p hp q (hq.elim (fun h => .inl (by simp [h])) .inr)
  · simp at hp
    subst hp
    rcases hq with hq | hq
    · exact h3'.1 q hq
    · rcases List.mem_cons.1 hq with rfl | hq
      · exact hle
      · have := h4'.1 q hq
        unfold Lt at *; omega
theorem Wv.right {A B L x y : List Ch} {a b : Ch} (h : Wv A B L (a :: x) (b :: y)) (hle : ¬ Lt a b) : Wv A B (L ++ [b]) (a :: x) y := by
  obtain ⟨h1, h2, h3, h4, h5⟩ := h
  have h3' := List.pairwise_cons.1 h3
  have h4' := List.pairwise_cons.1 h4
  refine ⟨?_, h2.snoc (fun p hp => h5 p hp b (.inr (by simp))), h3, h4'.2, fun p hp q hq => ?_⟩
  · refine List.Perm.trans ?_ h1
    rw [List.append_assoc, List.append_assoc, List.append_assoc]
    refine List.Perm.append_left L ?_
    exact (List.perm_middle (a := b) (l₁ := a :: x) (l₂ := y)).symm
  · rcases List.mem_append.1 hp with hp | hp
    · exact h5 p hp q (hq.elim .inl (fun h => .inr (by simp [h])))
    · simp at hp
      subst hp
      rcases hq with hq | hq
      · rcases List.mem_cons.1 hq with rfl | hq
        · exact hle
        · have := h3'.1 q hq
          unfold Lt at *; omega
      · exact h4'.1 q hq
theorem Wv.done {A B L x y : List Ch} (h : Wv A B L x y) (h0 : x = [] ∨ y = []) : (L ++ x ++ y).Perm (A ++ B) ∧ Sorted (L ++ x ++ y) := by
  obtain ⟨h1, h2, h3, h4, h5⟩ := h
  refine ⟨h1, ?_⟩
  rcases h0 with rfl | rfl
  · rw [List.append_nil]
    unfold Sorted
    rw [List.pairwise_append]
    exact ⟨h2, h4, fun p hp q hq => h5 p hp q (.inr hq)⟩
  · rw [List.append_nil]
    unfold Sorted
    rw [List.pairwise_append]
    exact ⟨h2, h3, fun p hp q hq => h5 p hp q (.inl hq)⟩
theorem Wv.length {A B L x y : List Ch} (h : Wv A B L x y) : L.length + x.length + y.length = A.length + B.length := by
  have := h.1.length_eq
  simp only [List.length_append] at this
  exact this

/-- What is left behind its first one. -/
theorem Sl.tail1 {w : World} {b off n : Nat} {x : Ch} {l : List Ch} (h : Sl w (.slice (some ⟨b, off, none⟩) n 1) (x :: l)) : Sl w (.slice (some ⟨b, off, none⟩) l.length 0) l := by
  obtain ⟨ao, cap', hv, h1, hc, hm, hw⟩ := h
  simp only [Value.slice.injEq] at hv
  obtain ⟨rfl, rfl, rfl⟩ := hv
  rw [List.length_cons] at hc
  obtain rfl : l = [] := List.length_eq_zero_iff.1 (by omega)
  exact ⟨_, _, rfl, .inr ⟨b, off, rfl, fun i y hy => by simp at hy⟩, by simp, by omega, by simp⟩
theorem Sl.tail2 {w : World} {b off n cap : Nat} {x : Ch} {l : List Ch} (h : Sl w (.slice (some ⟨b, off, none⟩) n cap) (x :: l)) (hcap : cap ≠ 1) : Sl w (.slice (some ⟨b, off + 3, none⟩) l.length (cap - 1)) l := by
  obtain ⟨ao, cap', hv, h1, hc, hm, hw⟩ := h
  simp only [Value.slice.injEq] at hv
  obtain ⟨rfl, rfl, rfl⟩ := hv
  rcases h1 with ⟨h, _⟩ | ⟨b', off', hb, h1⟩
  · cases h
  · simp at hb
    obtain ⟨rfl, rfl⟩ := hb
    rw [List.length_cons] at hc
    refine ⟨_, _, rfl, .inr ⟨b, off + 3, rfl, fun i y hy => ?_⟩, by omega, by omega, fun y hy => hw y (by simp [hy])⟩
    have := h1 (i + 1) y (by simpa using hy)
    rw [show off + (i + 1) * 3 = off + 3 + i * 3 by omega] at this
    exact this

set_option maxRecDepth 1000000 in
set_option maxHeartbeats 16000000 in
theorem weave_any {w : World} {va vb : Value} {A B : List Ch} (ha : Sl w va A) (hb : Sl w vb B) (hsa : Sorted A) (hsb : Sorted B) (hl : A.length + B.length ≤ 100000) :
    Calls Tryz.prog 77 #[va, vb] w fun e w' => ∃ (v' : Value) (l : List Ch), e = .returned v' ∧ l.Perm (A ++ B) ∧ Sorted l ∧ Own w' w.heap.size 103 v' l ∧ Below w.heap.size w w' := by
  obtain ⟨i0, hi, hz0, hz1, hz2⟩ := info_parts infoCh
  have HA := Lib.hid ha
  have HB := Lib.hid hb
  have HL := Lib.hid hl
  have HW := Lib.hid (Wv.start hsa hsb)
  obtain ⟨aa, ca, rfl, _⟩ := ha
  obtain ⟨ab, cb, rfl, _⟩ := hb
  have hla : A.length ≤ 100000 := by omega
  have hlb : B.length ≤ 100000 := by omega
  clear hsa hsb hl
  go_enter Tryz.func77, Tryz.ntmps77
  go_wp2_with (at_make; refine wpList_make_own _ rfl _ _ 51 rfl w.heap.size 103 i0 (.agg #[.int .i64 0, .int .u64 0, .int .i64 0]) 3 Tryz.underlying51 hi hz0 hz1 .i64 .i64 _ (A.length + B.length) rfl rfl (by omega) (by rw [hz2]; omega) (by unfold maxLen; omega) (Nat.le_refl _) ?_; intro w0 hown0 hgrow0)
  have HO0 := Lib.hid hown0
  have HB0 := Lib.hid (show Below w.heap.size w w0 from (Below.refl _ _).grown hgrow0 (Nat.le_refl _) (fun k e => by cases e))
  clear hown0 hgrow0
  go_wp2
  go_loopg [0, 1, 5] (A.length + B.length) (fun k x y o wr => ∃ (X Y L : List Ch), X.length + Y.length = k ∧ Sl w x X ∧ Sl w y Y ∧ Wv A B L X Y ∧ Own wr w.heap.size 103 o L ∧ Below w.heap.size w wr)
  case atStart => exact ⟨A, B, [], rfl, HA.out, HB.out, HW.out, HO0.out, HB0.out⟩
  case round =>
    obtain ⟨X, Y, L, hk, hx, hy, hw, hown, hbw⟩ := hrel
    have HK := Lib.hid hk
    have HX := Lib.hid hx
    have HY := Lib.hid hy
    have HWV := Lib.hid hw
    have HOWN := Lib.hid hown
    have HBW := Lib.hid hbw
    have hlen := hw.length
    have HLEN := Lib.hid hlen
    obtain ⟨ax, cx, rfl, kx, hcx, hmx, _⟩ := hx
    obtain ⟨ay, cy, rfl, ky, hcy, hmy, _⟩ := hy
    have hXl : X.length ≤ 100000 := by have := HL.out; omega
    have hYl : Y.length ≤ 100000 := by have := HL.out; omega
    have hLl : L.length + X.length + Y.length ≤ 100000 := by have := HL.out; omega
    clear hk hw hown hbw hlen
    cases X with
    | nil =>
      clear kx ky hcx hmx hcy hmy
      have HXr := Lib.hid (HX.out.below HBW.out).src.2
      have HYr := Lib.hid (HY.out.below HBW.out)
      have hown := HOWN.out
      have hbs : w.heap.size ≤ wr.heap.size := HBW.out.size
      go_wp2_with (first
        | (at_builtin
           refine wpList_append_any _ rfl (.tmp 44) (.tmp 45) _ _ rfl w.heap.size 103 103 i0 (.agg #[.int .i64 0, .int .u64 0, .int .i64 0]) 3 24 Tryz.underlying51 Tryz.underlying54 hi hz0 hz1 hz2 rfl (by decide) _ L.length (cellsL L) rfl hown ax 0 cx (cellsL []) rfl (cellsL_length _) HXr.out (cellsL_one _) (by unfold maxLen; simp at hLl; omega) (by simp at hLl; omega) hbs ?_
           intro v1 w1 hown1 hg1 hat1
           have hbw1 : Below w.heap.size w w1 := HBW.out.grown hg1 hbs (fun k e => (hown.lt k e).1)
           have HB1 := Lib.hid hbw1
           have hbs1 : w.heap.size ≤ w1.heap.size := hbw1.size
           have HYs := Lib.hid (HY.out.below HB1.out).src.2
           clear hg1 hat1 hbw1)
        | (at_builtin
           refine wpList_append_any _ rfl (.tmp 46) (.tmp 47) _ _ rfl w.heap.size 103 103 i0 (.agg #[.int .i64 0, .int .u64 0, .int .i64 0]) 3 24 Tryz.underlying51 Tryz.underlying54 hi hz0 hz1 hz2 rfl (by decide) _ (L.length + 0) (cellsL L ++ cellsL []) rfl hown1 ay Y.length cy (cellsL Y) rfl (cellsL_length _) HYs.out (cellsL_one _) (by unfold maxLen; simp at hLl; omega) (by simp at hLl; omega) hbs1 ?_
           intro v2 w2 hown2 hg2 hat2
           have hbw2 : Below w.heap.size w w2 := HB1.out.grown hg2 hbs1 (fun k e => (hown1.lt k e).1)
           have HB2 := Lib.hid hbw2
           have HO2 := Lib.hid hown2
           clear hg2 hat2 hbw2 hown2))
      go_ret
      refine ⟨_, L ++ [] ++ Y, rfl, (HWV.out.done (.inl rfl)).1, (HWV.out.done (.inl rfl)).2, ?_, HB2.out⟩
      unfold Own
      rw [List.length_append, List.length_append, cellsL_append, cellsL_append]
      exact HO2.out
    | cons x X' =>
      cases Y with
      | nil =>
        clear kx ky hcx hmx hcy hmy
        have hxp : (0 : Int) < ((X'.length + 1 : Nat) : Int) := by omega
        have HXr := Lib.hid (HX.out.below HBW.out).src.2
        have HYr := Lib.hid (HY.out.below HBW.out)
        have hown := HOWN.out
        have hbs : w.heap.size ≤ wr.heap.size := HBW.out.size
        go_wp2_with (first
          | (at_builtin
             refine wpList_append_any _ rfl (.tmp 44) (.tmp 45) _ _ rfl w.heap.size 103 103 i0 (.agg #[.int .i64 0, .int .u64 0, .int .i64 0]) 3 24 Tryz.underlying51 Tryz.underlying54 hi hz0 hz1 hz2 rfl (by decide) _ L.length (cellsL L) rfl hown ax (X'.length + 1) cx (cellsL (x :: X')) rfl (cellsL_length _) HXr.out (cellsL_one _) (by unfold maxLen; simp at hLl; omega) (by simp at hLl; omega) hbs ?_
             intro v1 w1 hown1 hg1 hat1
             have hbw1 : Below w.heap.size w w1 := HBW.out.grown hg1 hbs (fun k e => (hown.lt k e).1)
             have HB1 := Lib.hid hbw1
             have hbs1 : w.heap.size ≤ w1.heap.size := hbw1.size
             have HYs := Lib.hid (HY.out.below HB1.out).src.2
             clear hg1 hat1 hbw1)
          | (at_builtin
             refine wpList_append_any _ rfl (.tmp 46) (.tmp 47) _ _ rfl w.heap.size 103 103 i0 (.agg #[.int .i64 0, .int .u64 0, .int .i64 0]) 3 24 Tryz.underlying51 Tryz.underlying54 hi hz0 hz1 hz2 rfl (by decide) _ (L.length + (X'.length + 1)) (cellsL L ++ cellsL (x :: X')) rfl hown1 ay 0 cy (cellsL []) rfl (cellsL_length _) HYs.out (cellsL_one _) (by unfold maxLen; simp at hLl; omega) (by simp at hLl; omega) hbs1 ?_
             intro v2 w2 hown2 hg2 hat2
             have hbw2 : Below w.heap.size w w2 := HB1.out.grown hg2 hbs1 (fun k e => (hown1.lt k e).1)
             have HB2 := Lib.hid hbw2
             have HO2 := Lib.hid hown2
             clear hg2 hat2 hbw2 hown2))
        go_ret
        refine ⟨_, L ++ (x :: X') ++ [], rfl, (HWV.out.done (.inr rfl)).1, (HWV.out.done (.inr rfl)).2, ?_, HB2.out⟩
        unfold Own
        rw [List.length_append, List.length_append, cellsL_append, cellsL_append]
        exact HO2.out
      | cons y Y' =>
        obtain ⟨bx, ox, rfl, gx⟩ := kx.resolve_left (fun h => by cases h.2)
        obtain ⟨by', oy, rfl, gy⟩ := ky.resolve_left (fun h => by cases h.2)
        have qx := gx 0 x rfl
        have qy := gy 0 y rfl
        rw [Nat.zero_mul, Nat.add_zero] at qx qy
        have hcxl : X'.length + 1 ≤ cx := hcx
        have hcyl : Y'.length + 1 ≤ cy := hcy
        obtain ⟨a0, a1, a2⟩ := qx.below HBW.out qx.lt
        obtain ⟨b0, b1, b2⟩ := qy.below HBW.out qy.lt
        have hbs : w.heap.size ≤ wr.heap.size := HBW.out.size
        have hxlt := qx.lt
        have hylt := qy.lt
        have hLl' : L.length + (X'.length + 1) + (Y'.length + 1) ≤ 100000 := hLl
        clear kx ky gx gy hcx hcy
        obtain ⟨xp, xt, xd⟩ := x
        obtain ⟨yp, yt, yd⟩ := y
        simp only at a0 a1 a2 b0 b1 b2
        by_cases hle : ordI ⟨xp, xt, xd⟩ ⟨yp, yt, yd⟩ ≤ 0
        all_goals
          have HQX := Lib.hid qx
          have HQY := Lib.hid qy
          have HLE := Lib.hid hle
          clear qx qy hLl
          go_wp2_with fail
          go_region_held3 (fun w' => w'.cell? ⟨bx, ox, none⟩ = some (.int .i64 xp) ∧ w'.cell? ⟨bx, ox + 1, none⟩ = some (.int .u64 xt) ∧ w'.cell? ⟨bx, ox + 2, none⟩ = some (.int .i64 xd) ∧ w'.cell? ⟨by', oy, none⟩ = some (.int .i64 yp) ∧ w'.cell? ⟨by', oy + 1, none⟩ = some (.int .u64 yt) ∧ w'.cell? ⟨by', oy + 2, none⟩ = some (.int .i64 yd))
            (first
              | go_keep
              | (go_split_ands
                 refine ⟨?_, ?_, ?_, ?_, ?_, ?_⟩ <;> (rw [hcb.cell (by simp; omega)]; assumption)))
            ((go_at_call 108; refine (cmpB_any ⟨xp, xt, xd⟩ ⟨yp, yt, yd⟩ _).mono ?_; rintro e w1 ⟨rfl, hcb⟩))
          have hb1 : Below wr.heap.size wr w1 := ((Below.refl _ _).drew).trans hcb
          have HB1 := Lib.hid (show Below w.heap.size w w1 from HBW.out.trans (hb1.mono hbs))
          have HO1 := Lib.hid (HOWN.out.below hb1)
          have qx := HQX.out
          have qy := HQY.out
          clear hcb hb1 a0 a1 a2 b0 b1 b2
        · have HNEW := Lib.hid (HWV.out.left (fun h => absurd (ordI_pos.2 h) (by have := HLE.out; omega)))
          have hown := HO1.out
          have hbase : w.heap.size ≤ w1.heap.size := HB1.out.size
          have hblt : bx < w1.heap.size := by have := qx.lt; omega
          have ag : u5.ownBlock ≠ some bx := fun e => by have := (hown.lt bx e).1; have := qx.lt; omega
          obtain ⟨c0, c1, c2⟩ := qx.below HB1.out qx.lt
          have h1t : (1 : Int) ≤ (X'.length : Int) + 1 := by omega
          rcases (show cx = 1 ∨ cx ≠ 1 by omega) with rfl | hcap
          case' inl =>
            obtain rfl : X' = [] := List.length_eq_zero_iff.1 (by omega)
            have HV' := Lib.hid (Sl.tail1 HX.out)
          case' inr => have HV' := Lib.hid (Sl.tail2 HX.out hcap)
          all_goals
            go_wp2_with fail
            go_region_held3 (fun w' => w'.cell? ⟨bx, ox, none⟩ = some (.int .i64 xp) ∧ w'.cell? ⟨bx, ox + 1, none⟩ = some (.int .u64 xt) ∧ w'.cell? ⟨bx, ox + 2, none⟩ = some (.int .i64 xd))
              (first
                | go_keep
                | (go_split_ands
                   refine ⟨?_, ?_, ?_⟩
                   · (rw [hgrow.cell_far _ (by simp; omega) (Ne.symm ag)]; assumption)
                   · (rw [hgrow.cell_far _ (by simp; omega) (Ne.symm ag)]; assumption)
                   · (rw [hgrow.cell_far _ (by simp; omega) (Ne.symm ag)]; assumption)))
              ((refine step_append_lies _ (by rfl) _ _ _ (by rfl) w.heap.size 103 i0 _ 3 24 Tryz.underlying51 hi hz0 hz1 hz2 rfl (by omega) u5 L.length (cellsL L) (by rfl) ((World.ownsRow.alloc hown _).drew)
                  ⟨w1.heap.size, 0, none⟩ 1 1 [.int .i64 xp, .int .u64 xt, .int .i64 xd] (by rfl) (by rfl) (World.news_of_block (cs := #[.int .i64 xp, .int .u64 xt, .int .i64 xd]) (t := 103) (fr := (0, 0)) (heap_alloc_new w1 _)) (by simp [Value.oneCell'])
                  (by omega) (by unfold maxLen; omega) (by omega) (by simp; omega) (w1.heap.size + 1) (by simp) ?_; intro gg cap1 w2 hown1 hgrow hat hlt))
            have hb2 : Below w.heap.size w w2 := ((HB1.out.alloc hbase _).drew).grown hgrow (by simp; omega) (fun k e => (hown.lt k e).1)
            have HO2 := Lib.hid hown1
            have HB2 := Lib.hid hb2
            clear hown hown1 hgrow hat hlt hb2 c0 c1 c2 ag
            go_wp2
            go_roundg (gk - 1)
            case measure => have := HK.out; simp at this; omega
            case rel =>
              refine ⟨_, _, L ++ [⟨xp, xt, xd⟩], by have := HK.out; simp at this ⊢; omega, HV'.out, HY.out, HNEW.out, ?_, HB2.out⟩
              unfold Own
              rw [List.length_append, cellsL_snoc]
              exact HO2.out
        · have HNEW := Lib.hid (HWV.out.right (fun h => absurd (ordI_neg.2 h) (by have := HLE.out; omega)))
          have hown := HO1.out
          have hbase : w.heap.size ≤ w1.heap.size := HB1.out.size
          have hblt : by' < w1.heap.size := by have := qy.lt; omega
          have ag : u5.ownBlock ≠ some by' := fun e => by have := (hown.lt by' e).1; have := qy.lt; omega
          obtain ⟨c0, c1, c2⟩ := qy.below HB1.out qy.lt
          have h1t : (1 : Int) ≤ (Y'.length : Int) + 1 := by omega
          rcases (show cy = 1 ∨ cy ≠ 1 by omega) with rfl | hcap
          case' inl =>
            obtain rfl : Y' = [] := List.length_eq_zero_iff.1 (by omega)
            have HV' := Lib.hid (Sl.tail1 HY.out)
          case' inr => have HV' := Lib.hid (Sl.tail2 HY.out hcap)
          all_goals
            go_wp2_with fail
            go_region_held3 (fun w' => w'.cell? ⟨by', oy, none⟩ = some (.int .i64 yp) ∧ w'.cell? ⟨by', oy + 1, none⟩ = some (.int .u64 yt) ∧ w'.cell? ⟨by', oy + 2, none⟩ = some (.int .i64 yd))
              (first
                | go_keep
                | (go_split_ands
                   refine ⟨?_, ?_, ?_⟩
                   · (rw [hgrow.cell_far _ (by simp; omega) (Ne.symm ag)]; assumption)
                   · (rw [hgrow.cell_far _ (by simp; omega) (Ne.symm ag)]; assumption)
                   · (rw [hgrow.cell_far _ (by simp; omega) (Ne.symm ag)]; assumption)))
              ((refine step_append_lies _ (by rfl) _ _ _ (by rfl) w.heap.size 103 i0 _ 3 24 Tryz.underlying51 hi hz0 hz1 hz2 rfl (by omega) u5 L.length (cellsL L) (by rfl) ((World.ownsRow.alloc hown _).drew)
                  ⟨w1.heap.size, 0, none⟩ 1 1 [.int .i64 yp, .int .u64 yt, .int .i64 yd] (by rfl) (by rfl) (World.news_of_block (cs := #[.int .i64 yp, .int .u64 yt, .int .i64 yd]) (t := 103) (fr := (0, 0)) (heap_alloc_new w1 _)) (by simp [Value.oneCell'])
                  (by omega) (by unfold maxLen; omega) (by omega) (by simp; omega) (w1.heap.size + 1) (by simp) ?_; intro gg cap1 w2 hown1 hgrow hat hlt))
            have hb2 : Below w.heap.size w w2 := ((HB1.out.alloc hbase _).drew).grown hgrow (by simp; omega) (fun k e => (hown.lt k e).1)
            have HO2 := Lib.hid hown1
            have HB2 := Lib.hid hb2
            clear hown hown1 hgrow hat hlt hb2 c0 c1 c2 ag
            go_wp2
            go_roundg (gk - 1)
            case measure => have := HK.out; simp at this; omega
            case rel =>
              refine ⟨_, _, L ++ [⟨yp, yt, yd⟩], by have := HK.out; simp at this ⊢; omega, HX.out, HV'.out, HNEW.out, ?_, HB2.out⟩
              unfold Own
              rw [List.length_append, cellsL_snoc]
              exact HO2.out
end Go.Proofs.YtdllgeanmlmmfaaGreatDoor.Batch
