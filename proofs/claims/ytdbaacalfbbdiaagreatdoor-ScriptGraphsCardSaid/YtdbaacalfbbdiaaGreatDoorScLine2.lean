/-
  PACKAGE script: Line. (gen/scline2.py)
-/
import Derived.Test.YtdbaacalfbbdiaaGreatDoorScLine
namespace Go.Proofs.YtdbaacalfbbdiaaGreatDoor.Sc
open Go.RowKit
set_option linter.unusedVariables false
set_option linter.unusedSimpArgs false
theorem wdL_ne {k : Int} (h : 0 ≤ k ∧ k ≤ 7) : wdL k ≠ [] := by
  obtain rfl | rfl | rfl | rfl | rfl | rfl | rfl | rfl : k = 0 ∨ k = 1 ∨ k = 2 ∨ k = 3 ∨ k = 4 ∨ k = 5 ∨ k = 6 ∨ k = 7 := by omega
  all_goals decide
theorem line_hand (c : Cm) (h : c.k = 0 ∨ c.k = 2) : joinV [32] [wdL c.k, placeV c.h] = lineL c := by
  have hw := wdL_ne (k := c.k) (by omega)
  have e : argL c = placeV c.h := by unfold argL; rw [if_pos h]; rfl
  unfold lineL
  rw [join2, if_neg (show ¬ (c.k = 4 ∨ c.k = 7) by omega), e]
  by_cases hp : placeV c.h = []
  · rw [if_pos (.inr hp), if_pos hp]
  · rw [if_neg (by rintro (e | e); exact hw e; exact hp e), if_neg hp]; simp
theorem line_time (c : Cm) (h : c.k = 1) : joinV [32] [wdL c.k, placeV c.h, timeL c.t] = lineL c := by
  have hw := wdL_ne (k := c.k) (by omega)
  have e : argL c = if FitN c.h then Lib.itoa c.h ++ 32 :: timeL c.t else [] := by unfold argL; rw [if_neg (by omega), if_pos h]
  unfold lineL
  rw [join3, if_neg (show ¬ (c.k = 4 ∨ c.k = 7) by omega), e]
  by_cases hp : FitN c.h
  · rw [if_neg (by rw [placeV_nil]; rintro (e | e | e); exact hw e; exact e hp; exact timeL_ne _ e), if_pos hp, if_neg (by simp)]
    unfold placeV; rw [if_pos hp]; simp
  · rw [if_pos (.inr (.inl ((placeV_nil _).2 hp))), if_neg hp, if_pos rfl]
theorem line_chs (c : Cm) (h : c.k = 3) : joinV [32] [wdL c.k, chsP c.l] = lineL c := by
  have hw := wdL_ne (k := c.k) (by omega)
  have e : argL c = chsP c.l := by unfold argL; rw [if_neg (by omega), if_neg (by omega), if_pos h, chsP_eq]
  unfold lineL
  rw [join2, if_neg (show ¬ (c.k = 4 ∨ c.k = 7) by omega), e]
  by_cases hp : chsP c.l = []
  · rw [if_pos (.inr hp), if_pos hp]
  · rw [if_neg (by rintro (e | e); exact hw e; exact hp e), if_neg hp]; simp
theorem line_port (c : Cm) (h : c.k = 5 ∨ c.k = 6) : joinV [32] [wdL c.k, placeV c.p, timeL c.t] = lineL c := by
  have hw := wdL_ne (k := c.k) (by omega)
  have e : argL c = if FitN c.p then Lib.itoa c.p ++ 32 :: timeL c.t else [] := by unfold argL; rw [if_neg (by omega), if_neg (by omega), if_neg (by omega), if_pos h]
  unfold lineL
  rw [join3, if_neg (show ¬ (c.k = 4 ∨ c.k = 7) by omega), e]
  by_cases hp : FitN c.p
  · rw [if_neg (by rw [placeV_nil]; rintro (e | e | e); exact hw e; exact e hp; exact timeL_ne _ e), if_pos hp, if_neg (by simp)]
    unfold placeV; rw [if_pos hp]; simp
  · rw [if_pos (.inr (.inl ((placeV_nil _).2 hp))), if_neg hp, if_pos rfl]
theorem line_word (c : Cm) (h : ¬ (c.k = 0 ∨ c.k = 2) ∧ c.k ≠ 1 ∧ c.k ≠ 3 ∧ ¬ (c.k = 5 ∨ c.k = 6)) : wdL c.k = lineL c := by
  unfold lineL
  by_cases h4 : c.k = 4 ∨ c.k = 7
  · rw [if_pos h4]
  · have e : argL c = [] := by unfold argL; rw [if_neg h.1, if_neg h.2.1, if_neg h.2.2.1, if_neg h.2.2.2]
    rw [if_neg h4, if_pos e]
    exact if_pos (by omega)
theorem cells5 {w : World} {b : Nat} {T : TypeId} {v0 v1 v2 v3 v4 : Value} (h : w.heap[b]? = some (.cells #[v0, v1, v2, v3, v4] T (0, 0))) : w.cell? ⟨b, 0, none⟩ = some v0 ∧ w.cell? ⟨b, 1, none⟩ = some v1 ∧ w.cell? ⟨b, 2, none⟩ = some v2 ∧ w.cell? ⟨b, 3, none⟩ = some v3 ∧ w.cell? ⟨b, 4, none⟩ = some v4 := by
  simp [World.cell?, h]
set_option maxRecDepth 1000000 in
set_option maxHeartbeats 8000000 in
theorem scLine_hand {w : World} {l : List Batch.Ch} {ao : Option Addr} {cap : Nat} {k h p t : Int} (hv : Batch.Rd w (.slice ao l.length cap) l) (hl : l.length ≤ 100000) (ht : Stamp.U t) (hL : SV w) (hk : k = 0 ∨ k = 2) :
    Calls Tryz.prog 8 #[.agg #[.int .i64 k, .int .i64 h, .int .i64 p, .int .u64 t, .slice ao l.length cap]] w fun e w' => e = .returned (.string (bs (lineL ⟨k, h, p, t, l⟩))) ∧ Below w.heap.size w w' := by
  have HR := Lib.hid (line_hand ⟨k, h, p, t, l⟩ hk).symm
  dsimp only at HR
  have HL := Lib.hid hL
  have HK := Lib.hid hk
  have HVV := Lib.hid hv
  clear hL hk hv
  obtain ⟨w1, hw1⟩ : ∃ w1, w1 = w.alloc (.cells #[.int .i64 k, .int .i64 h, .int .i64 p, .int .u64 t, .slice ao l.length cap] 29) := ⟨_, rfl⟩
  have hx1 : w1.heap[w.heap.size]? = some (.cells #[.int .i64 k, .int .i64 h, .int .i64 p, .int .u64 t, .slice ao l.length cap] 29 (0, 0)) := by rw [hw1]; exact heap_alloc_new w _
  have hb1 : Below w.heap.size w w1 := by rw [hw1]; exact (Below.refl _ _).alloc (Nat.le_refl _) _
  obtain ⟨s, hs⟩ : ∃ s, s = w.heap.size := ⟨_, rfl⟩
  rw [← hs] at hx1
  have HS := Lib.hid (Array.getElem?_eq_some_iff.1 hx1).1
  obtain ⟨a0, a1, a2, a3, a4⟩ := cells5 hx1
  have HB1 := Lib.hid hb1
  have HX1 := Lib.hid hx1
  clear hb1 hx1
  go_enter Tryz.func8, Tryz.ntmps8
  go_upto_region 1 with fail
  rw [← hw1, ← hs]
  clear hw1 hs
  go_wp2_with fail
  go_at_call 29
  refine (wordOf_any _ (HL.out.below HB1.out)).mono ?_
  rintro e w2 ⟨rfl, hb2⟩
  have HB12 := Lib.hid hb2
  have HB2 := Lib.hid (HB1.out.trans (hb2.mono HB1.out.size))
  have c0 := Kc hb2 HS.out a0
  have c1 := Kc hb2 HS.out a1
  have c2 := Kc hb2 HS.out a2
  have c3 := Kc hb2 HS.out a3
  have c4 := Kc hb2 HS.out a4
  clear hb2 a0 a1 a2 a3 a4
  have HW := Lib.hid (wdL_len k)
  generalize wdL k = wd at *
  have HJ := Lib.hid (fun w' (hb : Below w2.heap.size w2 w') => join_any (w := w'.alloc (.cells #[.string (bs wd), .string (bs (placeV h))] 9)) [32] (rd_two w' wd (placeV h)) (by simp) (by
    have := join_bound (sep := [32]) (M := 21) [wd, placeV h] (by intro y hy; simp at hy; rcases hy with rfl | rfl; exact Nat.le_trans HW.out (by decide); exact placeV_len _) (by simp)
    simp at this; omega))
  rcases HK.out with rfl | rfl
  · go_wp2_with fail
    go_at_call 31
    refine (scPlace_any h (HL.out.below HB2.out)).mono ?_
    rintro e w3 ⟨rfl, hb3⟩
    have HB3 := Lib.hid hb3
    clear hb3
    go_wp2_with fail
    go_at_call 30
    refine (HJ.out _ HB3.out).mono ?_
    rintro e w4 ⟨rfl, hb4⟩
    have HBz := Lib.hid ((HB3.out.alloc HB3.out.size (.cells #[.string (bs wd), .string (bs (placeV h))] 9)).trans (hb4.mono (by have := HB3.out.size; simp; omega)))
    clear hb4
    go_wp2_with fail
    go_ret
    exact ⟨by rw [HR.out]; rfl, HB2.out.trans (HBz.out.mono HB2.out.size)⟩
  · go_wp2_with fail
    go_at_call 31
    refine (scPlace_any h (HL.out.below HB2.out)).mono ?_
    rintro e w3 ⟨rfl, hb3⟩
    have HB3 := Lib.hid hb3
    clear hb3
    go_wp2_with fail
    go_at_call 30
    refine (HJ.out _ HB3.out).mono ?_
    rintro e w4 ⟨rfl, hb4⟩
    have HBz := Lib.hid ((HB3.out.alloc HB3.out.size (.cells #[.string (bs wd), .string (bs (placeV h))] 9)).trans (hb4.mono (by have := HB3.out.size; simp; omega)))
    clear hb4
    go_wp2_with fail
    go_ret
    exact ⟨by rw [HR.out]; rfl, HB2.out.trans (HBz.out.mono HB2.out.size)⟩
set_option maxRecDepth 1000000 in
set_option maxHeartbeats 8000000 in
theorem scLine_time {w : World} {l : List Batch.Ch} {ao : Option Addr} {cap : Nat} {k h p t : Int} (hv : Batch.Rd w (.slice ao l.length cap) l) (hl : l.length ≤ 100000) (ht : Stamp.U t) (hL : SV w) (hk : k = 1) :
    Calls Tryz.prog 8 #[.agg #[.int .i64 k, .int .i64 h, .int .i64 p, .int .u64 t, .slice ao l.length cap]] w fun e w' => e = .returned (.string (bs (lineL ⟨k, h, p, t, l⟩))) ∧ Below w.heap.size w w' := by
  have HR := Lib.hid (line_time ⟨k, h, p, t, l⟩ hk).symm
  have HU := Lib.hid ht
  dsimp only at HR
  have HL := Lib.hid hL
  have HK := Lib.hid hk
  have HVV := Lib.hid hv
  clear hL hk hv
  obtain ⟨w1, hw1⟩ : ∃ w1, w1 = w.alloc (.cells #[.int .i64 k, .int .i64 h, .int .i64 p, .int .u64 t, .slice ao l.length cap] 29) := ⟨_, rfl⟩
  have hx1 : w1.heap[w.heap.size]? = some (.cells #[.int .i64 k, .int .i64 h, .int .i64 p, .int .u64 t, .slice ao l.length cap] 29 (0, 0)) := by rw [hw1]; exact heap_alloc_new w _
  have hb1 : Below w.heap.size w w1 := by rw [hw1]; exact (Below.refl _ _).alloc (Nat.le_refl _) _
  obtain ⟨s, hs⟩ : ∃ s, s = w.heap.size := ⟨_, rfl⟩
  rw [← hs] at hx1
  have HS := Lib.hid (Array.getElem?_eq_some_iff.1 hx1).1
  obtain ⟨a0, a1, a2, a3, a4⟩ := cells5 hx1
  have HB1 := Lib.hid hb1
  have HX1 := Lib.hid hx1
  clear hb1 hx1
  go_enter Tryz.func8, Tryz.ntmps8
  go_upto_region 1 with fail
  rw [← hw1, ← hs]
  clear hw1 hs
  go_wp2_with fail
  go_at_call 29
  refine (wordOf_any _ (HL.out.below HB1.out)).mono ?_
  rintro e w2 ⟨rfl, hb2⟩
  have HB12 := Lib.hid hb2
  have HB2 := Lib.hid (HB1.out.trans (hb2.mono HB1.out.size))
  have c0 := Kc hb2 HS.out a0
  have c1 := Kc hb2 HS.out a1
  have c2 := Kc hb2 HS.out a2
  have c3 := Kc hb2 HS.out a3
  have c4 := Kc hb2 HS.out a4
  clear hb2 a0 a1 a2 a3 a4
  have HW := Lib.hid (wdL_len k)
  generalize wdL k = wd at *
  obtain rfl := HK.out
  go_upto_region 7 with fail
  have HS2 := Lib.hid (Nat.lt_of_lt_of_le HS.out HB12.out.size)
  refine wp_region_held_drew (S := fun w' => w'.cell? ⟨s, 1, none⟩ = some (.int .i64 h) ∧ w'.cell? ⟨s, 3, none⟩ = some (.int .u64 t)) (by kernel_rfl) ?_ (fun hHeld => ?_)
  · ((try dsimp only); exact ⟨c1, c3⟩)
  have HB0 := Lib.hid (show Below w2.heap.size w2 w2.drew from below_drewN (Below.refl _ _) 1)
  refine Qt 0 (fun _ => ?_)
  refine Qt 1 (fun _ => ?_)
  refine Qt 2 (fun _ => ?_)
  refine Qt 4 (fun _ => ?_)
  refine Qt 5 (fun _ => ?_)
  refine Qr 3 fun K hK => ?_
  go_simp
  go_at_call 31
  refine (scPlace_any h (HL.out.below (HB2.out.trans (HB0.out.mono HB2.out.size)))).mono ?_
  rintro e w7 ⟨rfl, hb⟩
  have HBw7 := Lib.hid (HB0.out.trans (hb.mono HB0.out.size))
  try go_wp2_with fail
  refine hK.out _ _ ?_ (fun hHeld => ?_)
  · ((try dsimp only); exact ⟨Kc HBw7.out HS2.out c1, Kc HBw7.out HS2.out c3⟩)
  clear hK K
  try simp only [Act.put, Qa, Qb, Qc, Qd, Qe, Qf]
  refine Qr 6 fun K hK => ?_
  go_simp
  go_at_call 32
  refine (timeS_any t HU.out (HL.out.below (HB2.out.trans (HBw7.out.mono HB2.out.size)))).mono ?_
  rintro e w8 ⟨rfl, hb⟩
  have HBw8 := Lib.hid (HBw7.out.trans (hb.mono HBw7.out.size))
  try go_wp2_with fail
  refine hK.out _ _ ?_ (fun hHeld => ?_)
  · ((try dsimp only); exact ⟨Kc HBw8.out HS2.out c1, Kc HBw8.out HS2.out c3⟩)
  clear hK K
  try simp only [Act.put, Qa, Qb, Qc, Qd, Qe, Qf]
  refine Qr 7 fun K hK => ?_
  go_simp
  have HBwa := Lib.hid (HBw8.out.alloc HBw8.out.size (.cells #[.string (bs wd), .string (bs (placeV h)), .string (bs (timeL t))] 9))
  refine hK.out _ _ ?_ (fun hHeld => ?_)
  · ((try dsimp only); exact ⟨Kc HBwa.out HS2.out c1, Kc HBwa.out HS2.out c3⟩)
  clear hK K
  try simp only [Act.put, Qa, Qb, Qc, Qd, Qe, Qf]
  refine Qr 8 fun K hK => ?_
  go_simp
  go_at_call 30
  refine (join_any [32] (rd_three w8 wd (placeV h) (timeL t)) (by simp) (by have := join_bound (sep := [32]) (M := 21) [wd, placeV h, timeL t] (by intro y hy; simp at hy; rcases hy with rfl | rfl | rfl; exact Nat.le_trans HW.out (by decide); exact placeV_len _; (have h := timeL_len HU.out; exact Nat.le_trans h (by decide))) (by simp); simp at this; omega)).mono ?_
  rintro e wb ⟨rfl, hb⟩
  have HBwb := Lib.hid (HBwa.out.trans (hb.mono HBwa.out.size))
  try go_wp2_with fail
  refine hK.out _ _ ?_ (fun hHeld => ?_)
  · ((try dsimp only); exact ⟨Kc HBwb.out HS2.out c1, Kc HBwb.out HS2.out c3⟩)
  clear hK K
  try simp only [Act.put, Qa, Qb, Qc, Qd, Qe, Qf]
  refine Qt 9 (fun _ => ?_)
  refine wpAnyH_done (by kernel_rfl) ?_ _
  have HBz := Lib.hid HBwb.out
  clear c0 c1 c2 c3 c4
  go_wp2_with fail
  go_ret
  exact ⟨by rw [HR.out]; rfl, HB2.out.trans (HBz.out.mono HB2.out.size)⟩
set_option maxRecDepth 1000000 in
set_option maxHeartbeats 8000000 in
theorem scLine_port {w : World} {l : List Batch.Ch} {ao : Option Addr} {cap : Nat} {k h p t : Int} (hv : Batch.Rd w (.slice ao l.length cap) l) (hl : l.length ≤ 100000) (ht : Stamp.U t) (hL : SV w) (hk : k = 5 ∨ k = 6) :
    Calls Tryz.prog 8 #[.agg #[.int .i64 k, .int .i64 h, .int .i64 p, .int .u64 t, .slice ao l.length cap]] w fun e w' => e = .returned (.string (bs (lineL ⟨k, h, p, t, l⟩))) ∧ Below w.heap.size w w' := by
  have HR := Lib.hid (line_port ⟨k, h, p, t, l⟩ hk).symm
  have HU := Lib.hid ht
  dsimp only at HR
  have HL := Lib.hid hL
  have HK := Lib.hid hk
  have HVV := Lib.hid hv
  clear hL hk hv
  obtain ⟨w1, hw1⟩ : ∃ w1, w1 = w.alloc (.cells #[.int .i64 k, .int .i64 h, .int .i64 p, .int .u64 t, .slice ao l.length cap] 29) := ⟨_, rfl⟩
  have hx1 : w1.heap[w.heap.size]? = some (.cells #[.int .i64 k, .int .i64 h, .int .i64 p, .int .u64 t, .slice ao l.length cap] 29 (0, 0)) := by rw [hw1]; exact heap_alloc_new w _
  have hb1 : Below w.heap.size w w1 := by rw [hw1]; exact (Below.refl _ _).alloc (Nat.le_refl _) _
  obtain ⟨s, hs⟩ : ∃ s, s = w.heap.size := ⟨_, rfl⟩
  rw [← hs] at hx1
  have HS := Lib.hid (Array.getElem?_eq_some_iff.1 hx1).1
  obtain ⟨a0, a1, a2, a3, a4⟩ := cells5 hx1
  have HB1 := Lib.hid hb1
  have HX1 := Lib.hid hx1
  clear hb1 hx1
  go_enter Tryz.func8, Tryz.ntmps8
  go_upto_region 1 with fail
  rw [← hw1, ← hs]
  clear hw1 hs
  go_wp2_with fail
  go_at_call 29
  refine (wordOf_any _ (HL.out.below HB1.out)).mono ?_
  rintro e w2 ⟨rfl, hb2⟩
  have HB12 := Lib.hid hb2
  have HB2 := Lib.hid (HB1.out.trans (hb2.mono HB1.out.size))
  have c0 := Kc hb2 HS.out a0
  have c1 := Kc hb2 HS.out a1
  have c2 := Kc hb2 HS.out a2
  have c3 := Kc hb2 HS.out a3
  have c4 := Kc hb2 HS.out a4
  clear hb2 a0 a1 a2 a3 a4
  have HW := Lib.hid (wdL_len k)
  generalize wdL k = wd at *
  rcases HK.out with rfl | rfl
  · go_upto_region 12 with fail
    have HS2 := Lib.hid (Nat.lt_of_lt_of_le HS.out HB12.out.size)
    refine wp_region_held_drew (S := fun w' => w'.cell? ⟨s, 2, none⟩ = some (.int .i64 p) ∧ w'.cell? ⟨s, 3, none⟩ = some (.int .u64 t)) (by kernel_rfl) ?_ (fun hHeld => ?_)
    · ((try dsimp only); exact ⟨c2, c3⟩)
    have HB0 := Lib.hid (show Below w2.heap.size w2 w2.drew from below_drewN (Below.refl _ _) 1)
    refine Qt 0 (fun _ => ?_)
    refine Qt 1 (fun _ => ?_)
    refine Qt 2 (fun _ => ?_)
    refine Qt 4 (fun _ => ?_)
    refine Qt 5 (fun _ => ?_)
    refine Qr 3 fun K hK => ?_
    go_simp
    go_at_call 31
    refine (scPlace_any p (HL.out.below (HB2.out.trans (HB0.out.mono HB2.out.size)))).mono ?_
    rintro e w7 ⟨rfl, hb⟩
    have HBw7 := Lib.hid (HB0.out.trans (hb.mono HB0.out.size))
    try go_wp2_with fail
    refine hK.out _ _ ?_ (fun hHeld => ?_)
    · ((try dsimp only); exact ⟨Kc HBw7.out HS2.out c2, Kc HBw7.out HS2.out c3⟩)
    clear hK K
    try simp only [Act.put, Qa, Qb, Qc, Qd, Qe, Qf]
    refine Qr 6 fun K hK => ?_
    go_simp
    go_at_call 32
    refine (timeS_any t HU.out (HL.out.below (HB2.out.trans (HBw7.out.mono HB2.out.size)))).mono ?_
    rintro e w8 ⟨rfl, hb⟩
    have HBw8 := Lib.hid (HBw7.out.trans (hb.mono HBw7.out.size))
    try go_wp2_with fail
    refine hK.out _ _ ?_ (fun hHeld => ?_)
    · ((try dsimp only); exact ⟨Kc HBw8.out HS2.out c2, Kc HBw8.out HS2.out c3⟩)
    clear hK K
    try simp only [Act.put, Qa, Qb, Qc, Qd, Qe, Qf]
    refine Qr 7 fun K hK => ?_
    go_simp
    have HBwa := Lib.hid (HBw8.out.alloc HBw8.out.size (.cells #[.string (bs wd), .string (bs (placeV p)), .string (bs (timeL t))] 9))
    refine hK.out _ _ ?_ (fun hHeld => ?_)
    · ((try dsimp only); exact ⟨Kc HBwa.out HS2.out c2, Kc HBwa.out HS2.out c3⟩)
    clear hK K
    try simp only [Act.put, Qa, Qb, Qc, Qd, Qe, Qf]
    refine Qr 8 fun K hK => ?_
    go_simp
    go_at_call 30
    refine (join_any [32] (rd_three w8 wd (placeV p) (timeL t)) (by simp) (by have := join_bound (sep := [32]) (M := 21) [wd, placeV p, timeL t] (by intro y hy; simp at hy; rcases hy with rfl | rfl | rfl; exact Nat.le_trans HW.out (by decide); exact placeV_len _; (have h := timeL_len HU.out; exact Nat.le_trans h (by decide))) (by simp); simp at this; omega)).mono ?_
    rintro e wb ⟨rfl, hb⟩
    have HBwb := Lib.hid (HBwa.out.trans (hb.mono HBwa.out.size))
    try go_wp2_with fail
    refine hK.out _ _ ?_ (fun hHeld => ?_)
    · ((try dsimp only); exact ⟨Kc HBwb.out HS2.out c2, Kc HBwb.out HS2.out c3⟩)
    clear hK K
    try simp only [Act.put, Qa, Qb, Qc, Qd, Qe, Qf]
    refine Qt 9 (fun _ => ?_)
    refine wpAnyH_done (by kernel_rfl) ?_ _
    have HBz := Lib.hid HBwb.out
    clear c0 c1 c2 c3 c4
    go_wp2_with fail
    go_ret
    exact ⟨by rw [HR.out]; rfl, HB2.out.trans (HBz.out.mono HB2.out.size)⟩
  · go_upto_region 12 with fail
    have HS2 := Lib.hid (Nat.lt_of_lt_of_le HS.out HB12.out.size)
    refine wp_region_held_drew (S := fun w' => w'.cell? ⟨s, 2, none⟩ = some (.int .i64 p) ∧ w'.cell? ⟨s, 3, none⟩ = some (.int .u64 t)) (by kernel_rfl) ?_ (fun hHeld => ?_)
    · ((try dsimp only); exact ⟨c2, c3⟩)
    have HB0 := Lib.hid (show Below w2.heap.size w2 w2.drew from below_drewN (Below.refl _ _) 1)
    refine Qt 0 (fun _ => ?_)
    refine Qt 1 (fun _ => ?_)
    refine Qt 2 (fun _ => ?_)
    refine Qt 4 (fun _ => ?_)
    refine Qt 5 (fun _ => ?_)
    refine Qr 3 fun K hK => ?_
    go_simp
    go_at_call 31
    refine (scPlace_any p (HL.out.below (HB2.out.trans (HB0.out.mono HB2.out.size)))).mono ?_
    rintro e w7 ⟨rfl, hb⟩
    have HBw7 := Lib.hid (HB0.out.trans (hb.mono HB0.out.size))
    try go_wp2_with fail
    refine hK.out _ _ ?_ (fun hHeld => ?_)
    · ((try dsimp only); exact ⟨Kc HBw7.out HS2.out c2, Kc HBw7.out HS2.out c3⟩)
    clear hK K
    try simp only [Act.put, Qa, Qb, Qc, Qd, Qe, Qf]
    refine Qr 6 fun K hK => ?_
    go_simp
    go_at_call 32
    refine (timeS_any t HU.out (HL.out.below (HB2.out.trans (HBw7.out.mono HB2.out.size)))).mono ?_
    rintro e w8 ⟨rfl, hb⟩
    have HBw8 := Lib.hid (HBw7.out.trans (hb.mono HBw7.out.size))
    try go_wp2_with fail
    refine hK.out _ _ ?_ (fun hHeld => ?_)
    · ((try dsimp only); exact ⟨Kc HBw8.out HS2.out c2, Kc HBw8.out HS2.out c3⟩)
    clear hK K
    try simp only [Act.put, Qa, Qb, Qc, Qd, Qe, Qf]
    refine Qr 7 fun K hK => ?_
    go_simp
    have HBwa := Lib.hid (HBw8.out.alloc HBw8.out.size (.cells #[.string (bs wd), .string (bs (placeV p)), .string (bs (timeL t))] 9))
    refine hK.out _ _ ?_ (fun hHeld => ?_)
    · ((try dsimp only); exact ⟨Kc HBwa.out HS2.out c2, Kc HBwa.out HS2.out c3⟩)
    clear hK K
    try simp only [Act.put, Qa, Qb, Qc, Qd, Qe, Qf]
    refine Qr 8 fun K hK => ?_
    go_simp
    go_at_call 30
    refine (join_any [32] (rd_three w8 wd (placeV p) (timeL t)) (by simp) (by have := join_bound (sep := [32]) (M := 21) [wd, placeV p, timeL t] (by intro y hy; simp at hy; rcases hy with rfl | rfl | rfl; exact Nat.le_trans HW.out (by decide); exact placeV_len _; (have h := timeL_len HU.out; exact Nat.le_trans h (by decide))) (by simp); simp at this; omega)).mono ?_
    rintro e wb ⟨rfl, hb⟩
    have HBwb := Lib.hid (HBwa.out.trans (hb.mono HBwa.out.size))
    try go_wp2_with fail
    refine hK.out _ _ ?_ (fun hHeld => ?_)
    · ((try dsimp only); exact ⟨Kc HBwb.out HS2.out c2, Kc HBwb.out HS2.out c3⟩)
    clear hK K
    try simp only [Act.put, Qa, Qb, Qc, Qd, Qe, Qf]
    refine Qt 9 (fun _ => ?_)
    refine wpAnyH_done (by kernel_rfl) ?_ _
    have HBz := Lib.hid HBwb.out
    clear c0 c1 c2 c3 c4
    go_wp2_with fail
    go_ret
    exact ⟨by rw [HR.out]; rfl, HB2.out.trans (HBz.out.mono HB2.out.size)⟩
set_option maxRecDepth 1000000 in
set_option maxHeartbeats 8000000 in
theorem scLine_chs {w : World} {l : List Batch.Ch} {ao : Option Addr} {cap : Nat} {k h p t : Int} (hv : Batch.Rd w (.slice ao l.length cap) l) (hl : l.length ≤ 100000) (ht : Stamp.U t) (hL : SV w) (hk : k = 3) :
    Calls Tryz.prog 8 #[.agg #[.int .i64 k, .int .i64 h, .int .i64 p, .int .u64 t, .slice ao l.length cap]] w fun e w' => e = .returned (.string (bs (lineL ⟨k, h, p, t, l⟩))) ∧ Below w.heap.size w w' := by
  have HR := Lib.hid (line_chs ⟨k, h, p, t, l⟩ hk).symm
  have HV := Lib.hid hv
  have HU := Lib.hid (show ∀ x ∈ l, Stamp.U x.t from fun x hx => ⟨(hv.wf x hx).t0, (hv.wf x hx).t1⟩)
  dsimp only at HR
  have HL := Lib.hid hL
  have HK := Lib.hid hk
  have HVV := Lib.hid hv
  clear hL hk hv
  obtain ⟨w1, hw1⟩ : ∃ w1, w1 = w.alloc (.cells #[.int .i64 k, .int .i64 h, .int .i64 p, .int .u64 t, .slice ao l.length cap] 29) := ⟨_, rfl⟩
  have hx1 : w1.heap[w.heap.size]? = some (.cells #[.int .i64 k, .int .i64 h, .int .i64 p, .int .u64 t, .slice ao l.length cap] 29 (0, 0)) := by rw [hw1]; exact heap_alloc_new w _
  have hb1 : Below w.heap.size w w1 := by rw [hw1]; exact (Below.refl _ _).alloc (Nat.le_refl _) _
  obtain ⟨s, hs⟩ : ∃ s, s = w.heap.size := ⟨_, rfl⟩
  rw [← hs] at hx1
  have HS := Lib.hid (Array.getElem?_eq_some_iff.1 hx1).1
  obtain ⟨a0, a1, a2, a3, a4⟩ := cells5 hx1
  have HB1 := Lib.hid hb1
  have HX1 := Lib.hid hx1
  clear hb1 hx1
  go_enter Tryz.func8, Tryz.ntmps8
  go_upto_region 1 with fail
  rw [← hw1, ← hs]
  clear hw1 hs
  go_wp2_with fail
  go_at_call 29
  refine (wordOf_any _ (HL.out.below HB1.out)).mono ?_
  rintro e w2 ⟨rfl, hb2⟩
  have HB12 := Lib.hid hb2
  have HB2 := Lib.hid (HB1.out.trans (hb2.mono HB1.out.size))
  have c0 := Kc hb2 HS.out a0
  have c1 := Kc hb2 HS.out a1
  have c2 := Kc hb2 HS.out a2
  have c3 := Kc hb2 HS.out a3
  have c4 := Kc hb2 HS.out a4
  clear hb2 a0 a1 a2 a3 a4
  have HW := Lib.hid (wdL_len k)
  generalize wdL k = wd at *
  have HJ := Lib.hid (fun w' (hb : Below w2.heap.size w2 w') => join_any (w := w'.alloc (.cells #[.string (bs wd), .string (bs (chsP l))] 9)) [32] (rd_two w' wd (chsP l)) (by simp) (by
    have := join_bound (sep := [32]) (M := 1072) [wd, chsP l] (by intro y hy; simp at hy; rcases hy with rfl | rfl; exact Nat.le_trans HW.out (by decide); exact chsP_len HU.out) (by simp)
    simp at this; omega))
  obtain rfl := HK.out
  go_wp2_with fail
  go_at_call 33
  refine (scChanges_any (HV.out.below HB2.out) hl (HL.out.below HB2.out)).mono ?_
  rintro e w3 ⟨rfl, hb3⟩
  have HB3 := Lib.hid hb3
  clear hb3
  go_wp2_with fail
  go_at_call 30
  refine (HJ.out _ HB3.out).mono ?_
  rintro e w4 ⟨rfl, hb4⟩
  have HBz := Lib.hid ((HB3.out.alloc HB3.out.size (.cells #[.string (bs wd), .string (bs (chsP l))] 9)).trans (hb4.mono (by have := HB3.out.size; simp; omega)))
  clear hb4
  go_wp2_with fail
  go_ret
  exact ⟨by rw [HR.out]; rfl, HB2.out.trans (HBz.out.mono HB2.out.size)⟩
set_option maxRecDepth 1000000 in
set_option maxHeartbeats 8000000 in
theorem scLine_word {w : World} {l : List Batch.Ch} {ao : Option Addr} {cap : Nat} {k h p t : Int} (hv : Batch.Rd w (.slice ao l.length cap) l) (hl : l.length ≤ 100000) (ht : Stamp.U t) (hL : SV w) (hk : ¬ (k = 0 ∨ k = 2) ∧ k ≠ 1 ∧ k ≠ 3 ∧ ¬ (k = 5 ∨ k = 6)) :
    Calls Tryz.prog 8 #[.agg #[.int .i64 k, .int .i64 h, .int .i64 p, .int .u64 t, .slice ao l.length cap]] w fun e w' => e = .returned (.string (bs (lineL ⟨k, h, p, t, l⟩))) ∧ Below w.heap.size w w' := by
  have HR := Lib.hid (line_word ⟨k, h, p, t, l⟩ hk).symm
  dsimp only at HR
  have HL := Lib.hid hL
  have HK := Lib.hid hk
  have HVV := Lib.hid hv
  clear hL hk hv
  obtain ⟨w1, hw1⟩ : ∃ w1, w1 = w.alloc (.cells #[.int .i64 k, .int .i64 h, .int .i64 p, .int .u64 t, .slice ao l.length cap] 29) := ⟨_, rfl⟩
  have hx1 : w1.heap[w.heap.size]? = some (.cells #[.int .i64 k, .int .i64 h, .int .i64 p, .int .u64 t, .slice ao l.length cap] 29 (0, 0)) := by rw [hw1]; exact heap_alloc_new w _
  have hb1 : Below w.heap.size w w1 := by rw [hw1]; exact (Below.refl _ _).alloc (Nat.le_refl _) _
  obtain ⟨s, hs⟩ : ∃ s, s = w.heap.size := ⟨_, rfl⟩
  rw [← hs] at hx1
  have HS := Lib.hid (Array.getElem?_eq_some_iff.1 hx1).1
  obtain ⟨a0, a1, a2, a3, a4⟩ := cells5 hx1
  have HB1 := Lib.hid hb1
  have HX1 := Lib.hid hx1
  clear hb1 hx1
  go_enter Tryz.func8, Tryz.ntmps8
  go_upto_region 1 with fail
  rw [← hw1, ← hs]
  clear hw1 hs
  go_wp2_with fail
  go_at_call 29
  refine (wordOf_any _ (HL.out.below HB1.out)).mono ?_
  rintro e w2 ⟨rfl, hb2⟩
  have HB12 := Lib.hid hb2
  have HB2 := Lib.hid (HB1.out.trans (hb2.mono HB1.out.size))
  have c0 := Kc hb2 HS.out a0
  have c1 := Kc hb2 HS.out a1
  have c2 := Kc hb2 HS.out a2
  have c3 := Kc hb2 HS.out a3
  have c4 := Kc hb2 HS.out a4
  clear hb2 a0 a1 a2 a3 a4
  generalize wdL k = wd at *
  have hk := HK.out
  have k0 : (k == 0) = false := by rw [beq_eq_false_iff_ne]; omega
  have k1 : (k == 1) = false := by rw [beq_eq_false_iff_ne]; omega
  have k2 : (k == 2) = false := by rw [beq_eq_false_iff_ne]; omega
  have k3 : (k == 3) = false := by rw [beq_eq_false_iff_ne]; omega
  have k5 : (k == 5) = false := by rw [beq_eq_false_iff_ne]; omega
  have k6 : (k == 6) = false := by rw [beq_eq_false_iff_ne]; omega
  clear hk
  go_wp2_with fail
  go_ret
  exact ⟨by rw [HR.out]; rfl, HB2.out⟩
theorem scLine_any {w : World} {v : Value} {l : List Batch.Ch} {k h p t : Int} (hv : Batch.Rd w v l) (hl : l.length ≤ 100000) (ht : Stamp.U t) (hL : SV w) :
    Calls Tryz.prog 8 #[.agg #[.int .i64 k, .int .i64 h, .int .i64 p, .int .u64 t, v]] w fun e w' => e = .returned (.string (bs (lineL ⟨k, h, p, t, l⟩))) ∧ Below w.heap.size w w' := by
  obtain ⟨ao, cap, rfl, _⟩ := id hv
  by_cases h0 : k = 0 ∨ k = 2
  · exact scLine_hand hv hl ht hL h0
  by_cases h1 : k = 1
  · exact scLine_time hv hl ht hL h1
  by_cases h3 : k = 3
  · exact scLine_chs hv hl ht hL h3
  by_cases h5 : k = 5 ∨ k = 6
  · exact scLine_port hv hl ht hL h5
  exact scLine_word hv hl ht hL ⟨h0, h1, h3, h5⟩
end Go.Proofs.YtdbaacalfbbdiaaGreatDoor.Sc
