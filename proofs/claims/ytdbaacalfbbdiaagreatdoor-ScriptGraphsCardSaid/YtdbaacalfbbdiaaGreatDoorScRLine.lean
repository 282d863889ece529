/-
  marchlandref18: Line. (gen/scrline.py)
-/
import Derived.Test.YtdbaacalfbbdiaaGreatDoorScChg
namespace Go.Proofs.YtdbaacalfbbdiaaGreatDoor.Sc
open Go.RowKit
set_option linter.unusedVariables false
set_option linter.unusedSimpArgs false
theorem numB_any (n : Int) (h0 : -9223372036854775808 ≤ n) (h1 : n ≤ 9223372036854775807) (w : World) :
    Calls Tryz.prog 38 #[.int .i64 n] w fun e w' => e = .returned (.string (bs (Lib.itoa n))) ∧ Below w.heap.size w w' :=
  (numR_any n h0 h1 w).mono fun e w' ⟨h, m, hw⟩ => ⟨h, hw ▸ below_drewN (Below.refl _ _) m⟩
theorem timeB_any (t : Int) (ht : Stamp.U t) (w : World) :
    Calls Tryz.prog 39 #[.int .u64 t] w fun e w' => e = .returned (.string (bs (timeL t))) ∧ Below w.heap.size w w' :=
  (timeR_any t ht w).mono fun e w' ⟨h, m, hw⟩ => ⟨h, hw ▸ below_drewN (Below.refl _ _) m⟩
theorem lineH (c : Cm) (h : c.k = 0 ∨ c.k = 2) : (FitN c.h → lineL c = wdL c.k ++ 32 :: Lib.itoa c.h) ∧ (¬ FitN c.h → lineL c = []) := by
  have e : argL c = if FitN c.h then Lib.itoa c.h else [] := by unfold argL; rw [if_pos h]
  unfold lineL
  rw [if_neg (show ¬ (c.k = 4 ∨ c.k = 7) by omega), e]
  exact ⟨fun hf => by rw [if_pos hf, if_neg (itoa_ne _)], fun hf => by rw [if_neg hf, if_pos rfl]⟩
theorem lineT (c : Cm) (h : c.k = 1) : (FitN c.h → lineL c = wdL c.k ++ 32 :: (Lib.itoa c.h ++ 32 :: timeL c.t)) ∧ (¬ FitN c.h → lineL c = []) := by
  have e : argL c = if FitN c.h then Lib.itoa c.h ++ 32 :: timeL c.t else [] := by unfold argL; rw [if_neg (by omega), if_pos h]
  unfold lineL
  rw [if_neg (show ¬ (c.k = 4 ∨ c.k = 7) by omega), e]
  exact ⟨fun hf => by rw [if_pos hf, if_neg (by simp)], fun hf => by rw [if_neg hf, if_pos rfl]⟩
theorem lineC (c : Cm) (h : c.k = 3) : (chsL c.l ≠ [] → lineL c = wdL c.k ++ 32 :: chsL c.l) ∧ (chsL c.l = [] → lineL c = []) := by
  have e : argL c = chsL c.l := by unfold argL; rw [if_neg (by omega), if_neg (by omega), if_pos h]
  unfold lineL
  rw [if_neg (show ¬ (c.k = 4 ∨ c.k = 7) by omega), e]
  exact ⟨fun hf => by rw [if_neg hf], fun hf => by rw [if_pos hf]⟩
theorem lineP (c : Cm) (h : c.k = 5 ∨ c.k = 6) : (FitN c.p → lineL c = wdL c.k ++ 32 :: (Lib.itoa c.p ++ 32 :: timeL c.t)) ∧ (¬ FitN c.p → lineL c = []) := by
  have e : argL c = if FitN c.p then Lib.itoa c.p ++ 32 :: timeL c.t else [] := by unfold argL; rw [if_neg (by omega), if_neg (by omega), if_neg (by omega), if_pos h]
  unfold lineL
  rw [if_neg (show ¬ (c.k = 4 ∨ c.k = 7) by omega), e]
  exact ⟨fun hf => by rw [if_pos hf, if_neg (by simp)], fun hf => by rw [if_neg hf, if_pos rfl]⟩
theorem lineW (c : Cm) (h : c.k = 4 ∨ c.k = 7) : lineL c = wdL c.k := if_pos h
set_option maxRecDepth 1000000 in
set_option maxHeartbeats 8000000 in
theorem rLine_0 {w : World} {l : List Batch.Ch} {ao : Option Addr} {cap : Nat} {h p t : Int} (hv : Batch.Rd w (.slice ao l.length cap) l) (hl : l.length ≤ 100000) (ht : Stamp.U t) :
    Calls Tryz.prog 12 #[.agg #[.int .i64 0, .int .i64 h, .int .i64 p, .int .u64 t, .slice ao l.length cap]] w fun e w' => e = .returned (.string (bs (lineL ⟨0, h, p, t, l⟩))) ∧ Below w.heap.size w w' := by
  have HV := Lib.hid hv
  have HU := Lib.hid ht
  have HNT := Lib.hid (fun W => timeB_any t ht W)
  clear hv ht
  obtain ⟨w1, hw1⟩ : ∃ w1, w1 = w.alloc (.cells #[.int .i64 0, .int .i64 h, .int .i64 p, .int .u64 t, .slice ao l.length cap] 25) := ⟨_, rfl⟩
  have hx1 : w1.heap[w.heap.size]? = some (.cells #[.int .i64 0, .int .i64 h, .int .i64 p, .int .u64 t, .slice ao l.length cap] 25 (0, 0)) := by rw [hw1]; exact heap_alloc_new w _
  have hb1 : Below w.heap.size w w1 := by rw [hw1]; exact (Below.refl _ _).alloc (Nat.le_refl _) _
  obtain ⟨s, hs⟩ : ∃ s, s = w.heap.size := ⟨_, rfl⟩
  rw [← hs] at hx1
  have HS := Lib.hid (Array.getElem?_eq_some_iff.1 hx1).1
  have HB1 := Lib.hid hb1
  have HX1 := Lib.hid hx1
  clear hb1 hx1
  go_enter Tryz.func12, Tryz.ntmps12
  go_upto_region 1 with fail
  rw [← hw1, ← hs]
  clear hw1 hs
  go_upto_region 2 with fail
  obtain ⟨w2, hw2⟩ : ∃ w2, w2 = w1.alloc (.cells #[.string ({ data := #[111, 112, 101, 110] }), .string ({ data := #[97, 100, 118, 97, 110, 99, 101] }), .string ({ data := #[99, 108, 111, 115, 101] }), .string ({ data := #[117, 112, 100, 97, 116, 101] }), .string ({ data := #[102, 114, 111, 110, 116, 115] }), .string ({ data := #[100, 111, 110, 101] }), .string ({ data := #[119, 97, 105, 116] }), .string ({ data := #[115, 104, 117, 116] })] 9) := ⟨_, rfl⟩
  have hx2 : w2.heap[w1.heap.size]? = some (.cells #[.string ({ data := #[111, 112, 101, 110] }), .string ({ data := #[97, 100, 118, 97, 110, 99, 101] }), .string ({ data := #[99, 108, 111, 115, 101] }), .string ({ data := #[117, 112, 100, 97, 116, 101] }), .string ({ data := #[102, 114, 111, 110, 116, 115] }), .string ({ data := #[100, 111, 110, 101] }), .string ({ data := #[119, 97, 105, 116] }), .string ({ data := #[115, 104, 117, 116] })] 9 (0, 0)) := by rw [hw2]; exact heap_alloc_new w1 _
  have hb2 : Below w1.heap.size w1 w2 := by rw [hw2]; exact (Below.refl _ _).alloc (Nat.le_refl _) _
  rw [← hw2]
  obtain ⟨g, hg⟩ : ∃ g, g = w1.heap.size := ⟨_, rfl⟩
  rw [← hg] at hx2 ⊢
  obtain ⟨a0, a1, a2, a3, a4⟩ := cells5 ((hb2.block s HS.out).trans HX1.out)
  have HB2 := Lib.hid (HB1.out.trans (hb2.mono HB1.out.size))
  have HS2 := Lib.hid (Nat.lt_of_lt_of_le HS.out hb2.size)
  have an : w2.cell? ⟨g, 0, none⟩ = some (.string ({ data := #[111, 112, 101, 110] })) := by simp [World.cell?, hx2]
  have hlit := Lib.hid (show ({ data := #[111, 112, 101, 110] } : ByteArray) = bs (wdL 0) from rfl)
  have hsz : ({ data := #[111, 112, 101, 110] } : ByteArray).size ≤ 10 := by decide
  clear hw2 hb2 hx2 hg
  by_cases hf : FitN h
  · have hf2 := hf
    unfold FitN at hf2
    have HFP := Lib.hid (decide_eq_true hf)
    have sp : (bs (Lib.itoa h)).size ≤ 21 := by rw [bs_size]; exact itoa_len (by omega) (by omega)
    have st : (bs (timeL t)).size ≤ 20 := by rw [bs_size]; exact timeL_len HU.out
    have HR := Lib.hid (show lineL ⟨0, h, p, t, l⟩ = wdL 0 ++ 32 :: Lib.itoa h from (lineH _ (by dsimp only; decide)).1 hf)
    have h32 := Lib.hid (show ({ data := #[32] } : ByteArray) = bs [32] from rfl)
    have HNH := Lib.hid (fun W => numB_any h (by omega) (by omega) W)
    clear hf hf2
    go_wp2_with fail
    go_at_call 37
    refine (fits_any h _).mono ?_
    rintro e w3 ⟨rfl, rfl⟩
    rw [HFP.out]
    go_wp2_with fail
    go_at_call 38
    refine (HNH.out _).mono ?_
    rintro e w4 ⟨rfl, hb⟩
    have HB4 := Lib.hid (HB2.out.trans (hb.mono HB2.out.size))
    replace a0 := Kc hb HS2.out a0
    replace a1 := Kc hb HS2.out a1
    replace a2 := Kc hb HS2.out a2
    replace a3 := Kc hb HS2.out a3
    replace a4 := Kc hb HS2.out a4
    have HS4 := Lib.hid (Nat.lt_of_lt_of_le HS2.out hb.size)
    clear hb an
    go_wp2_with fail
    go_ret
    refine ⟨?_, HB4.out⟩
    rw [HR.out]
    refine congrArg (fun S => Ending.returned (Value.string S)) ?_
    rw [hlit.out, h32.out, bs_app, bs_app]
    exact congrArg bs (by simp)
  · have HR := Lib.hid (show lineL ⟨0, h, p, t, l⟩ = [] from (lineH _ (by dsimp only; decide)).2 hf)
    have HFP := Lib.hid (decide_eq_false hf)
    clear hf
    go_wp2_with fail
    go_at_call 37
    refine (fits_any h _).mono ?_
    rintro e w3 ⟨rfl, rfl⟩
    rw [HFP.out]
    go_wp2_with fail
    go_ret
    exact ⟨by rw [HR.out]; rfl, HB2.out⟩
set_option maxRecDepth 1000000 in
set_option maxHeartbeats 8000000 in
theorem rLine_1 {w : World} {l : List Batch.Ch} {ao : Option Addr} {cap : Nat} {h p t : Int} (hv : Batch.Rd w (.slice ao l.length cap) l) (hl : l.length ≤ 100000) (ht : Stamp.U t) :
    Calls Tryz.prog 12 #[.agg #[.int .i64 1, .int .i64 h, .int .i64 p, .int .u64 t, .slice ao l.length cap]] w fun e w' => e = .returned (.string (bs (lineL ⟨1, h, p, t, l⟩))) ∧ Below w.heap.size w w' := by
  have HV := Lib.hid hv
  have HU := Lib.hid ht
  have HNT := Lib.hid (fun W => timeB_any t ht W)
  clear hv ht
  obtain ⟨w1, hw1⟩ : ∃ w1, w1 = w.alloc (.cells #[.int .i64 1, .int .i64 h, .int .i64 p, .int .u64 t, .slice ao l.length cap] 25) := ⟨_, rfl⟩
  have hx1 : w1.heap[w.heap.size]? = some (.cells #[.int .i64 1, .int .i64 h, .int .i64 p, .int .u64 t, .slice ao l.length cap] 25 (0, 0)) := by rw [hw1]; exact heap_alloc_new w _
  have hb1 : Below w.heap.size w w1 := by rw [hw1]; exact (Below.refl _ _).alloc (Nat.le_refl _) _
  obtain ⟨s, hs⟩ : ∃ s, s = w.heap.size := ⟨_, rfl⟩
  rw [← hs] at hx1
  have HS := Lib.hid (Array.getElem?_eq_some_iff.1 hx1).1
  have HB1 := Lib.hid hb1
  have HX1 := Lib.hid hx1
  clear hb1 hx1
  go_enter Tryz.func12, Tryz.ntmps12
  go_upto_region 1 with fail
  rw [← hw1, ← hs]
  clear hw1 hs
  go_upto_region 2 with fail
  obtain ⟨w2, hw2⟩ : ∃ w2, w2 = w1.alloc (.cells #[.string ({ data := #[111, 112, 101, 110] }), .string ({ data := #[97, 100, 118, 97, 110, 99, 101] }), .string ({ data := #[99, 108, 111, 115, 101] }), .string ({ data := #[117, 112, 100, 97, 116, 101] }), .string ({ data := #[102, 114, 111, 110, 116, 115] }), .string ({ data := #[100, 111, 110, 101] }), .string ({ data := #[119, 97, 105, 116] }), .string ({ data := #[115, 104, 117, 116] })] 9) := ⟨_, rfl⟩
  have hx2 : w2.heap[w1.heap.size]? = some (.cells #[.string ({ data := #[111, 112, 101, 110] }), .string ({ data := #[97, 100, 118, 97, 110, 99, 101] }), .string ({ data := #[99, 108, 111, 115, 101] }), .string ({ data := #[117, 112, 100, 97, 116, 101] }), .string ({ data := #[102, 114, 111, 110, 116, 115] }), .string ({ data := #[100, 111, 110, 101] }), .string ({ data := #[119, 97, 105, 116] }), .string ({ data := #[115, 104, 117, 116] })] 9 (0, 0)) := by rw [hw2]; exact heap_alloc_new w1 _
  have hb2 : Below w1.heap.size w1 w2 := by rw [hw2]; exact (Below.refl _ _).alloc (Nat.le_refl _) _
  rw [← hw2]
  obtain ⟨g, hg⟩ : ∃ g, g = w1.heap.size := ⟨_, rfl⟩
  rw [← hg] at hx2 ⊢
  obtain ⟨a0, a1, a2, a3, a4⟩ := cells5 ((hb2.block s HS.out).trans HX1.out)
  have HB2 := Lib.hid (HB1.out.trans (hb2.mono HB1.out.size))
  have HS2 := Lib.hid (Nat.lt_of_lt_of_le HS.out hb2.size)
  have an : w2.cell? ⟨g, 1, none⟩ = some (.string ({ data := #[97, 100, 118, 97, 110, 99, 101] })) := by simp [World.cell?, hx2]
  have hlit := Lib.hid (show ({ data := #[97, 100, 118, 97, 110, 99, 101] } : ByteArray) = bs (wdL 1) from rfl)
  have hsz : ({ data := #[97, 100, 118, 97, 110, 99, 101] } : ByteArray).size ≤ 10 := by decide
  clear hw2 hb2 hx2 hg
  by_cases hf : FitN h
  · have hf2 := hf
    unfold FitN at hf2
    have HFP := Lib.hid (decide_eq_true hf)
    have sp : (bs (Lib.itoa h)).size ≤ 21 := by rw [bs_size]; exact itoa_len (by omega) (by omega)
    have st : (bs (timeL t)).size ≤ 20 := by rw [bs_size]; exact timeL_len HU.out
    have HR := Lib.hid (show lineL ⟨1, h, p, t, l⟩ = wdL 1 ++ 32 :: (Lib.itoa h ++ 32 :: timeL t) from (lineT _ rfl).1 hf)
    have h32 := Lib.hid (show ({ data := #[32] } : ByteArray) = bs [32] from rfl)
    have HNH := Lib.hid (fun W => numB_any h (by omega) (by omega) W)
    clear hf hf2
    go_wp2_with fail
    go_at_call 37
    refine (fits_any h _).mono ?_
    rintro e w3 ⟨rfl, rfl⟩
    rw [HFP.out]
    go_wp2_with fail
    go_at_call 38
    refine (HNH.out _).mono ?_
    rintro e w4 ⟨rfl, hb⟩
    have HB4 := Lib.hid (HB2.out.trans (hb.mono HB2.out.size))
    replace a0 := Kc hb HS2.out a0
    replace a1 := Kc hb HS2.out a1
    replace a2 := Kc hb HS2.out a2
    replace a3 := Kc hb HS2.out a3
    replace a4 := Kc hb HS2.out a4
    have HS4 := Lib.hid (Nat.lt_of_lt_of_le HS2.out hb.size)
    clear hb an
    go_wp2_with fail
    go_at_call 39
    refine (HNT.out _).mono ?_
    rintro e w5 ⟨rfl, hb⟩
    have HB5 := Lib.hid (HB4.out.trans (hb.mono HB4.out.size))
    clear hb a0 a1 a2 a3 a4
    go_wp2_with fail
    go_ret
    refine ⟨?_, HB5.out⟩
    rw [HR.out]
    refine congrArg (fun S => Ending.returned (Value.string S)) ?_
    rw [hlit.out, h32.out, bs_app, bs_app, bs_app, bs_app]
    exact congrArg bs (by simp)
  · have HR := Lib.hid (show lineL ⟨1, h, p, t, l⟩ = [] from (lineT _ rfl).2 hf)
    have HFP := Lib.hid (decide_eq_false hf)
    clear hf
    go_wp2_with fail
    go_at_call 37
    refine (fits_any h _).mono ?_
    rintro e w3 ⟨rfl, rfl⟩
    rw [HFP.out]
    go_wp2_with fail
    go_ret
    exact ⟨by rw [HR.out]; rfl, HB2.out⟩
set_option maxRecDepth 1000000 in
set_option maxHeartbeats 8000000 in
theorem rLine_2 {w : World} {l : List Batch.Ch} {ao : Option Addr} {cap : Nat} {h p t : Int} (hv : Batch.Rd w (.slice ao l.length cap) l) (hl : l.length ≤ 100000) (ht : Stamp.U t) :
    Calls Tryz.prog 12 #[.agg #[.int .i64 2, .int .i64 h, .int .i64 p, .int .u64 t, .slice ao l.length cap]] w fun e w' => e = .returned (.string (bs (lineL ⟨2, h, p, t, l⟩))) ∧ Below w.heap.size w w' := by
  have HV := Lib.hid hv
  have HU := Lib.hid ht
  have HNT := Lib.hid (fun W => timeB_any t ht W)
  clear hv ht
  obtain ⟨w1, hw1⟩ : ∃ w1, w1 = w.alloc (.cells #[.int .i64 2, .int .i64 h, .int .i64 p, .int .u64 t, .slice ao l.length cap] 25) := ⟨_, rfl⟩
  have hx1 : w1.heap[w.heap.size]? = some (.cells #[.int .i64 2, .int .i64 h, .int .i64 p, .int .u64 t, .slice ao l.length cap] 25 (0, 0)) := by rw [hw1]; exact heap_alloc_new w _
  have hb1 : Below w.heap.size w w1 := by rw [hw1]; exact (Below.refl _ _).alloc (Nat.le_refl _) _
  obtain ⟨s, hs⟩ : ∃ s, s = w.heap.size := ⟨_, rfl⟩
  rw [← hs] at hx1
  have HS := Lib.hid (Array.getElem?_eq_some_iff.1 hx1).1
  have HB1 := Lib.hid hb1
  have HX1 := Lib.hid hx1
  clear hb1 hx1
  go_enter Tryz.func12, Tryz.ntmps12
  go_upto_region 1 with fail
  rw [← hw1, ← hs]
  clear hw1 hs
  go_upto_region 2 with fail
  obtain ⟨w2, hw2⟩ : ∃ w2, w2 = w1.alloc (.cells #[.string ({ data := #[111, 112, 101, 110] }), .string ({ data := #[97, 100, 118, 97, 110, 99, 101] }), .string ({ data := #[99, 108, 111, 115, 101] }), .string ({ data := #[117, 112, 100, 97, 116, 101] }), .string ({ data := #[102, 114, 111, 110, 116, 115] }), .string ({ data := #[100, 111, 110, 101] }), .string ({ data := #[119, 97, 105, 116] }), .string ({ data := #[115, 104, 117, 116] })] 9) := ⟨_, rfl⟩
  have hx2 : w2.heap[w1.heap.size]? = some (.cells #[.string ({ data := #[111, 112, 101, 110] }), .string ({ data := #[97, 100, 118, 97, 110, 99, 101] }), .string ({ data := #[99, 108, 111, 115, 101] }), .string ({ data := #[117, 112, 100, 97, 116, 101] }), .string ({ data := #[102, 114, 111, 110, 116, 115] }), .string ({ data := #[100, 111, 110, 101] }), .string ({ data := #[119, 97, 105, 116] }), .string ({ data := #[115, 104, 117, 116] })] 9 (0, 0)) := by rw [hw2]; exact heap_alloc_new w1 _
  have hb2 : Below w1.heap.size w1 w2 := by rw [hw2]; exact (Below.refl _ _).alloc (Nat.le_refl _) _
  rw [← hw2]
  obtain ⟨g, hg⟩ : ∃ g, g = w1.heap.size := ⟨_, rfl⟩
  rw [← hg] at hx2 ⊢
  obtain ⟨a0, a1, a2, a3, a4⟩ := cells5 ((hb2.block s HS.out).trans HX1.out)
  have HB2 := Lib.hid (HB1.out.trans (hb2.mono HB1.out.size))
  have HS2 := Lib.hid (Nat.lt_of_lt_of_le HS.out hb2.size)
  have an : w2.cell? ⟨g, 2, none⟩ = some (.string ({ data := #[99, 108, 111, 115, 101] })) := by simp [World.cell?, hx2]
  have hlit := Lib.hid (show ({ data := #[99, 108, 111, 115, 101] } : ByteArray) = bs (wdL 2) from rfl)
  have hsz : ({ data := #[99, 108, 111, 115, 101] } : ByteArray).size ≤ 10 := by decide
  clear hw2 hb2 hx2 hg
  by_cases hf : FitN h
  · have hf2 := hf
    unfold FitN at hf2
    have HFP := Lib.hid (decide_eq_true hf)
    have sp : (bs (Lib.itoa h)).size ≤ 21 := by rw [bs_size]; exact itoa_len (by omega) (by omega)
    have st : (bs (timeL t)).size ≤ 20 := by rw [bs_size]; exact timeL_len HU.out
    have HR := Lib.hid (show lineL ⟨2, h, p, t, l⟩ = wdL 2 ++ 32 :: Lib.itoa h from (lineH _ (by dsimp only; decide)).1 hf)
    have h32 := Lib.hid (show ({ data := #[32] } : ByteArray) = bs [32] from rfl)
    have HNH := Lib.hid (fun W => numB_any h (by omega) (by omega) W)
    clear hf hf2
    go_wp2_with fail
    go_at_call 37
    refine (fits_any h _).mono ?_
    rintro e w3 ⟨rfl, rfl⟩
    rw [HFP.out]
    go_wp2_with fail
    go_at_call 38
    refine (HNH.out _).mono ?_
    rintro e w4 ⟨rfl, hb⟩
    have HB4 := Lib.hid (HB2.out.trans (hb.mono HB2.out.size))
    replace a0 := Kc hb HS2.out a0
    replace a1 := Kc hb HS2.out a1
    replace a2 := Kc hb HS2.out a2
    replace a3 := Kc hb HS2.out a3
    replace a4 := Kc hb HS2.out a4
    have HS4 := Lib.hid (Nat.lt_of_lt_of_le HS2.out hb.size)
    clear hb an
    go_wp2_with fail
    go_ret
    refine ⟨?_, HB4.out⟩
    rw [HR.out]
    refine congrArg (fun S => Ending.returned (Value.string S)) ?_
    rw [hlit.out, h32.out, bs_app, bs_app]
    exact congrArg bs (by simp)
  · have HR := Lib.hid (show lineL ⟨2, h, p, t, l⟩ = [] from (lineH _ (by dsimp only; decide)).2 hf)
    have HFP := Lib.hid (decide_eq_false hf)
    clear hf
    go_wp2_with fail
    go_at_call 37
    refine (fits_any h _).mono ?_
    rintro e w3 ⟨rfl, rfl⟩
    rw [HFP.out]
    go_wp2_with fail
    go_ret
    exact ⟨by rw [HR.out]; rfl, HB2.out⟩
set_option maxRecDepth 1000000 in
set_option maxHeartbeats 8000000 in
theorem rLine_5 {w : World} {l : List Batch.Ch} {ao : Option Addr} {cap : Nat} {h p t : Int} (hv : Batch.Rd w (.slice ao l.length cap) l) (hl : l.length ≤ 100000) (ht : Stamp.U t) :
    Calls Tryz.prog 12 #[.agg #[.int .i64 5, .int .i64 h, .int .i64 p, .int .u64 t, .slice ao l.length cap]] w fun e w' => e = .returned (.string (bs (lineL ⟨5, h, p, t, l⟩))) ∧ Below w.heap.size w w' := by
  have HV := Lib.hid hv
  have HU := Lib.hid ht
  have HNT := Lib.hid (fun W => timeB_any t ht W)
  clear hv ht
  obtain ⟨w1, hw1⟩ : ∃ w1, w1 = w.alloc (.cells #[.int .i64 5, .int .i64 h, .int .i64 p, .int .u64 t, .slice ao l.length cap] 25) := ⟨_, rfl⟩
  have hx1 : w1.heap[w.heap.size]? = some (.cells #[.int .i64 5, .int .i64 h, .int .i64 p, .int .u64 t, .slice ao l.length cap] 25 (0, 0)) := by rw [hw1]; exact heap_alloc_new w _
  have hb1 : Below w.heap.size w w1 := by rw [hw1]; exact (Below.refl _ _).alloc (Nat.le_refl _) _
  obtain ⟨s, hs⟩ : ∃ s, s = w.heap.size := ⟨_, rfl⟩
  rw [← hs] at hx1
  have HS := Lib.hid (Array.getElem?_eq_some_iff.1 hx1).1
  have HB1 := Lib.hid hb1
  have HX1 := Lib.hid hx1
  clear hb1 hx1
  go_enter Tryz.func12, Tryz.ntmps12
  go_upto_region 1 with fail
  rw [← hw1, ← hs]
  clear hw1 hs
  go_upto_region 2 with fail
  obtain ⟨w2, hw2⟩ : ∃ w2, w2 = w1.alloc (.cells #[.string ({ data := #[111, 112, 101, 110] }), .string ({ data := #[97, 100, 118, 97, 110, 99, 101] }), .string ({ data := #[99, 108, 111, 115, 101] }), .string ({ data := #[117, 112, 100, 97, 116, 101] }), .string ({ data := #[102, 114, 111, 110, 116, 115] }), .string ({ data := #[100, 111, 110, 101] }), .string ({ data := #[119, 97, 105, 116] }), .string ({ data := #[115, 104, 117, 116] })] 9) := ⟨_, rfl⟩
  have hx2 : w2.heap[w1.heap.size]? = some (.cells #[.string ({ data := #[111, 112, 101, 110] }), .string ({ data := #[97, 100, 118, 97, 110, 99, 101] }), .string ({ data := #[99, 108, 111, 115, 101] }), .string ({ data := #[117, 112, 100, 97, 116, 101] }), .string ({ data := #[102, 114, 111, 110, 116, 115] }), .string ({ data := #[100, 111, 110, 101] }), .string ({ data := #[119, 97, 105, 116] }), .string ({ data := #[115, 104, 117, 116] })] 9 (0, 0)) := by rw [hw2]; exact heap_alloc_new w1 _
  have hb2 : Below w1.heap.size w1 w2 := by rw [hw2]; exact (Below.refl _ _).alloc (Nat.le_refl _) _
  rw [← hw2]
  obtain ⟨g, hg⟩ : ∃ g, g = w1.heap.size := ⟨_, rfl⟩
  rw [← hg] at hx2 ⊢
  obtain ⟨a0, a1, a2, a3, a4⟩ := cells5 ((hb2.block s HS.out).trans HX1.out)
  have HB2 := Lib.hid (HB1.out.trans (hb2.mono HB1.out.size))
  have HS2 := Lib.hid (Nat.lt_of_lt_of_le HS.out hb2.size)
  have an : w2.cell? ⟨g, 5, none⟩ = some (.string ({ data := #[100, 111, 110, 101] })) := by simp [World.cell?, hx2]
  have hlit := Lib.hid (show ({ data := #[100, 111, 110, 101] } : ByteArray) = bs (wdL 5) from rfl)
  have hsz : ({ data := #[100, 111, 110, 101] } : ByteArray).size ≤ 10 := by decide
  clear hw2 hb2 hx2 hg
  by_cases hf : FitN p
  · have hf2 := hf
    unfold FitN at hf2
    have HFP := Lib.hid (decide_eq_true hf)
    have sp : (bs (Lib.itoa p)).size ≤ 21 := by rw [bs_size]; exact itoa_len (by omega) (by omega)
    have st : (bs (timeL t)).size ≤ 20 := by rw [bs_size]; exact timeL_len HU.out
    have HR := Lib.hid (show lineL ⟨5, h, p, t, l⟩ = wdL 5 ++ 32 :: (Lib.itoa p ++ 32 :: timeL t) from (lineP _ (by dsimp only; decide)).1 hf)
    have h32 := Lib.hid (show ({ data := #[32] } : ByteArray) = bs [32] from rfl)
    have HNP := Lib.hid (fun W => numR_any p (by omega) (by omega) W)
    have HNQ := Lib.hid (fun W => timeR_any t HU.out W)
    clear hf hf2
    go_wp2_with fail
    go_at_call 37
    refine (fits_any p _).mono ?_
    rintro e w3 ⟨rfl, rfl⟩
    rw [HFP.out]
    go_upto_region 23 with fail
    go_quiet (first
      | (go_at_call 38; exact Calls.quiet_of (HNP.out _))
      | (go_at_call 39; exact Calls.quiet_of (HNQ.out _)))
    go_wp2_with fail
    go_ret
    refine ⟨?_, below_drewN HB2.out _⟩
    rw [HR.out]
    refine congrArg (fun S => Ending.returned (Value.string S)) ?_
    rw [hlit.out, h32.out, bs_app, bs_app, bs_app, bs_app]
    exact congrArg bs (by simp)
  · have HR := Lib.hid (show lineL ⟨5, h, p, t, l⟩ = [] from (lineP _ (by dsimp only; decide)).2 hf)
    have HFP := Lib.hid (decide_eq_false hf)
    clear hf
    go_wp2_with fail
    go_at_call 37
    refine (fits_any p _).mono ?_
    rintro e w3 ⟨rfl, rfl⟩
    rw [HFP.out]
    go_wp2_with fail
    go_ret
    exact ⟨by rw [HR.out]; rfl, HB2.out⟩
set_option maxRecDepth 1000000 in
set_option maxHeartbeats 8000000 in
theorem rLine_6 {w : World} {l : List Batch.Ch} {ao : Option Addr} {cap : Nat} {h p t : Int} (hv : Batch.Rd w (.slice ao l.length cap) l) (hl : l.length ≤ 100000) (ht : Stamp.U t) :
    Calls Tryz.prog 12 #[.agg #[.int .i64 6, .int .i64 h, .int .i64 p, .int .u64 t, .slice ao l.length cap]] w fun e w' => e = .returned (.string (bs (lineL ⟨6, h, p, t, l⟩))) ∧ Below w.heap.size w w' := by
  have HV := Lib.hid hv
  have HU := Lib.hid ht
  have HNT := Lib.hid (fun W => timeB_any t ht W)
  clear hv ht
  obtain ⟨w1, hw1⟩ : ∃ w1, w1 = w.alloc (.cells #[.int .i64 6, .int .i64 h, .int .i64 p, .int .u64 t, .slice ao l.length cap] 25) := ⟨_, rfl⟩
  have hx1 : w1.heap[w.heap.size]? = some (.cells #[.int .i64 6, .int .i64 h, .int .i64 p, .int .u64 t, .slice ao l.length cap] 25 (0, 0)) := by rw [hw1]; exact heap_alloc_new w _
  have hb1 : Below w.heap.size w w1 := by rw [hw1]; exact (Below.refl _ _).alloc (Nat.le_refl _) _
  obtain ⟨s, hs⟩ : ∃ s, s = w.heap.size := ⟨_, rfl⟩
  rw [← hs] at hx1
  have HS := Lib.hid (Array.getElem?_eq_some_iff.1 hx1).1
  have HB1 := Lib.hid hb1
  have HX1 := Lib.hid hx1
  clear hb1 hx1
  go_enter Tryz.func12, Tryz.ntmps12
  go_upto_region 1 with fail
  rw [← hw1, ← hs]
  clear hw1 hs
  go_upto_region 2 with fail
  obtain ⟨w2, hw2⟩ : ∃ w2, w2 = w1.alloc (.cells #[.string ({ data := #[111, 112, 101, 110] }), .string ({ data := #[97, 100, 118, 97, 110, 99, 101] }), .string ({ data := #[99, 108, 111, 115, 101] }), .string ({ data := #[117, 112, 100, 97, 116, 101] }), .string ({ data := #[102, 114, 111, 110, 116, 115] }), .string ({ data := #[100, 111, 110, 101] }), .string ({ data := #[119, 97, 105, 116] }), .string ({ data := #[115, 104, 117, 116] })] 9) := ⟨_, rfl⟩
  have hx2 : w2.heap[w1.heap.size]? = some (.cells #[.string ({ data := #[111, 112, 101, 110] }), .string ({ data := #[97, 100, 118, 97, 110, 99, 101] }), .string ({ data := #[99, 108, 111, 115, 101] }), .string ({ data := #[117, 112, 100, 97, 116, 101] }), .string ({ data := #[102, 114, 111, 110, 116, 115] }), .string ({ data := #[100, 111, 110, 101] }), .string ({ data := #[119, 97, 105, 116] }), .string ({ data := #[115, 104, 117, 116] })] 9 (0, 0)) := by rw [hw2]; exact heap_alloc_new w1 _
  have hb2 : Below w1.heap.size w1 w2 := by rw [hw2]; exact (Below.refl _ _).alloc (Nat.le_refl _) _
  rw [← hw2]
  obtain ⟨g, hg⟩ : ∃ g, g = w1.heap.size := ⟨_, rfl⟩
  rw [← hg] at hx2 ⊢
  obtain ⟨a0, a1, a2, a3, a4⟩ := cells5 ((hb2.block s HS.out).trans HX1.out)
  have HB2 := Lib.hid (HB1.out.trans (hb2.mono HB1.out.size))
  have HS2 := Lib.hid (Nat.lt_of_lt_of_le HS.out hb2.size)
  have an : w2.cell? ⟨g, 6, none⟩ = some (.string ({ data := #[119, 97, 105, 116] })) := by simp [World.cell?, hx2]
  have hlit := Lib.hid (show ({ data := #[119, 97, 105, 116] } : ByteArray) = bs (wdL 6) from rfl)
  have hsz : ({ data := #[119, 97, 105, 116] } : ByteArray).size ≤ 10 := by decide
  clear hw2 hb2 hx2 hg
  by_cases hf : FitN p
  · have hf2 := hf
    unfold FitN at hf2
    have HFP := Lib.hid (decide_eq_true hf)
    have sp : (bs (Lib.itoa p)).size ≤ 21 := by rw [bs_size]; exact itoa_len (by omega) (by omega)
    have st : (bs (timeL t)).size ≤ 20 := by rw [bs_size]; exact timeL_len HU.out
    have HR := Lib.hid (show lineL ⟨6, h, p, t, l⟩ = wdL 6 ++ 32 :: (Lib.itoa p ++ 32 :: timeL t) from (lineP _ (by dsimp only; decide)).1 hf)
    have h32 := Lib.hid (show ({ data := #[32] } : ByteArray) = bs [32] from rfl)
    have HNP := Lib.hid (fun W => numR_any p (by omega) (by omega) W)
    have HNQ := Lib.hid (fun W => timeR_any t HU.out W)
    clear hf hf2
    go_wp2_with fail
    go_at_call 37
    refine (fits_any p _).mono ?_
    rintro e w3 ⟨rfl, rfl⟩
    rw [HFP.out]
    go_upto_region 23 with fail
    go_quiet (first
      | (go_at_call 38; exact Calls.quiet_of (HNP.out _))
      | (go_at_call 39; exact Calls.quiet_of (HNQ.out _)))
    go_wp2_with fail
    go_ret
    refine ⟨?_, below_drewN HB2.out _⟩
    rw [HR.out]
    refine congrArg (fun S => Ending.returned (Value.string S)) ?_
    rw [hlit.out, h32.out, bs_app, bs_app, bs_app, bs_app]
    exact congrArg bs (by simp)
  · have HR := Lib.hid (show lineL ⟨6, h, p, t, l⟩ = [] from (lineP _ (by dsimp only; decide)).2 hf)
    have HFP := Lib.hid (decide_eq_false hf)
    clear hf
    go_wp2_with fail
    go_at_call 37
    refine (fits_any p _).mono ?_
    rintro e w3 ⟨rfl, rfl⟩
    rw [HFP.out]
    go_wp2_with fail
    go_ret
    exact ⟨by rw [HR.out]; rfl, HB2.out⟩
set_option maxRecDepth 1000000 in
set_option maxHeartbeats 8000000 in
theorem rLine_4 {w : World} {l : List Batch.Ch} {ao : Option Addr} {cap : Nat} {h p t : Int} (hv : Batch.Rd w (.slice ao l.length cap) l) (hl : l.length ≤ 100000) (ht : Stamp.U t) :
    Calls Tryz.prog 12 #[.agg #[.int .i64 4, .int .i64 h, .int .i64 p, .int .u64 t, .slice ao l.length cap]] w fun e w' => e = .returned (.string (bs (lineL ⟨4, h, p, t, l⟩))) ∧ Below w.heap.size w w' := by
  have HV := Lib.hid hv
  have HU := Lib.hid ht
  have HNT := Lib.hid (fun W => timeB_any t ht W)
  clear hv ht
  obtain ⟨w1, hw1⟩ : ∃ w1, w1 = w.alloc (.cells #[.int .i64 4, .int .i64 h, .int .i64 p, .int .u64 t, .slice ao l.length cap] 25) := ⟨_, rfl⟩
  have hx1 : w1.heap[w.heap.size]? = some (.cells #[.int .i64 4, .int .i64 h, .int .i64 p, .int .u64 t, .slice ao l.length cap] 25 (0, 0)) := by rw [hw1]; exact heap_alloc_new w _
  have hb1 : Below w.heap.size w w1 := by rw [hw1]; exact (Below.refl _ _).alloc (Nat.le_refl _) _
  obtain ⟨s, hs⟩ : ∃ s, s = w.heap.size := ⟨_, rfl⟩
  rw [← hs] at hx1
  have HS := Lib.hid (Array.getElem?_eq_some_iff.1 hx1).1
  have HB1 := Lib.hid hb1
  have HX1 := Lib.hid hx1
  clear hb1 hx1
  go_enter Tryz.func12, Tryz.ntmps12
  go_upto_region 1 with fail
  rw [← hw1, ← hs]
  clear hw1 hs
  go_upto_region 2 with fail
  obtain ⟨w2, hw2⟩ : ∃ w2, w2 = w1.alloc (.cells #[.string ({ data := #[111, 112, 101, 110] }), .string ({ data := #[97, 100, 118, 97, 110, 99, 101] }), .string ({ data := #[99, 108, 111, 115, 101] }), .string ({ data := #[117, 112, 100, 97, 116, 101] }), .string ({ data := #[102, 114, 111, 110, 116, 115] }), .string ({ data := #[100, 111, 110, 101] }), .string ({ data := #[119, 97, 105, 116] }), .string ({ data := #[115, 104, 117, 116] })] 9) := ⟨_, rfl⟩
  have hx2 : w2.heap[w1.heap.size]? = some (.cells #[.string ({ data := #[111, 112, 101, 110] }), .string ({ data := #[97, 100, 118, 97, 110, 99, 101] }), .string ({ data := #[99, 108, 111, 115, 101] }), .string ({ data := #[117, 112, 100, 97, 116, 101] }), .string ({ data := #[102, 114, 111, 110, 116, 115] }), .string ({ data := #[100, 111, 110, 101] }), .string ({ data := #[119, 97, 105, 116] }), .string ({ data := #[115, 104, 117, 116] })] 9 (0, 0)) := by rw [hw2]; exact heap_alloc_new w1 _
  have hb2 : Below w1.heap.size w1 w2 := by rw [hw2]; exact (Below.refl _ _).alloc (Nat.le_refl _) _
  rw [← hw2]
  obtain ⟨g, hg⟩ : ∃ g, g = w1.heap.size := ⟨_, rfl⟩
  rw [← hg] at hx2 ⊢
  obtain ⟨a0, a1, a2, a3, a4⟩ := cells5 ((hb2.block s HS.out).trans HX1.out)
  have HB2 := Lib.hid (HB1.out.trans (hb2.mono HB1.out.size))
  have HS2 := Lib.hid (Nat.lt_of_lt_of_le HS.out hb2.size)
  have an : w2.cell? ⟨g, 4, none⟩ = some (.string ({ data := #[102, 114, 111, 110, 116, 115] })) := by simp [World.cell?, hx2]
  have hlit := Lib.hid (show ({ data := #[102, 114, 111, 110, 116, 115] } : ByteArray) = bs (wdL 4) from rfl)
  have hsz : ({ data := #[102, 114, 111, 110, 116, 115] } : ByteArray).size ≤ 10 := by decide
  clear hw2 hb2 hx2 hg
  have HR := Lib.hid (show lineL ⟨4, h, p, t, l⟩ = wdL 4 from lineW _ (by dsimp only; decide))
  go_wp2_with fail
  go_ret
  refine ⟨?_, HB2.out⟩
  rw [HR.out]
  exact congrArg (fun S => Ending.returned (Value.string S)) hlit.out
set_option maxRecDepth 1000000 in
set_option maxHeartbeats 8000000 in
theorem rLine_7 {w : World} {l : List Batch.Ch} {ao : Option Addr} {cap : Nat} {h p t : Int} (hv : Batch.Rd w (.slice ao l.length cap) l) (hl : l.length ≤ 100000) (ht : Stamp.U t) :
    Calls Tryz.prog 12 #[.agg #[.int .i64 7, .int .i64 h, .int .i64 p, .int .u64 t, .slice ao l.length cap]] w fun e w' => e = .returned (.string (bs (lineL ⟨7, h, p, t, l⟩))) ∧ Below w.heap.size w w' := by
  have HV := Lib.hid hv
  have HU := Lib.hid ht
  have HNT := Lib.hid (fun W => timeB_any t ht W)
  clear hv ht
  obtain ⟨w1, hw1⟩ : ∃ w1, w1 = w.alloc (.cells #[.int .i64 7, .int .i64 h, .int .i64 p, .int .u64 t, .slice ao l.length cap] 25) := ⟨_, rfl⟩
  have hx1 : w1.heap[w.heap.size]? = some (.cells #[.int .i64 7, .int .i64 h, .int .i64 p, .int .u64 t, .slice ao l.length cap] 25 (0, 0)) := by rw [hw1]; exact heap_alloc_new w _
  have hb1 : Below w.heap.size w w1 := by rw [hw1]; exact (Below.refl _ _).alloc (Nat.le_refl _) _
  obtain ⟨s, hs⟩ : ∃ s, s = w.heap.size := ⟨_, rfl⟩
  rw [← hs] at hx1
  have HS := Lib.hid (Array.getElem?_eq_some_iff.1 hx1).1
  have HB1 := Lib.hid hb1
  have HX1 := Lib.hid hx1
  clear hb1 hx1
  go_enter Tryz.func12, Tryz.ntmps12
  go_upto_region 1 with fail
  rw [← hw1, ← hs]
  clear hw1 hs
  go_upto_region 2 with fail
  obtain ⟨w2, hw2⟩ : ∃ w2, w2 = w1.alloc (.cells #[.string ({ data := #[111, 112, 101, 110] }), .string ({ data := #[97, 100, 118, 97, 110, 99, 101] }), .string ({ data := #[99, 108, 111, 115, 101] }), .string ({ data := #[117, 112, 100, 97, 116, 101] }), .string ({ data := #[102, 114, 111, 110, 116, 115] }), .string ({ data := #[100, 111, 110, 101] }), .string ({ data := #[119, 97, 105, 116] }), .string ({ data := #[115, 104, 117, 116] })] 9) := ⟨_, rfl⟩
  have hx2 : w2.heap[w1.heap.size]? = some (.cells #[.string ({ data := #[111, 112, 101, 110] }), .string ({ data := #[97, 100, 118, 97, 110, 99, 101] }), .string ({ data := #[99, 108, 111, 115, 101] }), .string ({ data := #[117, 112, 100, 97, 116, 101] }), .string ({ data := #[102, 114, 111, 110, 116, 115] }), .string ({ data := #[100, 111, 110, 101] }), .string ({ data := #[119, 97, 105, 116] }), .string ({ data := #[115, 104, 117, 116] })] 9 (0, 0)) := by rw [hw2]; exact heap_alloc_new w1 _
  have hb2 : Below w1.heap.size w1 w2 := by rw [hw2]; exact (Below.refl _ _).alloc (Nat.le_refl _) _
  rw [← hw2]
  obtain ⟨g, hg⟩ : ∃ g, g = w1.heap.size := ⟨_, rfl⟩
  rw [← hg] at hx2 ⊢
  obtain ⟨a0, a1, a2, a3, a4⟩ := cells5 ((hb2.block s HS.out).trans HX1.out)
  have HB2 := Lib.hid (HB1.out.trans (hb2.mono HB1.out.size))
  have HS2 := Lib.hid (Nat.lt_of_lt_of_le HS.out hb2.size)
  have an : w2.cell? ⟨g, 7, none⟩ = some (.string ({ data := #[115, 104, 117, 116] })) := by simp [World.cell?, hx2]
  have hlit := Lib.hid (show ({ data := #[115, 104, 117, 116] } : ByteArray) = bs (wdL 7) from rfl)
  have hsz : ({ data := #[115, 104, 117, 116] } : ByteArray).size ≤ 10 := by decide
  clear hw2 hb2 hx2 hg
  have HR := Lib.hid (show lineL ⟨7, h, p, t, l⟩ = wdL 7 from lineW _ (by dsimp only; decide))
  go_wp2_with fail
  go_ret
  refine ⟨?_, HB2.out⟩
  rw [HR.out]
  exact congrArg (fun S => Ending.returned (Value.string S)) hlit.out
set_option maxRecDepth 1000000 in
set_option maxHeartbeats 8000000 in
theorem rLine_3 {w : World} {l : List Batch.Ch} {ao : Option Addr} {cap : Nat} {h p t : Int} (hv : Batch.Rd w (.slice ao l.length cap) l) (hl : l.length ≤ 100000) (ht : Stamp.U t) :
    Calls Tryz.prog 12 #[.agg #[.int .i64 3, .int .i64 h, .int .i64 p, .int .u64 t, .slice ao l.length cap]] w fun e w' => e = .returned (.string (bs (lineL ⟨3, h, p, t, l⟩))) ∧ Below w.heap.size w w' := by
  have HV := Lib.hid hv
  have HU := Lib.hid ht
  have HNT := Lib.hid (fun W => timeB_any t ht W)
  clear hv ht
  obtain ⟨w1, hw1⟩ : ∃ w1, w1 = w.alloc (.cells #[.int .i64 3, .int .i64 h, .int .i64 p, .int .u64 t, .slice ao l.length cap] 25) := ⟨_, rfl⟩
  have hx1 : w1.heap[w.heap.size]? = some (.cells #[.int .i64 3, .int .i64 h, .int .i64 p, .int .u64 t, .slice ao l.length cap] 25 (0, 0)) := by rw [hw1]; exact heap_alloc_new w _
  have hb1 : Below w.heap.size w w1 := by rw [hw1]; exact (Below.refl _ _).alloc (Nat.le_refl _) _
  obtain ⟨s, hs⟩ : ∃ s, s = w.heap.size := ⟨_, rfl⟩
  rw [← hs] at hx1
  have HS := Lib.hid (Array.getElem?_eq_some_iff.1 hx1).1
  have HB1 := Lib.hid hb1
  have HX1 := Lib.hid hx1
  clear hb1 hx1
  go_enter Tryz.func12, Tryz.ntmps12
  go_upto_region 1 with fail
  rw [← hw1, ← hs]
  clear hw1 hs
  go_upto_region 2 with fail
  obtain ⟨w2, hw2⟩ : ∃ w2, w2 = w1.alloc (.cells #[.string ({ data := #[111, 112, 101, 110] }), .string ({ data := #[97, 100, 118, 97, 110, 99, 101] }), .string ({ data := #[99, 108, 111, 115, 101] }), .string ({ data := #[117, 112, 100, 97, 116, 101] }), .string ({ data := #[102, 114, 111, 110, 116, 115] }), .string ({ data := #[100, 111, 110, 101] }), .string ({ data := #[119, 97, 105, 116] }), .string ({ data := #[115, 104, 117, 116] })] 9) := ⟨_, rfl⟩
  have hx2 : w2.heap[w1.heap.size]? = some (.cells #[.string ({ data := #[111, 112, 101, 110] }), .string ({ data := #[97, 100, 118, 97, 110, 99, 101] }), .string ({ data := #[99, 108, 111, 115, 101] }), .string ({ data := #[117, 112, 100, 97, 116, 101] }), .string ({ data := #[102, 114, 111, 110, 116, 115] }), .string ({ data := #[100, 111, 110, 101] }), .string ({ data := #[119, 97, 105, 116] }), .string ({ data := #[115, 104, 117, 116] })] 9 (0, 0)) := by rw [hw2]; exact heap_alloc_new w1 _
  have hb2 : Below w1.heap.size w1 w2 := by rw [hw2]; exact (Below.refl _ _).alloc (Nat.le_refl _) _
  rw [← hw2]
  obtain ⟨g, hg⟩ : ∃ g, g = w1.heap.size := ⟨_, rfl⟩
  rw [← hg] at hx2 ⊢
  obtain ⟨a0, a1, a2, a3, a4⟩ := cells5 ((hb2.block s HS.out).trans HX1.out)
  have HB2 := Lib.hid (HB1.out.trans (hb2.mono HB1.out.size))
  have HS2 := Lib.hid (Nat.lt_of_lt_of_le HS.out hb2.size)
  have an : w2.cell? ⟨g, 3, none⟩ = some (.string ({ data := #[117, 112, 100, 97, 116, 101] })) := by simp [World.cell?, hx2]
  have hlit := Lib.hid (show ({ data := #[117, 112, 100, 97, 116, 101] } : ByteArray) = bs (wdL 3) from rfl)
  have hsz : ({ data := #[117, 112, 100, 97, 116, 101] } : ByteArray).size ≤ 10 := by decide
  clear hw2 hb2 hx2 hg
  have HCC := Lib.hid (refChs_any (HV.out.below HB2.out) hl)
  have HCL := Lib.hid (chsP_eq l ▸ chsP_len (l := l) fun x hx => ⟨(HV.out.wf x hx).t0, (HV.out.wf x hx).t1⟩)
  by_cases hf : chsL l = []
  · have HR := Lib.hid (show lineL ⟨3, h, p, t, l⟩ = [] from (lineC _ rfl).2 hf)
    have eE : ((bs (chsL l)).toList == []) = true := by rw [Lib.toList_data, bs_data, hf]; rfl
    clear hf
    generalize chsL l = C at *
    go_wp2_with fail
    go_at_call 40
    refine HCC.out.mono ?_
    rintro e w4 ⟨rfl, hb⟩
    have HB4 := Lib.hid (HB2.out.trans (hb.mono HB2.out.size))
    clear hb an
    go_wp2_with fail
    go_ret
    exact ⟨by rw [HR.out]; rfl, HB4.out⟩
  · have HR := Lib.hid (show lineL ⟨3, h, p, t, l⟩ = wdL 3 ++ 32 :: chsL l from (lineC _ rfl).1 hf)
    have eE : ((bs (chsL l)).toList == []) = false := by rw [Lib.toList_data, bs_data, beq_eq_false_iff_ne]; exact hf
    have sp : (bs (chsL l)).size ≤ 1072 := by rw [bs_size]; exact HCL.out
    have h32 := Lib.hid (show ({ data := #[32] } : ByteArray) = bs [32] from rfl)
    clear hf
    generalize chsL l = C at *
    go_wp2_with fail
    go_at_call 40
    refine HCC.out.mono ?_
    rintro e w4 ⟨rfl, hb⟩
    have HB4 := Lib.hid (HB2.out.trans (hb.mono HB2.out.size))
    clear hb an
    go_wp2_with fail
    go_ret
    refine ⟨?_, HB4.out⟩
    rw [HR.out]
    refine congrArg (fun S => Ending.returned (Value.string S)) ?_
    rw [hlit.out, h32.out, bs_app, bs_app]
    exact congrArg bs (by simp)
set_option maxRecDepth 1000000 in
set_option maxHeartbeats 8000000 in
theorem rLine_no {w : World} {l : List Batch.Ch} {ao : Option Addr} {cap : Nat} {k h p t : Int} (hv : Batch.Rd w (.slice ao l.length cap) l) (hl : l.length ≤ 100000) (ht : Stamp.U t) (hk : k < 0 ∨ 7 < k) :
    Calls Tryz.prog 12 #[.agg #[.int .i64 k, .int .i64 h, .int .i64 p, .int .u64 t, .slice ao l.length cap]] w fun e w' => e = .returned (.string (bs (lineL ⟨k, h, p, t, l⟩))) ∧ Below w.heap.size w w' := by
  have HR := Lib.hid (show lineL ⟨k, h, p, t, l⟩ = [] by
    have e : argL ⟨k, h, p, t, l⟩ = [] := by unfold argL; dsimp only; rw [if_neg (by omega), if_neg (by omega), if_neg (by omega), if_neg (by omega)]
    unfold lineL
    dsimp only
    rw [if_neg (by omega), if_pos e])
  have HK := Lib.hid hk
  clear hk
  have HV := Lib.hid hv
  have HU := Lib.hid ht
  have HNT := Lib.hid (fun W => timeB_any t ht W)
  clear hv ht
  obtain ⟨w1, hw1⟩ : ∃ w1, w1 = w.alloc (.cells #[.int .i64 k, .int .i64 h, .int .i64 p, .int .u64 t, .slice ao l.length cap] 25) := ⟨_, rfl⟩
  have hx1 : w1.heap[w.heap.size]? = some (.cells #[.int .i64 k, .int .i64 h, .int .i64 p, .int .u64 t, .slice ao l.length cap] 25 (0, 0)) := by rw [hw1]; exact heap_alloc_new w _
  have hb1 : Below w.heap.size w w1 := by rw [hw1]; exact (Below.refl _ _).alloc (Nat.le_refl _) _
  obtain ⟨s, hs⟩ : ∃ s, s = w.heap.size := ⟨_, rfl⟩
  rw [← hs] at hx1
  have HS := Lib.hid (Array.getElem?_eq_some_iff.1 hx1).1
  have HB1 := Lib.hid hb1
  have HX1 := Lib.hid hx1
  clear hb1 hx1
  go_enter Tryz.func12, Tryz.ntmps12
  go_upto_region 1 with fail
  rw [← hw1, ← hs]
  clear hw1 hs
  go_upto_region 2 with fail
  obtain ⟨w2, hw2⟩ : ∃ w2, w2 = w1.alloc (.cells #[.string ({ data := #[111, 112, 101, 110] }), .string ({ data := #[97, 100, 118, 97, 110, 99, 101] }), .string ({ data := #[99, 108, 111, 115, 101] }), .string ({ data := #[117, 112, 100, 97, 116, 101] }), .string ({ data := #[102, 114, 111, 110, 116, 115] }), .string ({ data := #[100, 111, 110, 101] }), .string ({ data := #[119, 97, 105, 116] }), .string ({ data := #[115, 104, 117, 116] })] 9) := ⟨_, rfl⟩
  have hx2 : w2.heap[w1.heap.size]? = some (.cells #[.string ({ data := #[111, 112, 101, 110] }), .string ({ data := #[97, 100, 118, 97, 110, 99, 101] }), .string ({ data := #[99, 108, 111, 115, 101] }), .string ({ data := #[117, 112, 100, 97, 116, 101] }), .string ({ data := #[102, 114, 111, 110, 116, 115] }), .string ({ data := #[100, 111, 110, 101] }), .string ({ data := #[119, 97, 105, 116] }), .string ({ data := #[115, 104, 117, 116] })] 9 (0, 0)) := by rw [hw2]; exact heap_alloc_new w1 _
  have hb2 : Below w1.heap.size w1 w2 := by rw [hw2]; exact (Below.refl _ _).alloc (Nat.le_refl _) _
  rw [← hw2]
  obtain ⟨g, hg⟩ : ∃ g, g = w1.heap.size := ⟨_, rfl⟩
  rw [← hg] at hx2 ⊢
  obtain ⟨a0, a1, a2, a3, a4⟩ := cells5 ((hb2.block s HS.out).trans HX1.out)
  have HB2 := Lib.hid (HB1.out.trans (hb2.mono HB1.out.size))
  have HS2 := Lib.hid (Nat.lt_of_lt_of_le HS.out hb2.size)
  clear hw2 hb2 hx2 hg
  rcases HK.out with hk | hk
  · go_wp2_with fail
    go_ret
    exact ⟨by rw [HR.out]; rfl, HB2.out⟩
  · have hk2 : ¬ k < 0 := by omega
    go_wp2_with fail
    go_ret
    exact ⟨by rw [HR.out]; rfl, HB2.out⟩
theorem refLine_any {w : World} {v : Value} {l : List Batch.Ch} {k h p t : Int} (hv : Batch.Rd w v l) (hl : l.length ≤ 100000) (ht : Stamp.U t) :
    Calls Tryz.prog 12 #[.agg #[.int .i64 k, .int .i64 h, .int .i64 p, .int .u64 t, v]] w fun e w' => e = .returned (.string (bs (lineL ⟨k, h, p, t, l⟩))) ∧ Below w.heap.size w w' := by
  obtain ⟨ao, cap, rfl, _⟩ := id hv
  by_cases hn : k < 0 ∨ 7 < k
  · exact rLine_no hv hl ht hn
  obtain rfl | rfl | rfl | rfl | rfl | rfl | rfl | rfl : k = 0 ∨ k = 1 ∨ k = 2 ∨ k = 3 ∨ k = 4 ∨ k = 5 ∨ k = 6 ∨ k = 7 := by omega
  · exact rLine_0 hv hl ht
  · exact rLine_1 hv hl ht
  · exact rLine_2 hv hl ht
  · exact rLine_3 hv hl ht
  · exact rLine_4 hv hl ht
  · exact rLine_5 hv hl ht
  · exact rLine_6 hv hl ht
  · exact rLine_7 hv hl ht
end Go.Proofs.YtdbaacalfbbdiaaGreatDoor.Sc
