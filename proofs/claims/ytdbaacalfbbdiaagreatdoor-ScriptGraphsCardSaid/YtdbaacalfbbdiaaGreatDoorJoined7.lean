/-
  PACKAGE ring: Right, of whatever size.
  PACKAGE model: Check: what is wrong with a Plan.
-/
import Derived.Test.YtdbaacalfbbdiaaGreatDoorRowMem
import Derived.Test.YtdbaacalfbbdiaaGreatDoorGCheck2
import Derived.Deep.Cut
namespace Go.Proofs.YtdbaacalfbbdiaaGreatDoor.Md
open Go.RowKit
set_option linter.unusedVariables false

def ringB (R : Int) : Bool := decide (R = 1) || (decide (R = 2) || (decide (R = 4) || (decide (R = 8) || (decide (R = 16) || (decide (R = 32) || decide (R = 64))))))
theorem ringB_lo {R : Int} (h : R < 1) : ringB R = false := by simp [ringB]; omega
theorem ringB_hi {R : Int} (h : 64 < R) : ringB R = false := by simp [ringB]; omega
set_option maxRecDepth 1000000 in
set_option maxHeartbeats 16000000 in
theorem mdRing_any (R : Int) (w : World) : Calls Tryz.prog 50 #[.int .i64 R] w fun e w' => e = .returned (.bool (ringB R)) ∧ w' = w := by
  by_cases h1 : (1 : Int) ≤ R
  · by_cases h2 : R ≤ (64 : Int)
    · rcases (show R = 1 ∨ R = 2 ∨ R = 3 ∨ R = 4 ∨ R = 5 ∨ R = 6 ∨ R = 7 ∨ R = 8 ∨ R = 9 ∨ R = 10 ∨ R = 11 ∨ R = 12 ∨ R = 13 ∨ R = 14 ∨ R = 15 ∨ R = 16 ∨ R = 17 ∨ R = 18 ∨ R = 19 ∨ R = 20 ∨ R = 21 ∨ R = 22 ∨ R = 23 ∨ R = 24 ∨ R = 25 ∨ R = 26 ∨ R = 27 ∨ R = 28 ∨ R = 29 ∨ R = 30 ∨ R = 31 ∨ R = 32 ∨ R = 33 ∨ R = 34 ∨ R = 35 ∨ R = 36 ∨ R = 37 ∨ R = 38 ∨ R = 39 ∨ R = 40 ∨ R = 41 ∨ R = 42 ∨ R = 43 ∨ R = 44 ∨ R = 45 ∨ R = 46 ∨ R = 47 ∨ R = 48 ∨ R = 49 ∨ R = 50 ∨ R = 51 ∨ R = 52 ∨ R = 53 ∨ R = 54 ∨ R = 55 ∨ R = 56 ∨ R = 57 ∨ R = 58 ∨ R = 59 ∨ R = 60 ∨ R = 61 ∨ R = 62 ∨ R = 63 ∨ R = 64 by omega) with rfl | rfl | rfl | rfl | rfl | rfl | rfl | rfl | rfl | rfl | rfl | rfl | rfl | rfl | rfl | rfl | rfl | rfl | rfl | rfl | rfl | rfl | rfl | rfl | rfl | rfl | rfl | rfl | rfl | rfl | rfl | rfl | rfl | rfl | rfl | rfl | rfl | rfl | rfl | rfl | rfl | rfl | rfl | rfl | rfl | rfl | rfl | rfl | rfl | rfl | rfl | rfl | rfl | rfl | rfl | rfl | rfl | rfl | rfl | rfl | rfl | rfl | rfl | rfl
      all_goals
        go_enter Tryz.func50, Tryz.ntmps50
        go_wp2_with fail
        go_ret
        exact ⟨rfl, rfl⟩
    · have d1 : decide ((1 : Int) ≤ R) = true := decide_eq_true h1
      have d2 : decide (R ≤ (64 : Int)) = false := decide_eq_false h2
      have HR := Lib.hid (ringB_hi (R := R) (by omega))
      clear h1 h2
      go_enter Tryz.func50, Tryz.ntmps50
      go_wp2_with fail
      go_ret
      exact ⟨by rw [HR.out]; rfl, rfl⟩
  · have d1 : decide ((1 : Int) ≤ R) = false := decide_eq_false h1
    have HR := Lib.hid (ringB_lo (R := R) (by omega))
    clear h1
    go_enter Tryz.func50, Tryz.ntmps50
    go_wp2_with fail
    go_ret
    exact ⟨by rw [HR.out]; rfl, rfl⟩
end Go.Proofs.YtdbaacalfbbdiaaGreatDoor.Md
namespace Go.Proofs.YtdbaacalfbbdiaaGreatDoor.Md
open Go.RowKit Gr Fault
set_option linter.unusedVariables false
set_option linter.unusedSimpArgs false

/-- What is wrong with a Plan: the graph ahead of the numbers. -/
noncomputable def planV (n : Int) (E : List Ed) (I : List Int) (T R S K : Int) : List Pl × Int :=
  if (chkV n E I).2 ≠ 0 then chkV n E I
  else if T < 1 ∨ 8 < T then ([(⟨#[116, 104, 114, 101, 97, 100, 115]⟩, T)], 1)
  else if ringB R = false then ([(⟨#[114, 105, 110, 103]⟩, R)], 1)
  else if S < 1 ∨ 8 < S then ([(⟨#[115, 104, 97, 114, 100, 115]⟩, S)], 1)
  else if K < 1 ∨ 8 < K then ([(⟨#[116, 114, 105, 101, 115]⟩, K)], 1)
  else ([], 0)
theorem cells7 {w : World} {b : Nat} {T : TypeId} {v0 v1 v2 v3 v4 v5 v6 : Value} (h : w.heap[b]? = some (.cells #[v0, v1, v2, v3, v4, v5, v6] T (0, 0))) :
    w.cell? ⟨b, 0, none⟩ = some v0 ∧ w.cell? ⟨b, 1, none⟩ = some v1 ∧ w.cell? ⟨b, 2, none⟩ = some v2 ∧ w.cell? ⟨b, 3, none⟩ = some v3 ∧ w.cell? ⟨b, 4, none⟩ = some v4 ∧ w.cell? ⟨b, 5, none⟩ = some v5 ∧ w.cell? ⟨b, 6, none⟩ = some v6 := by
  simp [World.cell?, h]
set_option maxRecDepth 1000000 in
set_option maxHeartbeats 16000000 in
theorem mdCheck_any {w : World} {ve vi : Value} {E : List Ed} {I : List Int} (n T R S K : Int) (hv : Rd w ve E) (hi : RdI w vi I) :
    Calls Tryz.prog 22 #[.agg #[.int .i64 n, ve, vi, .int .i64 T, .int .i64 R, .int .i64 S, .int .i64 K]] w fun e w' => ∃ v, e = .returned v ∧ ErrIs w' v (planV n E I T R S K) ∧ Below w.heap.size w w' := by
  have HV := Lib.hid hv
  have HI := Lib.hid hi
  obtain ⟨ao, cap, rfl, _⟩ := hv
  obtain ⟨aoi, capi, rfl, _⟩ := hi
  obtain ⟨w1, hw1⟩ : ∃ w1, w1 = w.alloc (.cells #[.int .i64 n, .slice ao E.length cap, .slice aoi I.length capi, .int .i64 T, .int .i64 R, .int .i64 S, .int .i64 K] 58) := ⟨_, rfl⟩
  have HX := Lib.hid (show w1.heap[w.heap.size]? = some (.cells #[.int .i64 n, .slice ao E.length cap, .slice aoi I.length capi, .int .i64 T, .int .i64 R, .int .i64 S, .int .i64 K] 58 (0, 0)) by rw [hw1]; exact heap_alloc_new w _)
  have HB := Lib.hid (show Below w.heap.size w w1 by rw [hw1]; exact (Below.refl _ _).alloc (Nat.le_refl _) _)
  have hs1 : w.heap.size < w1.heap.size := (Array.getElem?_eq_some_iff.1 HX.out).1
  go_enter Tryz.func22, Tryz.ntmps22
  go_upto_region 1 with fail
  rw [← hw1]
  clear hw1
  obtain ⟨y0, y1, y2, y3, y4, y5, y6⟩ := cells7 HX.out
  go_wp2_with fail
  go_at_call 42
  refine (check_any n (HV.out.below HB.out) (HI.out.below HB.out)).mono ?_
  rintro e w2 ⟨v, rfl, hE, hb⟩
  have hx2 := (hb.block _ hs1).trans HX.out
  have HB2 := Lib.hid (HB.out.trans (hb.mono HB.out.size))
  clear y0 y1 y2 y3 y4 y5 y6 hs1 hb HV HI
  obtain ⟨y0, y1, y2, y3, y4, y5, y6⟩ := cells7 hx2
  clear hx2 HX HB
  rcases id hE with ⟨hk, _, rfl⟩ | ⟨hk, _, u, x, rfl⟩
  · have HK := Lib.hid hk
    clear hE hk
    by_cases ht1 : T < 1
    · have dt1 : decide (T < 1) = true := decide_eq_true ht1
      have HP := Lib.hid (show planV n E I T R S K = ([(⟨#[116, 104, 114, 101, 97, 100, 115]⟩, T)], 1) from by rw [planV, if_neg (by rw [HK.out]; decide), if_pos (.inl ht1)])
      go_wp2_with fail
      go_at_call 49
      refine (at_chain (l := []) (b := errnoV 1) _ _ rfl (.inl ⟨1, rfl⟩)).mono ?_
      rintro e w3 ⟨blk, rfl, hch, hb3⟩
      have HF := Lib.hid (And.intro hch (HB2.out.trans (hb3.mono HB2.out.size)))
      clear hch hb3
      go_wp2_with fail
      go_ret
      exact ⟨_, rfl, by rw [HP.out]; exact ErrIs.some (by decide) HF.out.1, HF.out.2⟩
    have dt1 : decide (T < 1) = false := decide_eq_false ht1
    by_cases ht2 : 8 < T
    · have dt2 : decide (8 < T) = true := decide_eq_true ht2
      have HP := Lib.hid (show planV n E I T R S K = ([(⟨#[116, 104, 114, 101, 97, 100, 115]⟩, T)], 1) from by rw [planV, if_neg (by rw [HK.out]; decide), if_pos (.inr ht2)])
      go_wp2_with fail
      go_at_call 49
      refine (at_chain (l := []) (b := errnoV 1) _ _ rfl (.inl ⟨1, rfl⟩)).mono ?_
      rintro e w3 ⟨blk, rfl, hch, hb3⟩
      have HF := Lib.hid (And.intro hch (HB2.out.trans (hb3.mono HB2.out.size)))
      clear hch hb3
      go_wp2_with fail
      go_ret
      exact ⟨_, rfl, by rw [HP.out]; exact ErrIs.some (by decide) HF.out.1, HF.out.2⟩
    have dt2 : decide (8 < T) = false := decide_eq_false ht2
    go_wp2_with fail
    go_at_call 50
    refine (mdRing_any R _).mono ?_
    cases hR : ringB R with
    | false =>
      have HP := Lib.hid (show planV n E I T R S K = ([(⟨#[114, 105, 110, 103]⟩, R)], 1) from by rw [planV, if_neg (by rw [HK.out]; decide), if_neg (by omega), if_pos hR])
      rintro e w3 ⟨rfl, rfl⟩
      go_wp2_with fail
      go_at_call 49
      refine (at_chain (l := []) (b := errnoV 1) _ _ rfl (.inl ⟨1, rfl⟩)).mono ?_
      rintro e w3 ⟨blk, rfl, hch, hb3⟩
      have HF := Lib.hid (And.intro hch (HB2.out.trans (hb3.mono HB2.out.size)))
      clear hch hb3
      go_wp2_with fail
      go_ret
      exact ⟨_, rfl, by rw [HP.out]; exact ErrIs.some (by decide) HF.out.1, HF.out.2⟩
    | true =>
      rintro e w3 ⟨rfl, rfl⟩
      by_cases hs1 : S < 1
      · have ds1 : decide (S < 1) = true := decide_eq_true hs1
        have HP := Lib.hid (show planV n E I T R S K = ([(⟨#[115, 104, 97, 114, 100, 115]⟩, S)], 1) from by rw [planV, if_neg (by rw [HK.out]; decide), if_neg (by omega), if_neg (by rw [hR]; decide), if_pos (.inl hs1)])
        go_wp2_with fail
        go_at_call 49
        refine (at_chain (l := []) (b := errnoV 1) _ _ rfl (.inl ⟨1, rfl⟩)).mono ?_
        rintro e w3 ⟨blk, rfl, hch, hb3⟩
        have HF := Lib.hid (And.intro hch (HB2.out.trans (hb3.mono HB2.out.size)))
        clear hch hb3
        go_wp2_with fail
        go_ret
        exact ⟨_, rfl, by rw [HP.out]; exact ErrIs.some (by decide) HF.out.1, HF.out.2⟩
      have ds1 : decide (S < 1) = false := decide_eq_false hs1
      by_cases hs2 : 8 < S
      · have ds2 : decide (8 < S) = true := decide_eq_true hs2
        have HP := Lib.hid (show planV n E I T R S K = ([(⟨#[115, 104, 97, 114, 100, 115]⟩, S)], 1) from by rw [planV, if_neg (by rw [HK.out]; decide), if_neg (by omega), if_neg (by rw [hR]; decide), if_pos (.inr hs2)])
        go_wp2_with fail
        go_at_call 49
        refine (at_chain (l := []) (b := errnoV 1) _ _ rfl (.inl ⟨1, rfl⟩)).mono ?_
        rintro e w3 ⟨blk, rfl, hch, hb3⟩
        have HF := Lib.hid (And.intro hch (HB2.out.trans (hb3.mono HB2.out.size)))
        clear hch hb3
        go_wp2_with fail
        go_ret
        exact ⟨_, rfl, by rw [HP.out]; exact ErrIs.some (by decide) HF.out.1, HF.out.2⟩
      have ds2 : decide (8 < S) = false := decide_eq_false hs2
      by_cases hk1 : K < 1
      · have dk1 : decide (K < 1) = true := decide_eq_true hk1
        have HP := Lib.hid (show planV n E I T R S K = ([(⟨#[116, 114, 105, 101, 115]⟩, K)], 1) from by rw [planV, if_neg (by rw [HK.out]; decide), if_neg (by omega), if_neg (by rw [hR]; decide), if_neg (by omega), if_pos (.inl hk1)])
        go_wp2_with fail
        go_at_call 49
        refine (at_chain (l := []) (b := errnoV 1) _ _ rfl (.inl ⟨1, rfl⟩)).mono ?_
        rintro e w3 ⟨blk, rfl, hch, hb3⟩
        have HF := Lib.hid (And.intro hch (HB2.out.trans (hb3.mono HB2.out.size)))
        clear hch hb3
        go_wp2_with fail
        go_ret
        exact ⟨_, rfl, by rw [HP.out]; exact ErrIs.some (by decide) HF.out.1, HF.out.2⟩
      have dk1 : decide (K < 1) = false := decide_eq_false hk1
      by_cases hk2 : 8 < K
      · have dk2 : decide (8 < K) = true := decide_eq_true hk2
        have HP := Lib.hid (show planV n E I T R S K = ([(⟨#[116, 114, 105, 101, 115]⟩, K)], 1) from by rw [planV, if_neg (by rw [HK.out]; decide), if_neg (by omega), if_neg (by rw [hR]; decide), if_neg (by omega), if_pos (.inr hk2)])
        go_wp2_with fail
        go_at_call 49
        refine (at_chain (l := []) (b := errnoV 1) _ _ rfl (.inl ⟨1, rfl⟩)).mono ?_
        rintro e w3 ⟨blk, rfl, hch, hb3⟩
        have HF := Lib.hid (And.intro hch (HB2.out.trans (hb3.mono HB2.out.size)))
        clear hch hb3
        go_wp2_with fail
        go_ret
        exact ⟨_, rfl, by rw [HP.out]; exact ErrIs.some (by decide) HF.out.1, HF.out.2⟩
      have dk2 : decide (8 < K) = false := decide_eq_false hk2
      have HP := Lib.hid (show planV n E I T R S K = ([], 0) from by rw [planV, if_neg (by rw [HK.out]; decide), if_neg (by omega), if_neg (by rw [hR]; decide), if_neg (by omega), if_neg (by omega)])
      go_wp2_with fail
      go_ret
      exact ⟨_, rfl, by rw [HP.out]; exact ErrIs.none _, HB2.out⟩
  · have HP := Lib.hid (show planV n E I T R S K = chkV n E I from if_pos hk)
    have HE := Lib.hid hE
    clear hE hk
    go_wp2_with fail
    go_ret
    exact ⟨_, rfl, by rw [HP.out]; exact HE.out, HB2.out⟩
end Go.Proofs.YtdbaacalfbbdiaaGreatDoor.Md
