/-
  marchlandref18: Graph. (gen/scrgtext.py)
-/
import Derived.Test.YtdbaacalfbbdiaaGreatDoorScRLine
import Derived.Test.YtdbaacalfbbdiaaGreatDoorScGText
import Derived.Test.YtdbaacalfbbdiaaGreatDoorGRef
namespace Go.Proofs.YtdbaacalfbbdiaaGreatDoor.Sc
open Go.RowKit
set_option linter.unusedVariables false
set_option linter.unusedSimpArgs false
theorem take_snoc {α β : Type} (f : α → β) {l : List α} {i : Nat} {x : α} (h : l[i]? = some x) : (l.take (i + 1)).map f = (l.take i).map f ++ [f x] := by
  rw [List.take_add_one, h, List.map_append]; rfl
theorem take_join {α : Type} (f : α → Bs) {l : List α} {i : Nat} {x : α} (h : l[i]? = some x) (hi : 0 < i) : Lib.join ((l.take (i + 1)).map f) [44] = Lib.join ((l.take i).map f) [44] ++ 44 :: f x := by
  rw [take_snoc f h, join_snoc]
  intro e
  have h1 := congrArg List.length e
  have h2 := (List.getElem?_eq_some_iff.1 h).1
  rw [List.length_map, List.length_take] at h1
  rw [List.length_nil] at h1
  omega
theorem take_join0 {α : Type} (f : α → Bs) {l : List α} {x : α} (h : l[0]? = some x) : Lib.join ((l.take 1).map f) [44] = f x := by
  rw [take_snoc f h, List.take_zero, List.map_nil, List.nil_append, Lib.join_one]
theorem take_bound {α : Type} (f : α → Bs) {M : Nat} {l : List α} (h : ∀ x ∈ l, (f x).length ≤ M) (i : Nat) : (Lib.join ((l.take i).map f) [44]).length ≤ (M + 1) * i := by
  have h1 := join_bound (sep := [44]) (M := M) ((l.take i).map f) (by
    intro y hy
    obtain ⟨x, hx, rfl⟩ := List.mem_map.1 hy
    exact h x (List.mem_of_mem_take hx)) (by simp)
  rw [List.length_map, List.length_take] at h1
  have h2 : (M + 1) * min i l.length ≤ (M + 1) * i := Nat.mul_le_mul_left _ (Nat.min_le_left _ _)
  rw [Nat.mul_comm (M + 1)] at h2
  exact Nat.le_trans h1 (by rw [Nat.mul_comm]; first | omega | (rw [Nat.mul_comm] at h2; omega))
set_option maxRecDepth 1000000 in
set_option maxHeartbeats 16000000 in
theorem refGraph_any {w : World} {ve vi : Value} {E : List Gr.Ed} {I : List Int} (n : Int) (hv : Gr.Rd w ve E) (hi : Gr.RdI w vi I) (hn : -9223372036854775808 ≤ n ∧ n ≤ 9223372036854775807) (hle : E.length ≤ 1000) (hli : I.length ≤ 1000) :
    Calls Tryz.prog 19 #[.agg #[.int .i64 n, ve, vi]] w fun e w' => e = .returned (.string (bs (graphL okG ⟨n, E, I⟩))) ∧ Below w.heap.size w w' := by
  have HV := Lib.hid hv
  have HI := Lib.hid hi
  obtain ⟨ae, ce, rfl, hlc, hcm, hwf, hcell⟩ := id hv
  obtain ⟨ai, ci, rfl, hlci, hcmi, hwfi, hcelli⟩ := id hi
  have HOK := Lib.hid (show okG ⟨n, E, I⟩ = decide ((Gr.chkV n E I).2 = 0) from rfl)
  have HGL := Lib.hid (show graphL okG ⟨n, E, I⟩ = if okG ⟨n, E, I⟩ = true then graphT ⟨n, E, I⟩ else [] from rfl)
  have HNN := Lib.hid (And.intro hn (And.intro hle hli))
  have HC := Lib.hid hcell
  have HW := Lib.hid hwf
  have HCI := Lib.hid hcelli
  have HWI := Lib.hid hwfi
  have HNUM := Lib.hid (fun W => numB_any n hn.1 hn.2 W)
  obtain ⟨NE, hNE⟩ : ∃ k, k = E.length := ⟨_, rfl⟩
  obtain ⟨NI, hNI⟩ : ∃ k, k = I.length := ⟨_, rfl⟩
  rw [← hNE] at hle
  rw [← hNI] at hli
  clear hv hi hn hcell hwf hcelli hwfi hlc hcm hlci hcmi
  obtain ⟨w1, hw1⟩ : ∃ w1, w1 = w.alloc (.cells #[.int .i64 n, .slice ae E.length ce, .slice ai I.length ci] 44) := ⟨_, rfl⟩
  have hx1 : w1.heap[w.heap.size]? = some (.cells #[.int .i64 n, .slice ae E.length ce, .slice ai I.length ci] 44 (0, 0)) := by rw [hw1]; exact heap_alloc_new w _
  have hb1 : Below w.heap.size w w1 := by rw [hw1]; exact (Below.refl _ _).alloc (Nat.le_refl _) _
  obtain ⟨s, hs⟩ : ∃ s, s = w.heap.size := ⟨_, rfl⟩
  rw [← hs] at hx1
  have HS := Lib.hid (Array.getElem?_eq_some_iff.1 hx1).1
  obtain ⟨a0, a1, a2⟩ := cells3 hx1
  have HB1 := Lib.hid hb1
  have HCK := Lib.hid (Gr.refcheck_any n (HV.out.below hb1) (HI.out.below hb1))
  clear hb1 hx1
  rw [← hNE] at a1 hw1 HCK ⊢
  rw [← hNI] at a2 hw1 HCK ⊢
  have HNE := Lib.hid (And.intro hNE hNI)
  clear hNE hNI
  go_enter Tryz.func19, Tryz.ntmps19
  go_upto_region 1 with fail
  rw [← hw1, ← hs]
  clear hw1 hs
  go_wp2_with fail
  go_at_call 46
  refine HCK.out.mono ?_
  rintro e w2 ⟨cv, k, rfl, _, hk, hb2⟩
  have HB2 := Lib.hid (HB1.out.trans (hb2.mono HB1.out.size))
  replace a0 := Kc hb2 HS.out a0
  replace a1 := Kc hb2 HS.out a1
  replace a2 := Kc hb2 HS.out a2
  have HS2 := Lib.hid (Nat.lt_of_lt_of_le HS.out hb2.size)
  clear hb2
  by_cases h0 : (Gr.chkV n E I).2 = 0
  · have HR := Lib.hid (show graphL okG ⟨n, E, I⟩ = graphT ⟨n, E, I⟩ by rw [HGL.out, if_pos (by rw [HOK.out]; exact decide_eq_true h0)])
    obtain rfl : k = 0 := hk.trans h0
    clear h0 hk
    go_wp2_with fail
    go_at_call 38
    refine (HNUM.out _).mono ?_
    rintro e w3 ⟨rfl, hb3⟩
    have HB3 := Lib.hid (HB2.out.trans (hb3.mono HB2.out.size))
    replace a0 := Kc hb3 HS2.out a0
    replace a1 := Kc hb3 HS2.out a1
    replace a2 := Kc hb3 HS2.out a2
    have HS3 := Lib.hid (Nat.lt_of_lt_of_le HS2.out hb3.size)
    have HA := Lib.hid (And.intro a0 (And.intro a1 a2))
    have h32 := Lib.hid (show ({ data := #[32] } : ByteArray) = bs [32] from rfl)
    have h44 := Lib.hid (show ({ data := #[44] } : ByteArray) = bs [44] from rfl)
    have h45 := Lib.hid (show ({ data := #[45] } : ByteArray) = bs [45] from rfl)
    have h47 := Lib.hid (show ({ data := #[47] } : ByteArray) = bs [47] from rfl)
    have HIN := Lib.hid (show (Lib.itoa n).length ≤ 21 from itoa_len HNN.out.1.1 HNN.out.1.2)
    have sn : (bs (Lib.itoa n)).size ≤ 21 := by rw [bs_size]; exact HIN.out
    have HEL := Lib.hid (show ∀ x ∈ E, (edL x).length ≤ 66 from fun x hx => by rw [← edJ_eq]; exact edJ_len (HW.out x hx))
    have HIL := Lib.hid (show ∀ x ∈ I, (Lib.itoa x).length ≤ 21 from fun x hx => itoa_len (HWI.out x hx).1 (HWI.out x hx).2)
    clear hb3
    go_wp2_with fail
    go_loopg [5, 6] (NE + 1) (fun k o t wr => ∃ (i : Nat) (S : ByteArray), i + k = NE + 1 ∧ i ≤ NE ∧ o = .string S ∧ t = .int .i64 i ∧ S = bs (Lib.itoa n ++ 32 :: Lib.join ((E.take i).map edL) [44]) ∧ Below w3.heap.size w3 wr)
    case atStart => exact ⟨0, _, by omega, by omega, rfl, rfl, (by rw [h32.out, bs_app]; rfl), Below.refl _ _⟩
    case round =>
      obtain ⟨i, SA, hik, hil, rfl, rfl, hA, hbw⟩ := hrel
      have HIK := Lib.hid hik
      have HSA := Lib.hid hA
      have HBW := Lib.hid hbw
      have hAz : SA.size ≤ 80000 := by
        rw [hA, bs_size, List.length_append, List.length_cons]
        have h1 := take_bound edL HEL.out i
        have h2 := HIN.out
        omega
      replace a0 := Kc HBW.out HS3.out HA.out.1
      replace a1 := Kc HBW.out HS3.out HA.out.2.1
      replace a2 := Kc HBW.out HS3.out HA.out.2.2
      have HSW := Lib.hid (Nat.lt_of_lt_of_le HS3.out HBW.out.size)
      have hi0 : (0 : Int) ≤ (i : Int) := Int.natCast_nonneg _
      clear hik hA hbw
      by_cases hlt : i < NE
      · obtain ⟨x, hx⟩ : ∃ x, E[i]? = some x := ⟨_, List.getElem?_eq_getElem (by rw [← HNE.out.1]; exact hlt)⟩
        have hwx := HW.out x (List.mem_of_getElem? hx)
        have hne : E ≠ [] := by intro e; rw [e] at hx; simp at hx
        obtain ⟨b, off, hao, hcc⟩ := HC.out.resolve_left hne
        subst hao
        have qc := hcc i x hx
        obtain ⟨c0, c1, c2⟩ := (qc.below HB3.out qc.lt).below HBW.out (Nat.lt_of_lt_of_le qc.lt HB3.out.size)
        have HX := Lib.hid hx
        have HWX := Lib.hid hwx
        obtain ⟨p, t, d⟩ := x
        simp only at c0 c1 c2
        have hi1 : (i : Int) < (NE : Int) := by omega
        have HNP := Lib.hid (fun W => numR_any p HWX.out.f0 HWX.out.f1 W)
        have HNT := Lib.hid (fun W => numR_any t HWX.out.t0 HWX.out.t1 W)
        have HND := Lib.hid (fun W => timeR_any d ⟨HWX.out.a0, HWX.out.a1⟩ W)
        have sp : (bs (Lib.itoa p)).size ≤ 21 := by rw [bs_size]; exact itoa_len HWX.out.f0 HWX.out.f1
        have st : (bs (Lib.itoa t)).size ≤ 21 := by rw [bs_size]; exact itoa_len HWX.out.t0 HWX.out.t1
        have sd : (bs (timeL d)).size ≤ 20 := by rw [bs_size]; exact timeL_len ⟨HWX.out.a0, HWX.out.a1⟩
        have HCH := Lib.hid (show edL ⟨p, t, d⟩ = Lib.itoa p ++ 47 :: (Lib.itoa t ++ 47 :: timeL d) from rfl)
        obtain ⟨SP, hSP⟩ : ∃ S, S = bs (Lib.itoa p) := ⟨_, rfl⟩
        obtain ⟨ST, hST⟩ : ∃ S, S = bs (Lib.itoa t) := ⟨_, rfl⟩
        obtain ⟨SD, hSD⟩ : ∃ S, S = bs (timeL d) := ⟨_, rfl⟩
        rw [← hSP] at sp HNP
        rw [← hST] at st HNT
        rw [← hSD] at sd HND
        have HQ := Lib.hid (And.intro hSP (And.intro hST hSD))
        clear hSP hST hSD hx hne hcc qc hwx HC
        by_cases hz : i = 0
        · subst hz
          simp only [Nat.zero_mul, Nat.add_zero, Nat.zero_add] at c0 c1 c2
          go_upto_region 10 with fail
          go_quiet (first
            | (go_at_call 38; first | with_reducible exact Calls.quiet_of (HNP.out _) | with_reducible exact Calls.quiet_of (HNT.out _))
            | (go_at_call 39; exact Calls.quiet_of (HND.out _)))
          go_wp2_with fail
          go_roundg (NE - 0)
          case measure => have := HIK.out; omega
          case rel =>
            refine ⟨1, _, by have := HIK.out; omega, by omega, rfl, by go_num, ?_, below_drewN HBW.out _⟩
            rw [take_join0 edL HX.out, HCH.out, HSA.out, HQ.out.1, HQ.out.2.1, HQ.out.2.2, h47.out]
            simp only [bs_app]
            exact congrArg bs (by simp [Lib.join])
        · have hz1 : (0 : Int) < (i : Int) := by omega
          go_upto_region 10 with fail
          go_quiet (first
            | (go_at_call 38; first | with_reducible exact Calls.quiet_of (HNP.out _) | with_reducible exact Calls.quiet_of (HNT.out _))
            | (go_at_call 39; exact Calls.quiet_of (HND.out _)))
          go_wp2_with fail
          go_roundg (NE - i)
          case measure => have := HIK.out; omega
          case rel =>
            refine ⟨i + 1, _, by have := HIK.out; omega, by omega, rfl, by go_num, ?_, below_drewN HBW.out _⟩
            rw [take_join edL HX.out (by omega), HCH.out, HSA.out, HQ.out.1, HQ.out.2.1, HQ.out.2.2, h44.out, h47.out]
            simp only [bs_app]
            exact congrArg bs (by simp [Lib.join])
      · have hin : i = NE := by omega
        subst hin
        have HEE := Lib.hid (show E.take i = E from List.take_of_length_le (by rw [HNE.out.1]; exact Nat.le_refl _))
        by_cases he : i = 0
        · have q : ((i : Int) == 0) = true := by rw [he]; rfl
          have HT := Lib.hid (show graphL okG ⟨n, E, I⟩ = (Lib.itoa n ++ [32] ++ [45] ++ [32]) ++ insL I ∧ SA = bs (Lib.itoa n ++ [32]) by
            have e : E = [] := List.length_eq_zero_iff.1 (by rw [← HNE.out.1]; exact he)
            refine ⟨?_, ?_⟩
            · rw [HR.out]
              unfold graphT edsL
              rw [if_pos e]
              simp
            · rw [HSA.out, e]
              simp [Lib.join])
          have hPz : SA.size ≤ 80000 := hAz
          clear he hAz
          obtain ⟨S2, hS2⟩ : ∃ S2, S2 = SA ++ ({ data := #[45] } : ByteArray) ++ ({ data := #[32] } : ByteArray) := ⟨_, rfl⟩
          have HS2X := Lib.hid (show S2 = bs (Lib.itoa n ++ [32] ++ [45] ++ [32]) by rw [hS2, HT.out.2, h45.out, h32.out, bs_app, bs_app])
          go_wp2_with fail
          rw [← hS2]
          clear hS2
          have hS2z : S2.size ≤ 81000 := by
            have h1 := HS2X.out
            rw [h1, bs_size]
            have h2 := HT.out.2
            rw [h2, bs_size] at hPz
            simp only [List.length_append, List.length_cons, List.length_nil] at hPz ⊢
            omega
          have HBK := Lib.hid (HB3.out.trans (HBW.out.mono HB3.out.size))
          clear hPz HIK HBW HSA
          go_loopg [5, 7] (NI + 1) (fun k o t wz => ∃ (j : Nat) (S : ByteArray), j + k = NI + 1 ∧ j ≤ NI ∧ o = .string S ∧ t = .int .i64 j ∧ S = bs ((Lib.itoa n ++ [32] ++ [45] ++ [32]) ++ Lib.join ((I.take j).map Lib.itoa) [44]) ∧ Below wr.heap.size wr wz)
          case atStart => exact ⟨0, S2, by omega, by omega, rfl, rfl, (by rw [HS2X.out, List.take_zero, List.map_nil]; exact congrArg bs (by simp [Lib.join])), Below.refl _ _⟩
          case round =>
            obtain ⟨j, SB, hjk, hjl, rfl, rfl, hB, hbz⟩ := hrel
            have HJK := Lib.hid hjk
            have HSB := Lib.hid hB
            have HBZ := Lib.hid hbz
            have hBz : SB.size ≤ 200000 := by
              rw [hB, bs_size, List.length_append]
              have h1 := take_bound Lib.itoa HIL.out j
              have h2 := HS2X.out
              rw [h2, bs_size] at hS2z
              omega
            replace a2 := Kc HBZ.out HSW.out a2
            have hj0 : (0 : Int) ≤ (j : Int) := Int.natCast_nonneg _
            clear hjk hB hbz
            by_cases hlt2 : j < NI
            · obtain ⟨y, hy⟩ : ∃ y, I[j]? = some y := ⟨_, List.getElem?_eq_getElem (by rw [← HNE.out.2]; exact hlt2)⟩
              have hwy := HWI.out y (List.mem_of_getElem? hy)
              have hne : I ≠ [] := by intro e; rw [e] at hy; simp at hy
              obtain ⟨b, off, hao, hcc⟩ := HCI.out.resolve_left hne
              subst hao
              have qc := hcc j y hy
              have ql := Lib.lt_of_cell qc
              have c0 := Kc HBZ.out (Nat.lt_of_lt_of_le ql HBK.out.size) ((HBK.out.cell (p := ⟨b, off + j, none⟩) ql).trans qc)
              have HX := Lib.hid hy
              have hj1 : (j : Int) < (NI : Int) := by omega
              have HNP := Lib.hid (fun W => numB_any y hwy.1 hwy.2 W)
              have sp : (bs (Lib.itoa y)).size ≤ 21 := by rw [bs_size]; exact itoa_len hwy.1 hwy.2
              obtain ⟨SP, hSP⟩ : ∃ S, S = bs (Lib.itoa y) := ⟨_, rfl⟩
              rw [← hSP] at sp HNP
              have HQ := Lib.hid hSP
              clear hSP hy hne hcc qc hwy ql HCI
              by_cases hz : j = 0
              · subst hz
                simp only [Nat.add_zero] at c0
                go_wp2_with fail
                go_at_call 38
                refine (HNP.out _).mono ?_
                rintro e wy ⟨rfl, hb⟩
                have HBY := Lib.hid (HBZ.out.trans (hb.mono HBZ.out.size))
                clear hb a0 a1 a2 c0
                go_wp2_with fail
                go_roundg (NI - 0)
                case measure => have := HJK.out; omega
                case rel =>
                  refine ⟨1, _, by have := HJK.out; omega, by omega, rfl, by go_num, ?_, HBY.out⟩
                  rw [take_join0 Lib.itoa HX.out, HSB.out, HQ.out]
                  simp only [bs_app]
                  exact congrArg bs (by simp [Lib.join])
              · have hz1 : (0 : Int) < (j : Int) := by omega
                go_wp2_with fail
                go_at_call 38
                refine (HNP.out _).mono ?_
                rintro e wy ⟨rfl, hb⟩
                have HBY := Lib.hid (HBZ.out.trans (hb.mono HBZ.out.size))
                clear hb a0 a1 a2 c0
                go_wp2_with fail
                go_roundg (NI - j)
                case measure => have := HJK.out; omega
                case rel =>
                  refine ⟨j + 1, _, by have := HJK.out; omega, by omega, rfl, by go_num, ?_, HBY.out⟩
                  rw [take_join Lib.itoa HX.out (by omega), HSB.out, HQ.out, h44.out]
                  simp only [bs_app]
                  exact congrArg bs (by simp)
            · have hjn : j = NI := by omega
              have HJE := Lib.hid (show SB = bs (graphL okG ⟨n, E, I⟩) by
                have e : I.take j = I := List.take_of_length_le (by rw [hjn, HNE.out.2]; exact Nat.le_refl _)
                rw [HSB.out, e, HT.out.1]
                rfl)
              subst hjn
              go_wp2_with fail
              go_ret
              exact ⟨congrArg (fun S => Ending.returned (Value.string S)) HJE.out, HBK.out.trans (HBZ.out.mono HBK.out.size)⟩
        · have q : ((i : Int) == 0) = false := by rw [beq_eq_false_iff_ne]; intro e; exact he (by omega)
          have HT := Lib.hid (show graphL okG ⟨n, E, I⟩ = (Lib.itoa n ++ 32 :: Lib.join (E.map edL) [44] ++ [32]) ++ insL I ∧ SA = bs (Lib.itoa n ++ 32 :: Lib.join (E.map edL) [44]) by
            have e : E ≠ [] := fun e => he (by rw [HNE.out.1, e]; rfl)
            refine ⟨?_, ?_⟩
            · rw [HR.out]
              unfold graphT edsL
              rw [if_neg e]
              simp
            · rw [HSA.out, HEE.out])
          have hPz : SA.size ≤ 80000 := hAz
          clear he hAz
          obtain ⟨S2, hS2⟩ : ∃ S2, S2 = SA ++ ({ data := #[32] } : ByteArray) := ⟨_, rfl⟩
          have HS2X := Lib.hid (show S2 = bs (Lib.itoa n ++ 32 :: Lib.join (E.map edL) [44] ++ [32]) by rw [hS2, HT.out.2, h32.out, bs_app])
          go_wp2_with fail
          rw [← hS2]
          clear hS2
          have hS2z : S2.size ≤ 81000 := by
            have h1 := HS2X.out
            rw [h1, bs_size]
            have h2 := HT.out.2
            rw [h2, bs_size] at hPz
            simp only [List.length_append, List.length_cons, List.length_nil] at hPz ⊢
            omega
          have HBK := Lib.hid (HB3.out.trans (HBW.out.mono HB3.out.size))
          clear hPz HIK HBW HSA
          go_loopg [5, 7] (NI + 1) (fun k o t wz => ∃ (j : Nat) (S : ByteArray), j + k = NI + 1 ∧ j ≤ NI ∧ o = .string S ∧ t = .int .i64 j ∧ S = bs ((Lib.itoa n ++ 32 :: Lib.join (E.map edL) [44] ++ [32]) ++ Lib.join ((I.take j).map Lib.itoa) [44]) ∧ Below wr.heap.size wr wz)
          case atStart => exact ⟨0, S2, by omega, by omega, rfl, rfl, (by rw [HS2X.out, List.take_zero, List.map_nil]; exact congrArg bs (by simp [Lib.join])), Below.refl _ _⟩
          case round =>
            obtain ⟨j, SB, hjk, hjl, rfl, rfl, hB, hbz⟩ := hrel
            have HJK := Lib.hid hjk
            have HSB := Lib.hid hB
            have HBZ := Lib.hid hbz
            have hBz : SB.size ≤ 200000 := by
              rw [hB, bs_size, List.length_append]
              have h1 := take_bound Lib.itoa HIL.out j
              have h2 := HS2X.out
              rw [h2, bs_size] at hS2z
              omega
            replace a2 := Kc HBZ.out HSW.out a2
            have hj0 : (0 : Int) ≤ (j : Int) := Int.natCast_nonneg _
            clear hjk hB hbz
            by_cases hlt2 : j < NI
            · obtain ⟨y, hy⟩ : ∃ y, I[j]? = some y := ⟨_, List.getElem?_eq_getElem (by rw [← HNE.out.2]; exact hlt2)⟩
              have hwy := HWI.out y (List.mem_of_getElem? hy)
              have hne : I ≠ [] := by intro e; rw [e] at hy; simp at hy
              obtain ⟨b, off, hao, hcc⟩ := HCI.out.resolve_left hne
              subst hao
              have qc := hcc j y hy
              have ql := Lib.lt_of_cell qc
              have c0 := Kc HBZ.out (Nat.lt_of_lt_of_le ql HBK.out.size) ((HBK.out.cell (p := ⟨b, off + j, none⟩) ql).trans qc)
              have HX := Lib.hid hy
              have hj1 : (j : Int) < (NI : Int) := by omega
              have HNP := Lib.hid (fun W => numB_any y hwy.1 hwy.2 W)
              have sp : (bs (Lib.itoa y)).size ≤ 21 := by rw [bs_size]; exact itoa_len hwy.1 hwy.2
              obtain ⟨SP, hSP⟩ : ∃ S, S = bs (Lib.itoa y) := ⟨_, rfl⟩
              rw [← hSP] at sp HNP
              have HQ := Lib.hid hSP
              clear hSP hy hne hcc qc hwy ql HCI
              by_cases hz : j = 0
              · subst hz
                simp only [Nat.add_zero] at c0
                go_wp2_with fail
                go_at_call 38
                refine (HNP.out _).mono ?_
                rintro e wy ⟨rfl, hb⟩
                have HBY := Lib.hid (HBZ.out.trans (hb.mono HBZ.out.size))
                clear hb a0 a1 a2 c0
                go_wp2_with fail
                go_roundg (NI - 0)
                case measure => have := HJK.out; omega
                case rel =>
                  refine ⟨1, _, by have := HJK.out; omega, by omega, rfl, by go_num, ?_, HBY.out⟩
                  rw [take_join0 Lib.itoa HX.out, HSB.out, HQ.out]
                  simp only [bs_app]
                  exact congrArg bs (by simp [Lib.join])
              · have hz1 : (0 : Int) < (j : Int) := by omega
                go_wp2_with fail
                go_at_call 38
                refine (HNP.out _).mono ?_
                rintro e wy ⟨rfl, hb⟩
                have HBY := Lib.hid (HBZ.out.trans (hb.mono HBZ.out.size))
                clear hb a0 a1 a2 c0
                go_wp2_with fail
                go_roundg (NI - j)
                case measure => have := HJK.out; omega
                case rel =>
                  refine ⟨j + 1, _, by have := HJK.out; omega, by omega, rfl, by go_num, ?_, HBY.out⟩
                  rw [take_join Lib.itoa HX.out (by omega), HSB.out, HQ.out, h44.out]
                  simp only [bs_app]
                  exact congrArg bs (by simp)
            · have hjn : j = NI := by omega
              have HJE := Lib.hid (show SB = bs (graphL okG ⟨n, E, I⟩) by
                have e : I.take j = I := List.take_of_length_le (by rw [hjn, HNE.out.2]; exact Nat.le_refl _)
                rw [HSB.out, e, HT.out.1]
                rfl)
              subst hjn
              go_wp2_with fail
              go_ret
              exact ⟨congrArg (fun S => Ending.returned (Value.string S)) HJE.out, HBK.out.trans (HBZ.out.mono HBK.out.size)⟩
  · have HR := Lib.hid (show graphL okG ⟨n, E, I⟩ = [] by rw [HGL.out, if_neg (by rw [HOK.out, decide_eq_true_eq]; exact h0)])
    have q : (k == 0) = false := by rw [beq_eq_false_iff_ne, hk]; exact h0
    have q2 : k ≠ 0 := by rw [hk]; exact h0
    clear h0 hk
    go_wp2_with fail
    go_ret
    exact ⟨by rw [HR.out]; rfl, HB2.out⟩
end Go.Proofs.YtdbaacalfbbdiaaGreatDoor.Sc
