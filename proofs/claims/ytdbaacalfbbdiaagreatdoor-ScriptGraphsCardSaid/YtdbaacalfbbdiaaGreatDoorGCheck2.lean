/-
  PACKAGE graph: checkInputs, checkCycles, Check, Paths.
-/
import Derived.Test.YtdbaacalfbbdiaaGreatDoorGCheck
import Derived.Test.YtdbaacalfbbdiaaGreatDoorGWays
namespace Go.Proofs.YtdbaacalfbbdiaaGreatDoor.Gr
open Go.RowKit Fault
set_option linter.unusedVariables false

def chkI (n : Int) (I : List Int) : List Pl × Int := if I.length = 0 ∨ 8 < I.length then ([], 4) else inputsV n 0 [] I
theorem chkI_many {n : Int} {I : List Int} (h : I.length = 0 ∨ 8 < I.length) : chkI n I = ([], 4) := if_pos h
theorem chkI_few {n : Int} {I : List Int} (h : ¬ (I.length = 0 ∨ 8 < I.length)) : chkI n I = inputsV n 0 [] I := if_neg h

set_option maxRecDepth 1000000 in
set_option maxHeartbeats 8000000 in
theorem checkInputs_any {w : World} {ve vi : Value} {I : List Int} (n : Int) (hv : RdI w vi I) :
    Calls Tryz.prog 67 #[.agg #[.int .i64 n, ve, vi]] w fun e w' => ∃ v, e = .returned v ∧ ErrIs w' v (chkI n I) ∧ Below w.heap.size w w' := by
  have HRI := Lib.hid hv
  obtain ⟨ao, cap, rfl, hlc, hcm, hwf, hcell⟩ := hv
  have HC := Lib.hid hcell
  have hlen : I.length ≤ 9223372036854775807 := by omega
  have HLC := Lib.hid hlc
  have HCM := Lib.hid hcm
  clear hcell hwf
  obtain ⟨w1, hw1⟩ : ∃ w1, w1 = w.alloc (.cells #[.int .i64 n, ve, .slice ao I.length cap] 47) := ⟨_, rfl⟩
  have hsz : w1.heap.size = w.heap.size + 1 := by rw [hw1]; simp
  have HB0 := Lib.hid (show Below w.heap.size w w1 by rw [hw1]; exact (Below.refl _ _).alloc (Nat.le_refl _) _)
  have b0 : w1.cell? ⟨w.heap.size, 0, none⟩ = some (.int .i64 n) := by rw [hw1]; simp
  have b1 : w1.cell? ⟨w.heap.size, 1, none⟩ = some ve := by rw [hw1]; simp
  have b2 : w1.cell? ⟨w.heap.size, 2, none⟩ = some (.slice ao I.length cap) := by rw [hw1]; simp
  have HBX := Lib.hid (show ∀ wr, Below (w.heap.size + 1) w1 wr → wr.cell? ⟨w.heap.size, 0, none⟩ = some (.int .i64 n) ∧ wr.cell? ⟨w.heap.size, 1, none⟩ = some ve ∧ wr.cell? ⟨w.heap.size, 2, none⟩ = some (.slice ao I.length cap) from fun wr h => ⟨(h.cell (p := ⟨w.heap.size, 0, none⟩) (Nat.lt_succ_self _)).trans b0, (h.cell (p := ⟨w.heap.size, 1, none⟩) (Nat.lt_succ_self _)).trans b1, (h.cell (p := ⟨w.heap.size, 2, none⟩) (Nat.lt_succ_self _)).trans b2⟩)
  have HSZ := Lib.hid hsz
  have HW1 := Lib.hid hw1
  clear b0 b1 b2 hsz hlc hcm
  by_cases hz : I.length = 0
  · have HM := Lib.hid (chkI_many (n := n) (.inl hz))
    have hzi : ((I.length : Int) == 0) = true := by rw [hz]; rfl
    clear hz hw1
    go_enter Tryz.func67, Tryz.ntmps67
    go_wp2_with fail
    go_ret
    refine ⟨_, rfl, ?_, by rw [← HW1.out]; exact HB0.out⟩
    rw [HM.out]
    exact ErrIs.some (by decide) rfl
  have hzi : ((I.length : Int) == 0) = false := by rw [beq_eq_false_iff_ne]; omega
  by_cases hm : 8 < I.length
  · have HM := Lib.hid (chkI_many (n := n) (.inr hm))
    have hm' : (8 : Int) < (I.length : Int) := by omega
    clear hm hw1 hz
    go_enter Tryz.func67, Tryz.ntmps67
    go_wp2_with fail
    go_ret
    refine ⟨_, rfl, ?_, by rw [← HW1.out]; exact HB0.out⟩
    rw [HM.out]
    exact ErrIs.some (by decide) rfl
  · have hm' : ¬ ((8 : Int) < (I.length : Int)) := by omega
    have HM := Lib.hid (chkI_few (n := n) (I := I) (fun h => h.elim hz hm))
    have HAS := Lib.hid (fun W p => has_any n p ve (.slice ao I.length cap) W)
    clear hm hw1 hz
    go_enter Tryz.func67, Tryz.ntmps67
    go_wp2_with fail
    go_loopg [19] I.length (fun m t wr => ∃ k : Nat, k + m = I.length ∧ t = .int .i64 (k : Int) ∧ InOk n I k ∧ Below (w.heap.size + 1) w1 wr)
    case atStart => exact ⟨0, by omega, rfl, fun j p hj => by omega, by rw [← HW1.out]; exact Below.refl _ _⟩
    case round =>
      obtain ⟨k, hkm, rfl, hok, hbw⟩ := hrel
      have HKM := Lib.hid hkm
      have HOK := Lib.hid hok
      have HBW := Lib.hid hbw
      obtain ⟨b0, b1, b2⟩ := HBX.out wr hbw
      have hbs : w.heap.size + 1 ≤ wr.heap.size := by have := hbw.size; have := HSZ.out; omega
      have hblt : w.heap.size < wr.heap.size := hbs
      clear hkm hok hbw
      by_cases hk : k < I.length
      · obtain ⟨x, hx, hxm⟩ := at_ofI hk
        obtain ⟨b, off, hao, hcc⟩ := HC.out.resolve_left (by intro e; rw [e] at hk; simp at hk)
        subst hao
        have hcx := hcc k x hx
        have hbl := Lib.lt_of_cell hcx
        have c0 := (HBW.out.cell (p := ⟨b, off + k, none⟩) (Nat.lt_succ_of_lt hbl)).trans ((HB0.out.cell (p := ⟨b, off + k, none⟩) hbl).trans hcx)
        have hk0 : (0 : Int) ≤ (k : Int) := Int.natCast_nonneg _
        have hk1 : (k : Int) < (I.length : Int) := by omega
        have hkc : (k : Int) ≤ (cap : Int) := by have := HLC.out; omega
        have hkcn : k ≤ cap := by have := HLC.out; omega
        have hcapb : cap ≤ 9223372036854775807 := HCM.out
        have HX := Lib.hid hx
        have HK := Lib.hid hk
        have HA1 := Lib.hid (HAS.out wr x)
        have HTK := Lib.hid ((HRI.out).take k (Nat.le_of_lt hk) cap hkcn HCM.out)
        by_cases hf : inP n x
        · have hdf : decide (inP n x) = true := decide_eq_true hf
          rw [hdf] at HA1
          by_cases hd : x ∈ I.take k
          · have hdd : decide (x ∈ I.take k) = true := decide_eq_true hd
            have HV := Lib.hid (inputsV_twice HOK.out HX.out hf hd)
            have HCT := Lib.hid (fun W (h : RdI W (.slice (some ⟨b, off, none⟩) k cap) (I.take k)) => show Calls _ _ _ W fun e w' => e = .returned (.bool true) ∧ W = w' by have := contains_any x h; rw [hdd] at this; exact this)
            clear hf hdf hd hdd hx hxm hcc hcx hbl hk
            go_wp2_with fail
            go_at_call 86
            refine HA1.out.mono ?_
            rintro e w3 ⟨rfl, hb3⟩
            have hb4 := HBW.out.trans (hb3.mono hbs)
            obtain ⟨b0, b1, b2⟩ := HBX.out w3 hb4
            have HB4 := Lib.hid hb4
            have HT3 := Lib.hid (HTK.out.below (HB0.out.trans (hb4.mono (Nat.le_succ _))))
            clear hb3 hb4
            go_wp2_with fail
            go_at_call 87
            refine (HCT.out _ HT3.out).mono ?_
            rintro e w4 ⟨rfl, rfl⟩
            go_wp2_with fail
            go_at_call 49
            refine (at_chain (l := []) (b := errnoV 1) _ _ rfl (.inl ⟨1, rfl⟩)).mono ?_
            rintro e w5 ⟨blk, rfl, hch, hb6⟩
            have HCH := Lib.hid hch
            have HB6 := Lib.hid (HB4.out.trans (hb6.mono (by have := HB4.out.size; have := HSZ.out; omega)))
            clear hch hb6
            go_wp2_with fail
            go_ret
            refine ⟨_, rfl, ?_, HB0.out.trans (HB6.out.mono (Nat.le_succ _))⟩
            rw [HM.out, HV.out]
            exact ErrIs.some (by decide) HCH.out
          · have hdd : decide (x ∈ I.take k) = false := decide_eq_false hd
            have HN := Lib.hid (HOK.out.step HX.out hf hd)
            have HCT := Lib.hid (fun W (h : RdI W (.slice (some ⟨b, off, none⟩) k cap) (I.take k)) => show Calls _ _ _ W fun e w' => e = .returned (.bool false) ∧ W = w' by have := contains_any x h; rw [hdd] at this; exact this)
            clear hf hdf hd hdd hx hxm hcc hcx hbl hk
            go_wp2_with fail
            go_at_call 86
            refine HA1.out.mono ?_
            rintro e w3 ⟨rfl, hb3⟩
            have hb4 := HBW.out.trans (hb3.mono hbs)
            obtain ⟨b0, b1, b2⟩ := HBX.out w3 hb4
            have HB4 := Lib.hid hb4
            have HT3 := Lib.hid (HTK.out.below (HB0.out.trans (hb4.mono (Nat.le_succ _))))
            clear hb3 hb4
            go_wp2_with fail
            go_at_call 87
            refine (HCT.out _ HT3.out).mono ?_
            rintro e w4 ⟨rfl, rfl⟩
            go_wp2_with fail
            go_roundg (gk - 1)
            case measure => have := HKM.out; have := HK.out; omega
            case rel => exact ⟨k + 1, by have := HKM.out; have := HK.out; omega, by go_num, HN.out, HB4.out⟩
        · have hdf : decide (inP n x) = false := decide_eq_false hf
          have HV := Lib.hid (inputsV_out HOK.out HX.out hf)
          rw [hdf] at HA1
          clear hf hdf hx hxm hcc hcx hbl hk
          go_wp2_with fail
          go_at_call 86
          refine HA1.out.mono ?_
          rintro e w3 ⟨rfl, hb3⟩
          have HB4 := Lib.hid (HBW.out.trans (hb3.mono hbs))
          clear hb3
          go_wp2_with fail
          go_at_call 49
          refine (at_chain (l := []) (b := errnoV 2) _ _ rfl (.inl ⟨2, rfl⟩)).mono ?_
          rintro e w5 ⟨blk, rfl, hch, hb6⟩
          have HCH := Lib.hid hch
          have HB6 := Lib.hid (HB4.out.trans (hb6.mono (by have := HB4.out.size; have := HSZ.out; omega)))
          clear hch hb6
          go_wp2_with fail
          go_ret
          refine ⟨_, rfl, ?_, HB0.out.trans (HB6.out.mono (Nat.le_succ _))⟩
          rw [HM.out, HV.out]
          exact ErrIs.some (by decide) HCH.out
      · obtain rfl : I.length = k := by have := HKM.out; omega
        have HV := Lib.hid (inputsV_ok HOK.out)
        go_wp2_with fail
        go_ret
        refine ⟨_, rfl, ?_, HB0.out.trans (HBW.out.mono (Nat.le_succ _))⟩
        rw [HM.out, HV.out]
        exact ErrIs.none _

set_option maxRecDepth 1000000 in
set_option maxHeartbeats 8000000 in
theorem checkCycles_any {w : World} {ve vi : Value} {E : List Ed} {n : Nat} (hv : Rd w ve E) (hE : Fits E n) (h0 : 1 ≤ n) (h1 : n ≤ 64) (hl : E.length ≤ 100000) :
    Calls Tryz.prog 68 #[.agg #[.int .i64 (n : Int), ve, vi]] w fun e w' => ∃ v, e = .returned v ∧ ErrIs w' v (cycV (cycO E n)) ∧ Below w.heap.size w w' := by
  have hal : Below w.heap.size w (w.alloc (.cells #[.int .i64 (n : Int), ve, vi] 47)) := (Below.refl _ _).alloc (Nat.le_refl _) _
  have HWY := Lib.hid (ways_any (vi := vi) (hv.below hal) hE h0 h1 hl)
  have HAL := Lib.hid hal
  have HE := Lib.hid hE
  obtain ⟨ao, cap, rfl, _⟩ := hv
  clear hal hE
  go_enter Tryz.func68, Tryz.ntmps68
  go_wp2_with fail
  go_at_call 88
  refine HWY.out.mono ?_
  rintro e w1 ⟨v, M, rfl, ⟨g, r, rfl, hmat⟩, hL, hb1⟩
  have HMAT := Lib.hid hmat
  have HL := Lib.hid hL
  have HB1 := Lib.hid (HAL.out.trans (hb1.mono HAL.out.size))
  have hnb : n ≤ 9223372036854775807 := by omega
  clear hmat hL hb1
  go_wp2_with fail
  go_loopg [8] n (fun m t wr => ∃ p : Nat, p + m = n ∧ t = .int .i64 (p : Int) ∧ (∀ q, q < p → ¬ Round E (q : Nat)) ∧ wr = w1)
  case atStart => exact ⟨0, by omega, rfl, fun q hq => by omega, rfl⟩
  case round =>
    obtain ⟨p, hpm, rfl, hno, hwr⟩ := hrel
    subst wr
    have HPM := Lib.hid hpm
    have HNO := Lib.hid hno
    clear hpm hno
    by_cases hp : p < n
    · have hp0 : (0 : Int) ≤ (p : Int) := Int.natCast_nonneg _
      have hp1 : (p : Int) < (n : Int) := by omega
      have g0 := HMAT.out.top.cell hp
      have r0 := (HMAT.out.row p hp).cell hp
      have HR := Lib.hid (round_prog HE.out (HL.out p p hp hp))
      have HP := Lib.hid hp
      obtain ⟨m0, hm0⟩ : ∃ m, m = M p p := ⟨_, rfl⟩
      rw [← hm0] at r0 HR
      clear hm0 hp
      by_cases hz : m0 = 0
      · have HC := Lib.hid (cycO_eq (E := E) (n := n) (o := some p) (.inl ⟨p, rfl, HP.out, HR.out.1 hz, HNO.out⟩))
        have hzb : (m0 == 0) = true := by rw [beq_iff_eq]; exact hz
        clear hz
        go_wp2_with fail
        go_at_call 49
        refine (at_chain (l := []) (b := errnoV 3) _ _ rfl (.inl ⟨3, rfl⟩)).mono ?_
        rintro e w5 ⟨blk, rfl, hch, hb6⟩
        have HCH := Lib.hid hch
        have HB6 := Lib.hid (HB1.out.trans (hb6.mono HB1.out.size))
        clear hch hb6
        go_wp2_with fail
        go_ret
        refine ⟨_, rfl, ?_, HB6.out⟩
        rw [HC.out]
        exact ErrIs.some (by decide) HCH.out
      · have HN := Lib.hid (show ∀ q, q < p + 1 → ¬ Round E (q : Nat) from fun q hq => by
          by_cases e : q = p
          · subst e; exact fun h => hz (HR.out.2 h)
          · exact HNO.out q (by omega))
        have hzb : (m0 == 0) = false := by rw [beq_eq_false_iff_ne]; exact hz
        clear hz
        go_wp2_with fail
        go_roundg (gk - 1)
        case measure => have := HPM.out; have := HP.out; omega
        case rel => exact ⟨p + 1, by have := HPM.out; have := HP.out; omega, by go_num, HN.out, rfl⟩
    · have HC := Lib.hid (cycO_eq (E := E) (n := n) (o := none) (.inr ⟨rfl, fun q hq => HNO.out q (by omega)⟩))
      go_wp2_with fail
      go_ret
      refine ⟨_, rfl, ?_, HB1.out⟩
      rw [HC.out]
      exact ErrIs.none _

theorem edgesV_fits {n : Int} {E : List Ed} (hw : ∀ x ∈ E, x.Wf) (h : (edgesV n 0 E).2 = 0) : ∀ y ∈ E, inP n y.f ∧ inP n y.t := by
  have go : ∀ (l : List Ed) (i : Nat), (edgesV n i l).2 = 0 → ∀ y ∈ l, inP n y.f ∧ inP n y.t := by
    intro l
    induction l with
    | nil => simp
    | cons x r ih =>
      intro i h
      rw [edgesV] at h
      split at h
      · exact absurd h (show (2 : Int) ≠ 0 by decide)
      · rename_i hf
        split at h
        · exact absurd h (show (2 : Int) ≠ 0 by decide)
        · rename_i ht
          intro y hy
          rcases List.mem_cons.1 hy with rfl | hy
          · exact ⟨Decidable.not_not.1 hf, Decidable.not_not.1 ht⟩
          · exact ih _ h y hy
  exact go E 0 h
theorem fits_of {n : Nat} {E : List Ed} (hw : ∀ x ∈ E, x.Wf) (h : (edgesV (n : Int) 0 E).2 = 0) : Fits E n := fun e he => by
  have h1 := edgesV_fits hw h e he
  have h2 := hw e he
  exact ⟨h1.1.1, h1.1.2, h1.2.1, h1.2.2, h2.a0, h2.a1⟩

set_option maxRecDepth 1000000 in
set_option maxHeartbeats 8000000 in
theorem check_any {w : World} {ve vi : Value} {E : List Ed} {I : List Int} (n : Int) (hv : Rd w ve E) (hi : RdI w vi I) :
    Calls Tryz.prog 42 #[.agg #[.int .i64 n, ve, vi]] w fun e w' => ∃ v, e = .returned v ∧ ErrIs w' v (chkV n E I) ∧ Below w.heap.size w w' := by
  obtain ⟨w1, hw1⟩ : ∃ w1, w1 = w.alloc (.cells #[.int .i64 n, ve, vi] 47) := ⟨_, rfl⟩
  have hsz : w1.heap.size = w.heap.size + 1 := by rw [hw1]; simp
  have hb0 : Below w.heap.size w w1 := by rw [hw1]; exact (Below.refl _ _).alloc (Nat.le_refl _) _
  have b0 : w1.cell? ⟨w.heap.size, 0, none⟩ = some (.int .i64 n) := by rw [hw1]; simp
  have b1 : w1.cell? ⟨w.heap.size, 1, none⟩ = some ve := by rw [hw1]; simp
  have b2 : w1.cell? ⟨w.heap.size, 2, none⟩ = some vi := by rw [hw1]; simp
  have HBX := Lib.hid (show ∀ wr, Below w1.heap.size w1 wr → wr.cell? ⟨w.heap.size, 0, none⟩ = some (.int .i64 n) ∧ wr.cell? ⟨w.heap.size, 1, none⟩ = some ve ∧ wr.cell? ⟨w.heap.size, 2, none⟩ = some vi from fun wr h => ⟨(h.cell (p := ⟨w.heap.size, 0, none⟩) (by rw [hsz]; exact Nat.lt_succ_self _)).trans b0, (h.cell (p := ⟨w.heap.size, 1, none⟩) (by rw [hsz]; exact Nat.lt_succ_self _)).trans b1, (h.cell (p := ⟨w.heap.size, 2, none⟩) (by rw [hsz]; exact Nat.lt_succ_self _)).trans b2⟩)
  have HV := Lib.hid (hv.below hb0)
  have HI := Lib.hid (hi.below hb0)
  have HB0 := Lib.hid hb0
  have HW1 := Lib.hid hw1
  have HWF := Lib.hid hv.wf
  have HCE := Lib.hid (checkEdges_any (vi := vi) n HV.out)
  obtain ⟨ao, cap, rfl, _⟩ := hv
  obtain ⟨aoi, capi, rfl, _⟩ := hi
  clear b0 b1 b2 hsz hb0
  by_cases hn0 : n < 1
  · have HR := Lib.hid (show chkV n E I = ([], 2) from if_pos (.inl hn0))
    clear hw1
    go_enter Tryz.func42, Tryz.ntmps42
    go_wp2_with fail
    go_ret
    refine ⟨_, rfl, ?_, by rw [← HW1.out]; exact HB0.out⟩
    rw [HR.out]
    exact ErrIs.some (by decide) rfl
  by_cases hn1 : 64 < n
  · have HR := Lib.hid (show chkV n E I = ([], 2) from if_pos (.inr hn1))
    clear hw1
    go_enter Tryz.func42, Tryz.ntmps42
    go_wp2_with fail
    go_ret
    refine ⟨_, rfl, ?_, by rw [← HW1.out]; exact HB0.out⟩
    rw [HR.out]
    exact ErrIs.some (by decide) rfl
  obtain ⟨m, hm⟩ : ∃ m : Nat, n = m := ⟨n.toNat, by omega⟩
  subst hm
  have hm0 : 1 ≤ m := by omega
  have hm1 : m ≤ 64 := by omega
  rw [HW1.out] at HCE
  clear hw1
  go_enter Tryz.func42, Tryz.ntmps42
  go_wp2_with fail
  go_at_call 66
  refine HCE.out.mono ?_
  rw [← HW1.out]
  rintro e w2 ⟨v1, rfl, her, hb2⟩
  obtain ⟨b0, b1, b2⟩ := HBX.out w2 hb2
  have HB2 := Lib.hid (HB0.out.trans (hb2.mono HB0.out.size))
  rcases her with ⟨hk, hl0, rfl⟩ | ⟨hk, hch, u, x, rfl⟩
  · have hE256 : ¬ 256 < E.length := fun h => by rw [chkE_many h] at hk; exact absurd hk (by decide)
    rw [chkE_few hE256] at hk
    have HEK := Lib.hid hk
    have HE256 := Lib.hid hE256
    have HFT := Lib.hid (fits_of HWF.out hk)
    have HCI := Lib.hid (checkInputs_any (ve := .slice ao E.length cap) (m : Int) (HI.out.below hb2))
    have HV2 := Lib.hid (HV.out.below hb2)
    have HB12 := Lib.hid hb2
    clear hk hl0 hb2 hE256
    go_wp2_with fail
    go_at_call 67
    refine HCI.out.mono ?_
    rintro e w3 ⟨v2, rfl, her, hb3⟩
    have hb13 := HB12.out.trans (hb3.mono HB12.out.size)
    obtain ⟨b0, b1, b2⟩ := HBX.out w3 hb13
    have HB3 := Lib.hid (HB2.out.trans (hb3.mono HB2.out.size))
    rcases her with ⟨hk, hl0, rfl⟩ | ⟨hk, hch, u, x, rfl⟩
    · have hI8 : ¬ (I.length = 0 ∨ 8 < I.length) := fun h => by rw [chkI_many h] at hk; exact absurd hk (by decide)
      rw [chkI_few hI8] at hk
      have HR := Lib.hid (show chkV (m : Int) E I = cycV (cycO E m) by
        unfold chkV
        rw [if_neg (by omega), if_neg HE256.out, if_neg (fun h => h HEK.out), if_neg hI8, if_neg (fun h => h hk), Int.toNat_natCast])
      have HCC := Lib.hid (checkCycles_any (vi := .slice aoi I.length capi) (HV2.out.below hb3) HFT.out hm0 hm1 (by have := HE256.out; omega))
      clear hk hl0 hb3 hb13 hI8
      go_wp2_with fail
      go_at_call 68
      refine HCC.out.mono ?_
      rintro e w4 ⟨v3, rfl, her, hb4⟩
      have HER := Lib.hid her
      have HB4 := Lib.hid (HB3.out.trans (hb4.mono HB3.out.size))
      clear her hb4
      go_wp2_with fail
      go_ret
      refine ⟨_, rfl, ?_, HB4.out⟩
      rw [HR.out]
      exact HER.out
    · have HR := Lib.hid (show chkV (m : Int) E I = chkI (m : Int) I by
        unfold chkV chkI
        rw [if_neg (by omega), if_neg HE256.out, if_neg (fun h => h HEK.out)]
        by_cases h8 : I.length = 0 ∨ 8 < I.length
        · rw [if_pos h8, if_pos h8]
        · rw [chkI_few h8] at hk
          rw [if_neg h8, if_neg h8, if_pos hk])
      have HER := Lib.hid (show ErrIs w3 (.iface u x) (chkI (m : Int) I) from .inr ⟨hk, hch, u, x, rfl⟩)
      clear hk hch hb3 hb13
      go_wp2_with fail
      go_ret
      refine ⟨_, rfl, ?_, HB3.out⟩
      rw [HR.out]
      exact HER.out
  · have HR := Lib.hid (show chkV (m : Int) E I = chkE (m : Int) E by
      unfold chkV chkE
      rw [if_neg (by omega)]
      by_cases h8 : 256 < E.length
      · rw [if_pos h8, if_pos h8]
      · rw [chkE_few h8] at hk
        rw [if_neg h8, if_neg h8, if_pos hk])
    have HER := Lib.hid (show ErrIs w2 (.iface u x) (chkE (m : Int) E) from .inr ⟨hk, hch, u, x, rfl⟩)
    clear hk hch hb2
    go_wp2_with fail
    go_ret
    refine ⟨_, rfl, ?_, HB2.out⟩
    rw [HR.out]
    exact HER.out
end Go.Proofs.YtdbaacalfbbdiaaGreatDoor.Gr
