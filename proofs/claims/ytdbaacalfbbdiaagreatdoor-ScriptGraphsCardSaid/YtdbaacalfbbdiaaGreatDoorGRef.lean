/-
  PACKAGE marchlandref05: Check, Paths.
-/
import Derived.Test.YtdbaacalfbbdiaaGreatDoorGErr
import Derived.Test.YtdbaacalfbbdiaaGreatDoorGClosed
import Derived.Test.YtdbaacalfbbdiaaGreatDoorGCheck2
namespace Go.Proofs.YtdbaacalfbbdiaaGreatDoor.Gr
open Go.RowKit Fault
set_option linter.unusedVariables false

/-- A slice of places, as it reads. -/
def RdP (w : World) (v : Value) (l : List Pl) : Prop := ∃ (ao : Option Addr) (cap : Nat), v = .slice ao l.length cap ∧ (l = [] ∨ ∃ b off, ao = some ⟨b, off, none⟩ ∧ ∀ (i : Nat) (s : ByteArray) (n : Int), l[i]? = some (s, n) → w.cell? ⟨b, off + i * 2, none⟩ = some (.string s) ∧ w.cell? ⟨b, off + i * 2 + 1, none⟩ = some (.int .i64 n))
theorem RdP.nil (w : World) : RdP w (.slice none 0 0) [] := ⟨none, 0, rfl, .inl rfl⟩
theorem RdP.below {w w' : World} {v : Value} {l : List Pl} (h : RdP w v l) (hw : Below w.heap.size w w') : RdP w' v l := by
  obtain ⟨ao, cap, rfl, h4⟩ := h
  refine ⟨ao, cap, rfl, ?_⟩
  rcases h4 with h4 | ⟨b, off, ha, h4⟩
  · exact .inl h4
  · refine .inr ⟨b, off, ha, fun i s n hx => ?_⟩
    obtain ⟨h1, h2⟩ := h4 i s n hx
    have hb := Lib.lt_of_cell h1
    exact ⟨(hw.cell (p := ⟨b, off + i * 2, none⟩) hb).trans h1, (hw.cell (p := ⟨b, off + i * 2 + 1, none⟩) hb).trans h2⟩
theorem rdp_one (w : World) (s : ByteArray) (n : Int) (T : TypeId) : RdP (w.alloc (.cells #[.string s, .int .i64 n] T)) (.slice (some ⟨w.heap.size, 0, none⟩) 1 1) [(s, n)] := by
  refine ⟨_, _, rfl, .inr ⟨w.heap.size, 0, rfl, fun i s' n' hx => ?_⟩⟩
  have hi : i = 0 := by have := (List.getElem?_eq_some_iff.1 hx).1; simp at this; exact this
  subst hi
  simp at hx
  obtain ⟨rfl, rfl⟩ := hx
  exact ⟨by simp, by simp⟩
theorem rdp_two (w : World) (s s2 : ByteArray) (n n2 : Int) (T : TypeId) : RdP (w.alloc (.cells #[.string s, .int .i64 n, .string s2, .int .i64 n2] T)) (.slice (some ⟨w.heap.size, 0, none⟩) 2 2) [(s, n), (s2, n2)] := by
  refine ⟨_, _, rfl, .inr ⟨w.heap.size, 0, rfl, fun i s' n' hx => ?_⟩⟩
  have hi : i < 2 := by have := (List.getElem?_eq_some_iff.1 hx).1; simpa using this
  rcases (show i = 0 ∨ i = 1 by omega) with rfl | rfl
  · simp at hx
    obtain ⟨rfl, rfl⟩ := hx
    exact ⟨by simp, by simp⟩
  · simp at hx
    obtain ⟨rfl, rfl⟩ := hx
    exact ⟨by simp, by simp⟩

set_option maxRecDepth 1000000 in
set_option maxHeartbeats 16000000 in
theorem refcheck_any {w : World} {ve vi : Value} {E : List Ed} {I : List Int} (n : Int) (hv : Rd w ve E) (hi : RdI w vi I) :
    Calls Tryz.prog 46 #[.agg #[.int .i64 n, ve, vi]] w fun e w' => ∃ (v : Value) (k : Int), (e = .returned (.tuple #[v, .int .i64 k])) ∧ RdP w' v (chkV n E I).1 ∧ k = (chkV n E I).2 ∧ Below w.heap.size w w' := by
  have HVE := Lib.hid hv
  have HRI := Lib.hid hi
  have HWF := Lib.hid hv.wf
  obtain ⟨ao, cap, rfl, hlc, hcm, _, hcell⟩ := hv
  obtain ⟨aoi, capi, rfl, hlci, hcmi, _, hcelli⟩ := hi
  have HC := Lib.hid hcell
  have HCI := Lib.hid hcelli
  have hlen : E.length ≤ 9223372036854775807 := by omega
  have hleni : I.length ≤ 9223372036854775807 := by omega
  clear hcell hcelli hlc hcm hlci hcmi
  obtain ⟨w1, hw1⟩ : ∃ w1, w1 = w.alloc (.cells #[.int .i64 n, .slice ao E.length cap, .slice aoi I.length capi] 44) := ⟨_, rfl⟩
  have hsz : w1.heap.size = w.heap.size + 1 := by rw [hw1]; simp
  have hb0 : Below w.heap.size w w1 := by rw [hw1]; exact (Below.refl _ _).alloc (Nat.le_refl _) _
  have b0 : w1.cell? ⟨w.heap.size, 0, none⟩ = some (.int .i64 n) := by rw [hw1]; simp
  have b1 : w1.cell? ⟨w.heap.size, 1, none⟩ = some (.slice ao E.length cap) := by rw [hw1]; simp
  have b2 : w1.cell? ⟨w.heap.size, 2, none⟩ = some (.slice aoi I.length capi) := by rw [hw1]; simp
  have HBX := Lib.hid (show ∀ wr, Below w1.heap.size w1 wr → wr.cell? ⟨w.heap.size, 0, none⟩ = some (.int .i64 n) ∧ wr.cell? ⟨w.heap.size, 1, none⟩ = some (.slice ao E.length cap) ∧ wr.cell? ⟨w.heap.size, 2, none⟩ = some (.slice aoi I.length capi) from fun wr h => ⟨(h.cell (p := ⟨w.heap.size, 0, none⟩) (by rw [hsz]; exact Nat.lt_succ_self _)).trans b0, (h.cell (p := ⟨w.heap.size, 1, none⟩) (by rw [hsz]; exact Nat.lt_succ_self _)).trans b1, (h.cell (p := ⟨w.heap.size, 2, none⟩) (by rw [hsz]; exact Nat.lt_succ_self _)).trans b2⟩)
  have HB0 := Lib.hid hb0
  have HSZ := Lib.hid hsz
  have HW1 := Lib.hid hw1
  have HB1 := Lib.hid (show Below w.heap.size w (w.alloc (.cells #[.int .i64 n, .slice ao E.length cap, .slice aoi I.length capi] 44)) by rw [← hw1]; exact hb0)
  clear b0 b1 b2 hsz hb0
  by_cases hn0 : n < 1
  · have HR := Lib.hid (show chkV n E I = ([], 2) from if_pos (.inl hn0))
    clear hw1
    go_enter Tryz.func46, Tryz.ntmps46
    go_wp2_with fail
    go_ret2
    refine ⟨_, _, rfl, ?_, ?_, HB1.out⟩
    · rw [HR.out]; exact RdP.nil _
    · rw [HR.out]
  by_cases hn1 : 64 < n
  · have HR := Lib.hid (show chkV n E I = ([], 2) from if_pos (.inr hn1))
    clear hw1
    go_enter Tryz.func46, Tryz.ntmps46
    go_wp2_with fail
    go_ret2
    refine ⟨_, _, rfl, ?_, ?_, HB1.out⟩
    · rw [HR.out]; exact RdP.nil _
    · rw [HR.out]
  obtain ⟨m, hm⟩ : ∃ m : Nat, n = m := ⟨n.toNat, by omega⟩
  subst hm
  have hm0 : 1 ≤ m := by omega
  have hm1 : m ≤ 64 := by omega
  by_cases hE256 : 256 < E.length
  · have HR := Lib.hid (show chkV (m : Int) E I = ([], 4) by unfold chkV; rw [if_neg (by omega), if_pos hE256])
    have h256 : (256 : Int) < (E.length : Int) := by omega
    clear hw1 hE256
    go_enter Tryz.func46, Tryz.ntmps46
    go_wp2_with fail
    go_ret2
    refine ⟨_, _, rfl, ?_, ?_, HB1.out⟩
    · rw [HR.out]; exact RdP.nil _
    · rw [HR.out]
  have h256 : ¬ ((256 : Int) < (E.length : Int)) := by omega
  have HE256 := Lib.hid hE256
  have hmi1 : (1 : Int) ≤ (m : Int) := by omega
  have hmi2 : (m : Int) ≤ 64 := by omega
  have HEV := Lib.hid (show (edgesV (m : Int) 0 E).2 ≠ 0 → chkV (m : Int) E I = edgesV (m : Int) 0 E by
    intro h
    unfold chkV
    rw [if_neg (by omega), if_neg hE256, if_pos h])
  clear hw1 hn0 hn1
  go_enter Tryz.func46, Tryz.ntmps46
  go_wp2_with fail
  go_loopg [4] E.length (fun q t wr => ∃ k : Nat, k + q = E.length ∧ t = .int .i64 (k : Int) ∧ (∀ y ∈ E.take k, inP m y.f ∧ inP m y.t) ∧ wr = w1)
  case atStart => exact ⟨0, by omega, rfl, by simp, HW1.out.symm⟩
  case round =>
    obtain ⟨k, hkm, rfl, hok, hwr⟩ := hrel
    subst wr
    have HKM := Lib.hid hkm
    have HOK := Lib.hid hok
    obtain ⟨b0, b1, b2⟩ := HBX.out w1 (Below.refl _ _)
    clear hkm hok
    by_cases hk : k < E.length
    · obtain ⟨x, hx, hxm⟩ := at_of hk
      obtain ⟨b, off, hao, hcc⟩ := HC.out.resolve_left (by intro e; rw [e] at hk; simp at hk)
      subst hao
      obtain ⟨c0, c1, c2⟩ := (hcc k x hx).below HB0.out (hcc k x hx).lt
      have hk0 : (0 : Int) ≤ (k : Int) := Int.natCast_nonneg _
      have hk1 : (k : Int) < (E.length : Int) := by omega
      have HX := Lib.hid hx
      have HK := Lib.hid hk
      by_cases hf : inP m x.f
      · by_cases ht : inP m x.t
        · have HN := Lib.hid (show ∀ y ∈ E.take (k + 1), inP m y.f ∧ inP m y.t by
            intro y hy
            rw [take_succ' HX.out] at hy
            rcases List.mem_append.1 hy with hy | hy
            · exact HOK.out y hy
            · simp at hy; subst hy; exact ⟨hf, ht⟩)
          have hf0 : ¬ (x.f < 0) := by have := hf.1; omega
          have hf1 : ¬ ((m : Int) ≤ x.f) := by have := hf.2; omega
          have ht0 : ¬ (x.t < 0) := by have := ht.1; omega
          have ht1 : ¬ ((m : Int) ≤ x.t) := by have := ht.2; omega
          obtain ⟨xf, xt, xa⟩ := x
          simp only at c0 c1 c2 hf0 hf1 ht0 ht1
          clear hf ht hx hxm hcc hk
          go_wp2_with fail
          go_roundg (gk - 1)
          case measure => have := HKM.out; have := HK.out; omega
          case rel => exact ⟨k + 1, by have := HKM.out; have := HK.out; omega, by go_num, HN.out, rfl⟩
        · have HV := Lib.hid (edgesV_t HOK.out HX.out hf ht)
          have HR := Lib.hid ((HEV.out (by rw [HV.out]; exact (show (2 : Int) ≠ 0 by decide))).trans HV.out)
          have hf0 : ¬ (x.f < 0) := by have := hf.1; omega
          have hf1 : ¬ ((m : Int) ≤ x.f) := by have := hf.2; omega
          have HTT := Lib.hid (show x.t < 0 ∨ (m : Int) ≤ x.t by unfold inP at ht; omega)
          obtain ⟨xf, xt, xa⟩ := x
          simp only at c0 c1 c2 hf0 hf1 HTT HR
          clear hf ht hx hxm hcc hk
          by_cases ht0 : xt < 0
          case' neg => have ht1 : (m : Int) ≤ xt := HTT.out.resolve_left ht0
          all_goals
            go_wp2_with fail
            go_ret2
            refine ⟨_, _, rfl, ?_, ?_, HB0.out.alloc (by have := HSZ.out; omega) _⟩
            · rw [HR.out]; exact rdp_two w1 edgeS toS (k : Int) xt _
            · rw [HR.out]
      · have HV := Lib.hid (edgesV_f HOK.out HX.out hf)
        have HR := Lib.hid ((HEV.out (by rw [HV.out]; exact (show (2 : Int) ≠ 0 by decide))).trans HV.out)
        have HTT := Lib.hid (show x.f < 0 ∨ (m : Int) ≤ x.f by unfold inP at hf; omega)
        obtain ⟨xf, xt, xa⟩ := x
        simp only at c0 c1 c2 HTT HR
        clear hf hx hxm hcc hk
        by_cases ht0 : xf < 0
        case' neg => have ht1 : (m : Int) ≤ xf := HTT.out.resolve_left ht0
        all_goals
          go_wp2_with fail
          go_ret2
          refine ⟨_, _, rfl, ?_, ?_, HB0.out.alloc (by have := HSZ.out; omega) _⟩
          · rw [HR.out]; exact rdp_two w1 edgeS fromS (k : Int) xf _
          · rw [HR.out]
    · have HEK := Lib.hid (edgesV_ok (n := (m : Int)) (l := E) (fun y hy => HOK.out y (by rw [take_all (by omega)]; exact hy)))
      have HFT := Lib.hid (fits_of HWF.out (by rw [HEK.out]))
      clear HEV HOK
      by_cases hz : I.length = 0
      · have HR := Lib.hid (show chkV (m : Int) E I = ([], 4) by
          unfold chkV
          rw [if_neg (by omega), if_neg HE256.out, if_neg (fun h => h (by rw [HEK.out])), if_pos (.inl hz)])
        have hzi : ¬ ((8 : Int) < (I.length : Int)) := by omega
        have hzi2 : (I.length : Int) < 1 := by omega
        clear hz
        go_wp2_with fail
        go_ret2
        refine ⟨_, _, rfl, ?_, ?_, HB0.out⟩
        · rw [HR.out]; exact RdP.nil _
        · rw [HR.out]
      by_cases h8 : 8 < I.length
      · have HR := Lib.hid (show chkV (m : Int) E I = ([], 4) by
          unfold chkV
          rw [if_neg (by omega), if_neg HE256.out, if_neg (fun h => h (by rw [HEK.out])), if_pos (.inr h8)])
        have hzi : ((8 : Int) < (I.length : Int)) := by omega
        clear hz h8
        go_wp2_with fail
        go_ret2
        refine ⟨_, _, rfl, ?_, ?_, HB0.out⟩
        · rw [HR.out]; exact RdP.nil _
        · rw [HR.out]
      have hzi : ¬ ((8 : Int) < (I.length : Int)) := by omega
      have hzi2 : ¬ ((I.length : Int) < 1) := by omega
      have HIV := Lib.hid (show (inputsV (m : Int) 0 [] I).2 ≠ 0 → chkV (m : Int) E I = inputsV (m : Int) 0 [] I by
        intro h
        unfold chkV
        rw [if_neg (by omega), if_neg HE256.out, if_neg (fun h => h (by rw [HEK.out])), if_neg (by omega), if_pos h])
      have HCV := Lib.hid (show (inputsV (m : Int) 0 [] I).2 = 0 → chkV (m : Int) E I = cycV (cycO E m) by
        intro h
        unfold chkV
        rw [if_neg (by omega), if_neg HE256.out, if_neg (fun h => h (by rw [HEK.out])), if_neg (by omega), if_neg (fun h' => h' h), Int.toNat_natCast])
      clear hz h8
      go_wp2_with fail
      clear b0 b1 b2
      go_loopg [7] I.length (fun q t wr => ∃ k2 : Nat, k2 + q = I.length ∧ t = .int .i64 (k2 : Int) ∧ InOk m I k2 ∧ Below w1.heap.size w1 wr)
      case atStart => exact ⟨0, by omega, rfl, fun j p hj => by omega, Below.refl _ _⟩
      case round =>
        obtain ⟨k2, hkm2, rfl, hok, hbw⟩ := hrel
        have HKM2 := Lib.hid hkm2
        have HOK := Lib.hid hok
        have HBW := Lib.hid hbw
        obtain ⟨b0, b1, b2⟩ := HBX.out wr hbw
        clear hkm2 hok hbw
        by_cases hk2 : k2 < I.length
        · obtain ⟨x, hx, hxm⟩ := at_ofI hk2
          obtain ⟨b, off, hao, hcc⟩ := HCI.out.resolve_left (by intro e; rw [e] at hk2; simp at hk2)
          subst hao
          have hcx := hcc k2 x hx
          have hbl := Lib.lt_of_cell hcx
          have c0 := (HBW.out.cell (p := ⟨b, off + k2, none⟩) (Nat.lt_of_lt_of_le hbl HB0.out.size)).trans ((HB0.out.cell (p := ⟨b, off + k2, none⟩) hbl).trans hcx)
          have hk0 : (0 : Int) ≤ (k2 : Int) := Int.natCast_nonneg _
          have hk1 : (k2 : Int) < (I.length : Int) := by omega
          have HX := Lib.hid hx
          have HK2 := Lib.hid hk2
          have HCC := Lib.hid hcc
          by_cases hf : inP m x
          · have hf0 : ¬ (x < 0) := by have := hf.1; omega
            have hf1 : ¬ ((m : Int) ≤ x) := by have := hf.2; omega
            have HF := Lib.hid hf
            clear hf hx hxm hcc hcx hk2
            go_wp2_with fail
            go_quiet (fail)
            go_wp2_with fail
            clear b0 b1 b2 c0
            go_loopg [8] k2 (fun q t wr => ∃ j : Nat, j + q = k2 ∧ t = .int .i64 (j : Int) ∧ x ∉ I.take j ∧ Below w1.heap.size w1 wr)
            case atStart => exact ⟨0, by omega, rfl, by simp, below_drewN HBW.out _⟩
            case round =>
              obtain ⟨j, hjm, rfl, hno, hbw3⟩ := hrel
              have HJM := Lib.hid hjm
              have HNO := Lib.hid hno
              have HBW3 := Lib.hid hbw3
              obtain ⟨b0, b1, b2⟩ := HBX.out wr hbw3
              clear hjm hno hbw3
              by_cases hj : j < k2
              · obtain ⟨y, hy, hym⟩ := at_ofI (l := I) (i := j) (by have := HK2.out; omega)
                have hcy := HCC.out j y hy
                have hcx := HCC.out k2 x HX.out
                have d0 := (HBW3.out.cell (p := ⟨b, off + j, none⟩) (Nat.lt_of_lt_of_le hbl HB0.out.size)).trans ((HB0.out.cell (p := ⟨b, off + j, none⟩) hbl).trans hcy)
                have d1 := (HBW3.out.cell (p := ⟨b, off + k2, none⟩) (Nat.lt_of_lt_of_le hbl HB0.out.size)).trans ((HB0.out.cell (p := ⟨b, off + k2, none⟩) hbl).trans hcx)
                have hj0 : (0 : Int) ≤ (j : Int) := Int.natCast_nonneg _
                have hj1 : (j : Int) < (I.length : Int) := by have := HK2.out; omega
                have hj2 : (j : Int) < (k2 : Int) := by omega
                have HY := Lib.hid hy
                have HJ := Lib.hid hj
                clear hcy hcx hy hym hj
                by_cases hxy : y = x
                · have hb : (y == x) = true := by rw [beq_iff_eq]; exact hxy
                  have HV := Lib.hid (inputsV_twice HOK.out HX.out HF.out (by
                    have h1 : I[j]? = some x := by rw [← hxy]; exact HY.out
                    have h2 : (I.take k2)[j]? = some x := by rw [List.getElem?_take_of_lt HJ.out]; exact h1
                    exact List.mem_of_getElem? h2))
                  have HR := Lib.hid ((HIV.out (by rw [HV.out]; exact (show (1 : Int) ≠ 0 by decide))).trans HV.out)
                  have HBE := Lib.hid (fun q => (HB0.out.trans ((below_drewN HBW3.out q).mono HB0.out.size)))
                  clear hxy
                  go_wp2_with fail
                  go_quiet (fail)
                  go_wp2_with fail
                  go_ret2
                  refine ⟨_, _, rfl, ?_, ?_, (HBE.out _).alloc (HBE.out _).size _⟩
                  · rw [HR.out]; exact rdp_one _ inputS (k2 : Int) _
                  · rw [HR.out]
                · have hb : (y == x) = false := by rw [beq_eq_false_iff_ne]; exact hxy
                  have HN := Lib.hid (show x ∉ I.take (j + 1) by
                    rw [take_succ' HY.out]
                    intro h
                    rcases List.mem_append.1 h with h | h
                    · exact HNO.out h
                    · simp at h; exact hxy h.symm)
                  clear hxy
                  go_wp2_with fail
                  go_quiet (fail)
                  go_wp2_with fail
                  go_roundg (gk - 1)
                  case measure => have := HJM.out; have := HJ.out; omega
                  case rel => exact ⟨j + 1, by have := HJM.out; have := HJ.out; omega, by go_num, HN.out, below_drewN HBW3.out _⟩
              · obtain rfl : k2 = j := by have := HJM.out; omega
                have HN := Lib.hid (HOK.out.step HX.out HF.out HNO.out)
                go_wp2_with fail
                go_roundg (I.length - (k2 + 1))
                case measure => have := HKM2.out; have := HK2.out; omega
                case rel => exact ⟨k2 + 1, by have := HKM2.out; have := HK2.out; omega, by go_num, HN.out, HBW3.out⟩
          · have HV := Lib.hid (inputsV_out HOK.out HX.out hf)
            have HR := Lib.hid ((HIV.out (by rw [HV.out]; exact (show (2 : Int) ≠ 0 by decide))).trans HV.out)
            have HTT := Lib.hid (show x < 0 ∨ (m : Int) ≤ x by unfold inP at hf; omega)
            have HBE := Lib.hid (fun q => (HB0.out.trans ((below_drewN HBW.out q).mono HB0.out.size)))
            clear hf hx hxm hcc hcx hk2
            by_cases ht0 : x < 0
            case' neg => have ht1 : (m : Int) ≤ x := HTT.out.resolve_left ht0
            all_goals
              go_wp2_with fail
              go_quiet (fail)
              go_wp2_with fail
              go_ret2
              refine ⟨_, _, rfl, ?_, ?_, (HBE.out _).alloc (HBE.out _).size _⟩
              · rw [HR.out]; exact rdp_one _ inputS (k2 : Int) _
              · rw [HR.out]
        · obtain rfl : I.length = k2 := by have := HKM2.out; omega
          have HR := Lib.hid (HCV.out (by rw [inputsV_ok HOK.out]))
          have HCL := Lib.hid (closed_any (vi := .slice aoi I.length capi) (HVE.out.below (HB0.out.trans (HBW.out.mono HB0.out.size))) HFT.out hm0 hm1 (by have := HE256.out; omega))
          clear HIV HCV HOK
          go_wp2_with fail
          go_at_call 70
          refine HCL.out.mono ?_
          rintro e w2 ⟨v, M, rfl, ⟨g, r, rfl, hmat⟩, hL, hb2⟩
          have HMAT := Lib.hid hmat
          have HL := Lib.hid hL
          have HB2 := Lib.hid (HBW.out.trans (hb2.mono HBW.out.size))
          clear hmat hL hb2 b0 b1 b2
          go_wp2_with fail
          go_loopg [10] m (fun q t wr => ∃ p : Nat, p + q = m ∧ t = .int .i64 (p : Int) ∧ (∀ q, q < p → ¬ Round E (q : Nat)) ∧ Below w2.heap.size w2 wr)
          case atStart => exact ⟨0, by omega, rfl, fun q hq => by omega, Below.refl _ _⟩
          case round =>
            obtain ⟨p, hpm, rfl, hno, hbw3⟩ := hrel
            have HPM := Lib.hid hpm
            have HNO := Lib.hid hno
            have HBW3 := Lib.hid hbw3
            obtain ⟨b0, b1, b2⟩ := HBX.out wr (HB2.out.trans (hbw3.mono HB2.out.size))
            clear hpm hno hbw3
            by_cases hp : p < m
            · have hp0 : (0 : Int) ≤ (p : Int) := Int.natCast_nonneg _
              have hp1 : (p : Int) < (m : Int) := by omega
              have HP := Lib.hid hp
              clear hp
              go_wp2_with fail
              clear b0 b1 b2
              go_loopg [11] E.length (fun q t wr => ∃ k : Nat, k + q = E.length ∧ t = .int .i64 (k : Int) ∧ (∀ e ∈ E.take k, ¬ (e.f = (p : Int) ∧ e.a = 0 ∧ M e.t.toNat p = 0)) ∧ Below w2.heap.size w2 wr)
              case atStart => exact ⟨0, by omega, rfl, by simp, HBW3.out⟩
              case round =>
                obtain ⟨k3, hkm3, rfl, hno3, hbw4⟩ := hrel
                have HKM3 := Lib.hid hkm3
                have HNO3 := Lib.hid hno3
                have HBW4 := Lib.hid hbw4
                obtain ⟨b0, b1, b2⟩ := HBX.out wr (HB2.out.trans (hbw4.mono HB2.out.size))
                clear hkm3 hno3 hbw4
                by_cases hk3 : k3 < E.length
                · obtain ⟨x, hx, hxm⟩ := at_of hk3
                  obtain ⟨b, off, hao, hcc⟩ := HC.out.resolve_left (by intro e; rw [e] at hk3; simp at hk3)
                  subst hao
                  have q1 := (hcc k3 x hx).below HB0.out (hcc k3 x hx).lt
                  have q2 := q1.below (HB2.out.trans (HBW4.out.mono HB2.out.size)) (by have := (hcc k3 x hx).lt; have := HSZ.out; omega)
                  have hbl := (hcc k3 x hx).lt
                  have hfit := HFT.out x hxm
                  obtain ⟨c0, c1, c2⟩ := q2
                  obtain ⟨f, hf⟩ : ∃ f : Nat, x.f = f := ⟨x.f.toNat, by omega⟩
                  obtain ⟨t, ht⟩ : ∃ t : Nat, x.t = t := ⟨x.t.toNat, by omega⟩
                  have htn : t < m := by omega
                  have hk30 : (0 : Int) ≤ (k3 : Int) := Int.natCast_nonneg _
                  have hk31 : (k3 : Int) < (E.length : Int) := by omega
                  have ht0 : (0 : Int) ≤ (t : Int) := Int.natCast_nonneg _
                  have ht1 : (t : Int) < (m : Int) := by omega
                  have HMB := Lib.hid (HMAT.out.below HBW4.out)
                  have g0 := HMB.out.top.cell htn
                  have r0 := (HMB.out.row t htn).cell HP.out
                  have hgl : g < wr.heap.size := HMB.out.top.lt
                  have hrl : r t < wr.heap.size := (HMB.out.row t htn).lt
                  have hbw : b < wr.heap.size := by have h1 := (HB0.out.trans ((HB2.out.trans (HBW4.out.mono HB2.out.size)).mono HB0.out.size)).size; omega
                  have HX := Lib.hid hx
                  have HXM := Lib.hid hxm
                  have HK3 := Lib.hid hk3
                  have HSTEP := Lib.hid (show ¬ (x.f = (p : Int) ∧ x.a = 0 ∧ M x.t.toNat p = 0) → ∀ e ∈ E.take (k3 + 1), ¬ (e.f = (p : Int) ∧ e.a = 0 ∧ M e.t.toNat p = 0) by
                    intro hn e he
                    rw [take_succ' HX.out] at he
                    rcases List.mem_append.1 he with he | he
                    · exact HNO3.out e he
                    · simp at he; subst he; exact hn)
                  have HTN : x.t.toNat = t := by rw [ht]; rfl
                  have HRD := Lib.hid (round_ref HFT.out (p := (p : Int)) (D := fun z => M z.toNat p) (fun e he => by
                    have h1 := HFT.out e he
                    have h2 := HL.out e.t.toNat p (by omega) HP.out
                    rwa [show ((e.t.toNat : Nat) : Int) = e.t by omega] at h2))
                  have HRY := Lib.hid (show x.f = (p : Int) ∧ x.a = 0 ∧ M t p = 0 → Round E (p : Nat) from fun h => HRD.out.1 ⟨x, HXM.out, h.1, h.2.1, by show M x.t.toNat p = 0; rw [HTN]; exact h.2.2⟩)
                  rw [HTN] at HSTEP
                  obtain ⟨m0, hm00⟩ : ∃ q, q = M t p := ⟨_, rfl⟩
                  rw [← hm00] at r0 HSTEP HRY
                  obtain ⟨xf, xt, xa⟩ := x
                  simp only at c0 c1 c2 hf ht HSTEP HRY
                  subst hf ht
                  have hal := HBW4.out.alloc HBW4.out.size (.cells #[.int .i64 (f : Int), .int .i64 (t : Int), .int .u64 xa] 96)
                  have HAL := Lib.hid hal
                  clear hx hxm hcc q1 hbl hfit htn HTN HRD hk3 hal hm00
                  by_cases e1 : (f : Int) = (p : Int)
                  · have eb1 : ((f : Int) == (p : Int)) = true := by rw [beq_iff_eq]; exact e1
                    by_cases e2 : xa = 0
                    · have eb2 : (xa == 0) = true := by rw [beq_iff_eq]; exact e2
                      by_cases e3 : m0 = 0
                      · have eb3 : (m0 == 0) = true := by rw [beq_iff_eq]; exact e3
                        have HC2 := Lib.hid (cycO_eq (E := E) (n := m) (o := some p) (.inl ⟨p, rfl, HP.out, HRY.out ⟨e1, e2, e3⟩, HNO.out⟩))
                        have HBE := Lib.hid (HB0.out.trans ((HB2.out.trans (HAL.out.mono HB2.out.size)).mono HB0.out.size))
                        clear e1 e2 e3
                        go_wp2_with fail
                        go_ret2
                        refine ⟨_, _, rfl, ?_, ?_, HBE.out.alloc HBE.out.size _⟩
                        · rw [HR.out, HC2.out]
                          have h := rdp_one (wr.alloc (.cells #[.int .i64 (f : Int), .int .i64 (t : Int), .int .u64 xa] 96)) portS (p : Int) 124
                          simp only [World.size_alloc] at h
                          exact h
                        · rw [HR.out, HC2.out]; rfl
                      · have eb3 : (m0 == 0) = false := by rw [beq_eq_false_iff_ne]; exact e3
                        have HN := Lib.hid (HSTEP.out fun h => e3 h.2.2)
                        clear e1 e2 e3
                        go_wp2_with fail
                        go_roundg (E.length - (k3 + 1))
                        case measure => have := HKM3.out; have := HK3.out; omega
                        case rel => exact ⟨k3 + 1, by have := HKM3.out; have := HK3.out; omega, by go_num, HN.out, HAL.out⟩
                    · have eb2 : (xa == 0) = false := by rw [beq_eq_false_iff_ne]; exact e2
                      have HN := Lib.hid (HSTEP.out fun h => e2 h.2.1)
                      clear e1 e2
                      go_wp2_with fail
                      go_roundg (E.length - (k3 + 1))
                      case measure => have := HKM3.out; have := HK3.out; omega
                      case rel => exact ⟨k3 + 1, by have := HKM3.out; have := HK3.out; omega, by go_num, HN.out, HAL.out⟩
                  · have eb1 : ((f : Int) == (p : Int)) = false := by rw [beq_eq_false_iff_ne]; exact e1
                    have HN := Lib.hid (HSTEP.out fun h => e1 h.1)
                    clear e1
                    go_wp2_with fail
                    go_roundg (E.length - (k3 + 1))
                    case measure => have := HKM3.out; have := HK3.out; omega
                    case rel => exact ⟨k3 + 1, by have := HKM3.out; have := HK3.out; omega, by go_num, HN.out, HAL.out⟩
                · have HRD := Lib.hid (round_ref HFT.out (p := (p : Int)) (D := fun z => M z.toNat p) (fun e he => by
                    have h1 := HFT.out e he
                    have h2 := HL.out e.t.toNat p (by omega) HP.out
                    rwa [show ((e.t.toNat : Nat) : Int) = e.t by omega] at h2))
                  have HN := Lib.hid (show ∀ q, q < p + 1 → ¬ Round E (q : Nat) from fun q hq => by
                    by_cases e : q = p
                    · subst e
                      intro h
                      obtain ⟨e, he, h1, h2, h3⟩ := HRD.out.2 h
                      exact HNO3.out e (by rw [take_all (by omega)]; exact he) ⟨h1, h2, h3⟩
                    · exact HNO.out q (by omega))
                  go_wp2_with fail
                  go_roundg (m - (p + 1))
                  case measure => have := HPM.out; have := HP.out; omega
                  case rel => exact ⟨p + 1, by have := HPM.out; have := HP.out; omega, by go_num, HN.out, HBW4.out⟩
            · have HC2 := Lib.hid (cycO_eq (E := E) (n := m) (o := none) (.inr ⟨rfl, fun q hq => HNO.out q (by omega)⟩))
              go_wp2_with fail
              go_ret2
              refine ⟨_, _, rfl, ?_, ?_, HB0.out.trans ((HB2.out.trans (HBW3.out.mono HB2.out.size)).mono HB0.out.size)⟩
              · rw [HR.out, HC2.out]; exact RdP.nil _
              · rw [HR.out, HC2.out]; rfl
end Go.Proofs.YtdbaacalfbbdiaaGreatDoor.Gr
