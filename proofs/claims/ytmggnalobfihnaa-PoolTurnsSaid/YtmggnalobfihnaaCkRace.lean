/-
  PACKAGE clock: Race, Before.
-/
import Derived.Test.YtmggnalobfihnaaCkMeeting
namespace Go.Proofs.Ytmggnalobfihnaa.Ck
open Go.RowKit Rw Mm Go.Maps Pk
set_option linter.unusedVariables false

theorem norm_wf {l m : List Ev} {nw nt : Nat} (h : Norm l m nw nt) (hl : ∀ x ∈ l, evK.wf x) (hw : nw ≤ 100000) (ht : nt ≤ 100000) : ∀ x ∈ m, evK.wf x := by
  intro x hx
  obtain ⟨i, hi⟩ := List.mem_iff_getElem?.1 hx
  obtain ⟨a, ha⟩ := h.back hi
  by_cases ta : Th a
  · obtain ⟨h1, h2, h3, h4, h5⟩ := h.yes i a x ha hi ta
    unfold Th at ta
    exact ⟨⟨by omega, by omega⟩, ⟨by rw [h1]; omega, by rw [h1]; omega⟩, ⟨by omega, by omega⟩⟩
  · have := h.no i a x ha hi ta
    subst this
    exact ⟨⟨by decide, by decide⟩, ⟨by decide, by decide⟩, ⟨by decide, by decide⟩⟩
theorem firstW_bd {m : List Ev} {who x y : Int} (h : FirstW m who x y) : (x = -1 ∧ y = -1) ∨ ∃ i k : Nat, x = (i : Int) ∧ y = (k : Int) ∧ i < k ∧ k < m.length := by
  rcases h with ⟨h1, h2, _⟩ | ⟨i, k, a, h1, h2, _, _, h3, _⟩
  · exact .inl ⟨h1, h2⟩
  · obtain ⟨h4, _, e, _, he, _⟩ := h3
    exact .inr ⟨i, k, h1, h2, h4, (List.getElem?_eq_some_iff.1 he).1⟩
def RaceQ (l : List Ev) (w : World) (r : Ending) (w' : World) : Prop := ∃ x y, r = .returned (.tuple #[.int .i64 x, .int .i64 y]) ∧ IsFirst l x y ∧ Below w.heap.size w w'
set_option maxRecDepth 1000000 in
set_option maxHeartbeats 16000000 in
theorem race_any {w : World} {v : Value} {l : List Ev} (hv : Rr evK w v l) (hl : l.length ≤ 20000) : Calls Try.prog 21 #[v] w (RaceQ l w) := by
  have HV := Lib.hid hv
  have HL := Lib.hid hl
  clear hv hl
  go_enter Try.func21, Try.ntmps21
  go_wp2_with fail
  go_at_call 39
  refine (numbered_any HV.out HL.out).mono ?_
  rintro r w1 ⟨g, K, T, M, rfl, hp, how, hb1⟩
  have hno := numP_end hp
  have hkk := hp.kk
  have hkt := hp.kt
  have hml := hp.len
  have hL := HL.out
  have HNO := Lib.hid hno
  have HG := Lib.hid hno.gd
  have HM := Lib.hid (how.sl (norm_wf hno HV.out.wf (by omega) (by omega))).rr
  have HB1 := Lib.hid hb1
  have HU0 := Lib.hid (upto_start hno.gd)
  have hk1 : K.length ≤ 20000 := by omega
  have ht1 : T.length ≤ 20000 := by omega
  have HML := Lib.hid hml
  clear hp how hno hb1 hkk hkt hml
  go_wp2_with fail
  go_loopg [0, 6, 7, 18] K.length (fun k s0 s6 s7 t wr => ∃ (q c : Nat) (x y : Int), q + k = K.length ∧ t = .int .i64 (q : Int) ∧ s0 = .slice (some ⟨g, 0, none⟩) c l.length ∧ s6 = .int .i64 x ∧ s7 = .int .i64 y ∧ Hid (Upto M q x y c) ∧ Hid (Below w1.heap.size w1 wr))
  case atStart => exact ⟨0, l.length, -1, -1, by omega, by first | rfl | simp, rfl, rfl, rfl, by rw [← HML.out]; exact HU0, Lib.hid (Below.refl _ _)⟩
  case round =>
    obtain ⟨q, c, x, y, hqk, rfl, rfl, rfl, rfl, HU, HB⟩ := hrel
    clear HU0
    have HQK := Lib.hid hqk
    have hq0 : (0 : Int) ≤ (q : Int) := Int.natCast_nonneg _
    by_cases hlt : q < K.length
    · have hq1 : (q : Int) < (K.length : Int) := by omega
      have HLT := Lib.hid hlt
      have hcl := (upto_len HU.out).1
      have hcl2 : c ≤ l.length := by have := HML.out; omega
      have HR := Lib.hid ((HM.out.below HB.out).take hcl2)
      have HTL : Hid ((M.take c).length = c) := Lib.hid (by rw [List.length_take]; omega)
      have HCL := Lib.hid hcl
      have HCL2 := Lib.hid hcl2
      clear hqk hlt hcl hcl2
      go_wp2_with fail
      go_at_call 40
      refine (meeting_any HR.out (HG.out.take c) (by rw [HTL.out]; have := HCL2.out; omega) hk1 ht1 (q : Int) (Int.natCast_nonneg _)).mono ?_
      rintro r w2 ⟨x', y', rfl, hf, hb⟩
      obtain ⟨hs1, hs2⟩ := upto_step HU.out hf
      have hbd := firstW_bd hf
      rw [HTL.out] at hbd
      have HB2 := Lib.hid (HB.out.trans (hb.mono HB.out.size))
      have HS1 := Lib.hid hs1
      have HS2 := Lib.hid hs2
      clear hf hb hs1 hs2 HU HB
      rcases hbd with ⟨rfl, rfl⟩ | ⟨i, k, rfl, rfl, hik, hkc⟩
      · have HU2 := Lib.hid (HS2.out (by unfold better; rfl))
        go_wp2_with fail
        go_roundg (gk - 1)
        case measure => have := HQK.out; have := HLT.out; omega
        case rel => exact ⟨q + 1, c, x, y, by have := HQK.out; have := HLT.out; omega, by go_num, rfl, rfl, rfl, HU2, HB2⟩
      · have hi0 : (0 : Int) ≤ (i : Int) := Int.natCast_nonneg _
        have hk0 : (0 : Int) ≤ (k : Int) := Int.natCast_nonneg _
        have hkl : (k : Int) + 1 ≤ (l.length : Int) := by have := HCL2.out; omega
        have hkm : (k : Int) ≤ 20000 := by omega
        have HKC := Lib.hid hkc
        have HNT : Hid (((k : Int) + 1).toNat = k + 1) := Lib.hid (by omega)
        clear hik hkc
        by_cases h2 : x < 0
        · have HU2 := Lib.hid (HS1.out (by unfold better; rw [decide_eq_true hi0, decide_eq_true h2]; rfl))
          rw [HNT.out] at HU2
          go_wp2_with fail
          go_roundg (gk - 1)
          case measure => have := HQK.out; have := HLT.out; omega
          case rel => exact ⟨q + 1, k + 1, _, _, by have := HQK.out; have := HLT.out; omega, by go_num, by first | rfl | (congr 1), rfl, rfl, HU2, HB2⟩
        · by_cases h3 : (k : Int) < y
          · have HU2 := Lib.hid (HS1.out (by unfold better; rw [decide_eq_true hi0, decide_eq_true h3]; simp))
            rw [HNT.out] at HU2
            go_wp2_with fail
            go_roundg (gk - 1)
            case measure => have := HQK.out; have := HLT.out; omega
            case rel => exact ⟨q + 1, k + 1, _, _, by have := HQK.out; have := HLT.out; omega, by go_num, by first | rfl | (congr 1), rfl, rfl, HU2, HB2⟩
          · by_cases h4 : (i : Int) < x
            · have HU2 := Lib.hid (HS1.out (by unfold better; rw [decide_eq_true hi0, decide_eq_true h4]; simp))
              rw [HNT.out] at HU2
              go_wp2_with fail
              go_roundg (gk - 1)
              case measure => have := HQK.out; have := HLT.out; omega
              case rel => exact ⟨q + 1, k + 1, _, _, by have := HQK.out; have := HLT.out; omega, by go_num, by first | rfl | (congr 1), rfl, rfl, HU2, HB2⟩
            · have HU2 := Lib.hid (HS2.out (by unfold better; rw [decide_eq_false h2, decide_eq_false h3, decide_eq_false h4]; simp))
              go_wp2_with fail
              go_roundg (gk - 1)
              case measure => have := HQK.out; have := HLT.out; omega
              case rel => exact ⟨q + 1, c, x, y, by have := HQK.out; have := HLT.out; omega, by go_num, rfl, rfl, rfl, HU2, HB2⟩
    · have hq1 : ¬ (q : Int) < (K.length : Int) := by omega
      have hqe : q = K.length := by omega
      have HF : Hid (IsFirst l x y) := Lib.hid (isFirst_norm HNO.out (upto_end HG.out (by rw [← hqe]; exact HU.out)))
      have HBB := Lib.hid (HB1.out.trans (HB.out.mono HB1.out.size))
      clear hqk hlt hqe
      go_wp2_with fail
      go_ret2
      exact ⟨_, _, rfl, HF.out, HBB.out⟩
end Go.Proofs.Ytmggnalobfihnaa.Ck
