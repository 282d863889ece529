/-
  PACKAGES graph, marchlandref05: Paths; marchlandlaw05: Rows.
-/
import Derived.Test.YtdllgeanmlmmfaaGreatDoorGRef
namespace Go.Proofs.YtdllgeanmlmmfaaGreatDoor.Gr
open Go.RowKit Fault
set_option linter.unusedVariables false

def zd (M : Nat → Nat → Int) (k : Nat) : Nat → Nat → Int := fun i j => if i = j ∧ i < k then 0 else M i j
theorem zd_step (M : Nat → Nat → Int) (k : Nat) (i j : Nat) : upd (zd M k) k k 0 i j = zd M (k + 1) i j := by
  unfold upd zd
  by_cases e : i = k ∧ j = k
  · obtain ⟨rfl, rfl⟩ := e
    rw [if_pos ⟨rfl, rfl⟩, if_pos ⟨rfl, Nat.lt_succ_self _⟩]
  · rw [if_neg e]
    by_cases e2 : i = j ∧ i < k
    · rw [if_pos e2, if_pos ⟨e2.1, by omega⟩]
    · rw [if_neg e2, if_neg (fun h => e2 ⟨h.1, by omega⟩)]
theorem zd_least {E : List Ed} {n : Nat} {M : Nat → Nat → Int} (hE : Fits E n) (h : LeastM E false n M) : LeastM E true n (zd M n) := by
  intro i j hi hj
  unfold zd
  by_cases e : i = j
  · subst e
    rw [if_pos ⟨rfl, hi⟩]
    exact least_here hE i
  · rw [if_neg (fun h => e h.1)]
    exact least_far (by omega) (h i j hi hj)
theorem inputsV_E {n : Int} {I : List Int} : (chkI n I).2 = 0 → ¬ (I.length = 0 ∨ 8 < I.length) := fun h h' => by rw [chkI_many h'] at h; exact absurd h (show (4 : Int) ≠ 0 by decide)
/-- A graph that may be. -/
structure GOk (n : Nat) (E : List Ed) (I : List Int) : Prop where
  n0 : 1 ≤ n
  n1 : n ≤ 64
  len : E.length ≤ 256
  fits : Fits E n
  chk : chkV (n : Int) E I = ([], 0)
theorem gok_of {n : Int} {E : List Ed} {I : List Int} (hw : ∀ x ∈ E, x.Wf) (h : (chkV n E I).2 = 0) : ∃ m : Nat, n = m ∧ GOk m E I := by
  have h' := h
  unfold chkV at h
  split at h
  · exact absurd h (show (2 : Int) ≠ 0 by decide)
  · rename_i h1
    split at h
    · exact absurd h (show (4 : Int) ≠ 0 by decide)
    · rename_i h2
      split at h
      · rename_i h3; exact absurd h h3
      · rename_i h3
        split at h
        · exact absurd h (show (4 : Int) ≠ 0 by decide)
        · rename_i h4
          split at h
          · rename_i h5; exact absurd h h5
          · rename_i h5
            have hn : n = ((n.toNat : Nat) : Int) := by omega
            refine ⟨n.toNat, hn, by omega, by omega, by omega, fits_of hw (by rw [← hn]; exact Decidable.not_not.1 h3), ?_⟩
            rw [← hn]
            unfold chkV
            rw [if_neg h1, if_neg h2, if_neg h3, if_neg h4, if_neg h5]
            cases ho : cycO E n.toNat with
            | none => rfl
            | some p => rw [ho] at h; exact absurd h (show (3 : Int) ≠ 0 by decide)

set_option maxRecDepth 1000000 in
set_option maxHeartbeats 8000000 in
theorem paths_any {w : World} {ve vi : Value} {E : List Ed} {I : List Int} {n : Nat} (hv : Rd w ve E) (hi : RdI w vi I) (hg : GOk n E I) :
    Calls Tryz.prog 28 #[.agg #[.int .i64 (n : Int), ve, vi]] w fun e w' => ∃ (v : Value) (M : Nat → Nat → Int), e = .returned v ∧ Mat w' w.heap.size v n M ∧ LeastM E true n M ∧ Below w.heap.size w w' := by
  obtain ⟨w1, hw1⟩ : ∃ w1, w1 = w.alloc (.cells #[.int .i64 (n : Int), ve, vi] 33) := ⟨_, rfl⟩
  have hsz : w1.heap.size = w.heap.size + 1 := by rw [hw1]; simp
  have hb0 : Below w.heap.size w w1 := by rw [hw1]; exact (Below.refl _ _).alloc (Nat.le_refl _) _
  have b0 : w1.cell? ⟨w.heap.size, 0, none⟩ = some (.int .i64 (n : Int)) := by rw [hw1]; simp
  have b1 : w1.cell? ⟨w.heap.size, 1, none⟩ = some ve := by rw [hw1]; simp
  have b2 : w1.cell? ⟨w.heap.size, 2, none⟩ = some vi := by rw [hw1]; simp
  have HBX := Lib.hid (show ∀ wr, Below w1.heap.size w1 wr → wr.cell? ⟨w.heap.size, 0, none⟩ = some (.int .i64 (n : Int)) ∧ wr.cell? ⟨w.heap.size, 1, none⟩ = some ve ∧ wr.cell? ⟨w.heap.size, 2, none⟩ = some vi from fun wr h => ⟨(h.cell (p := ⟨w.heap.size, 0, none⟩) (by rw [hsz]; exact Nat.lt_succ_self _)).trans b0, (h.cell (p := ⟨w.heap.size, 1, none⟩) (by rw [hsz]; exact Nat.lt_succ_self _)).trans b1, (h.cell (p := ⟨w.heap.size, 2, none⟩) (by rw [hsz]; exact Nat.lt_succ_self _)).trans b2⟩)
  have HV := Lib.hid (hv.below hb0)
  have HI := Lib.hid (hi.below hb0)
  have HB0 := Lib.hid hb0
  have HSZ := Lib.hid hsz
  have HW1 := Lib.hid hw1
  have HG := Lib.hid hg
  have HCK := Lib.hid (check_any (n : Int) HV.out HI.out)
  have hnb : n ≤ 9223372036854775807 := by have := hg.n1; omega
  have hni : (n : Int) ≤ 64 := by have := hg.n1; omega
  obtain ⟨ao, cap, rfl, _⟩ := hv
  obtain ⟨aoi, capi, rfl, _⟩ := hi
  rw [HW1.out] at HCK
  clear b0 b1 b2 hsz hb0 hw1 hg
  go_enter Tryz.func28, Tryz.ntmps28
  go_wp2_with fail
  go_at_call 22
  refine HCK.out.mono ?_
  rw [← HW1.out, HG.out.chk]
  rintro e w2 ⟨v1, rfl, her, hb2⟩
  obtain ⟨b0, b1, b2⟩ := HBX.out w2 hb2
  obtain rfl : v1 = .nilIface := by
    rcases her with ⟨_, _, h⟩ | ⟨h, _⟩
    · exact h
    · exact absurd rfl h
  have HB2 := Lib.hid (HB0.out.trans (hb2.mono HB0.out.size))
  have HWY := Lib.hid (ways_any (vi := .slice aoi I.length capi) (HV.out.below hb2) HG.out.fits HG.out.n0 HG.out.n1 (by have := HG.out.len; omega))
  have hs2 := hb2.size
  have HS2 := Lib.hid hs2
  clear her hb2 hs2
  go_wp2_with fail
  go_at_call 61
  refine HWY.out.mono ?_
  rintro e w3 ⟨v, M, rfl, ⟨g, r, rfl, hmat⟩, hL, hb3⟩
  have HMAT := Lib.hid hmat
  have HL := Lib.hid hL
  have hbb : Below w.heap.size w w3 := HB2.out.trans (hb3.mono HB2.out.size)
  have HB3 := Lib.hid hbb
  clear hmat hL hb3 hbb b0 b1 b2
  go_wp2_with fail
  go_loopg [12] n (fun m t wr => ∃ k : Nat, k + m = n ∧ t = .int .i64 (k : Int) ∧ MatF wr w2.heap.size g r n (zd M k) ∧ Below w.heap.size w wr)
  case atStart => exact ⟨0, by omega, rfl, HMAT.out.eq (fun i j _ _ => by unfold zd; rw [if_neg (fun h => by omega)]), HB3.out⟩
  case round =>
    obtain ⟨k, hkm, rfl, hmat, hbw⟩ := hrel
    have HKM := Lib.hid hkm
    have HM := Lib.hid hmat
    have HBW := Lib.hid hbw
    clear hkm hmat hbw
    by_cases hk : k < n
    · have hk0 : (0 : Int) ≤ (k : Int) := Int.natCast_nonneg _
      have hk1 : (k : Int) < (n : Int) := by omega
      have g0 := HM.out.top.cell hk
      have r0 := (HM.out.row k hk).cell hk
      have rf := (HM.out.row k hk).frozen k
      have hgb : w.heap.size ≤ r k := by have h1 := HM.out.los k hk; have h2 := HB2.out.size; omega
      have HN := Lib.hid ((HM.out.set hk hk 0).eq (fun i j _ _ => zd_step M k i j))
      have HB4 := Lib.hid (HBW.out.setCell (p := ⟨r k, k, none⟩) hgb (.int .u64 0))
      have HK := Lib.hid hk
      clear hk
      go_wp2_with fail
      go_roundg (gk - 1)
      case measure => have := HKM.out; have := HK.out; omega
      case rel => exact ⟨k + 1, by have := HKM.out; have := HK.out; omega, by go_num, HN.out, HB4.out⟩
    · obtain rfl : n = k := by have := HKM.out; omega
      have HN := Lib.hid (zd_least HG.out.fits HL.out)
      go_wp2_with fail
      go_ret
      exact ⟨_, zd M n, rfl, ⟨g, r, rfl, HM.out.base HB2.out.size⟩, HN.out, HBW.out⟩

/-- of a graph that may not be: nothing. -/
theorem paths_none {w : World} {ve vi : Value} {E : List Ed} {I : List Int} (n : Int) (hv : Rd w ve E) (hi : RdI w vi I) (hg : (chkV n E I).2 ≠ 0) :
    Calls Tryz.prog 28 #[.agg #[.int .i64 n, ve, vi]] w fun e w' => e = .returned (.slice none 0 0) ∧ Below w.heap.size w w' := by
  have hb0 : Below w.heap.size w (w.alloc (.cells #[.int .i64 n, ve, vi] 33)) := (Below.refl _ _).alloc (Nat.le_refl _) _
  have HCK := Lib.hid (check_any n (hv.below hb0) (hi.below hb0))
  have HB0 := Lib.hid hb0
  have HG := Lib.hid hg
  obtain ⟨ao, cap, rfl, _⟩ := hv
  obtain ⟨aoi, capi, rfl, _⟩ := hi
  clear hb0 hg
  go_enter Tryz.func28, Tryz.ntmps28
  go_wp2_with fail
  go_at_call 22
  refine HCK.out.mono ?_
  rintro e w2 ⟨v1, rfl, her, hb2⟩
  obtain ⟨u, x, rfl⟩ : ∃ u x, v1 = .iface u x := by
    rcases her with ⟨h, _⟩ | ⟨_, _, h⟩
    · exact absurd h HG.out
    · exact h
  have HB2 := Lib.hid (HB0.out.trans (hb2.mono HB0.out.size))
  clear her hb2
  go_wp2_with fail
  go_ret
  exact ⟨rfl, HB2.out⟩

/-! the same rows? -/
end Go.Proofs.YtdllgeanmlmmfaaGreatDoor.Gr
