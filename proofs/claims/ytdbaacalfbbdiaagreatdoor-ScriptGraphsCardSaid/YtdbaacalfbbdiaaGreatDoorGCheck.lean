/-
  PACKAGE graph: has, checkEdges, checkInputs; the library's Contains.
-/
import Derived.Test.YtdbaacalfbbdiaaGreatDoorGErr
import Derived.WalkSmall
import Derived.StillTactics
import Derived.StillTailTactics
import Derived.Deep.LoopGhost
import Derived.Deep.RegionHeld3
import Derived.BigQuiet
import Derived.Deep.QuietTactic
import Derived.IntWalk
import Derived.Outline
namespace Go.Proofs.YtdbaacalfbbdiaaGreatDoor.Gr
open Go.RowKit Fault
set_option linter.unusedVariables false

theorem has_any (n p : Int) (ve vi : Value) (w : World) :
    Calls Tryz.prog 86 #[.agg #[.int .i64 n, ve, vi], .int .i64 p] w fun e w' => e = .returned (.bool (decide (inP n p))) ∧ Below w.heap.size w w' := by
  have HB := Lib.hid (show Below w.heap.size w (w.alloc (.cells #[.int .i64 n, ve, vi] 47)) from (Below.refl _ _).alloc (Nat.le_refl _) _)
  by_cases h0 : 0 ≤ p
  · by_cases h1 : p < n
    · have HR := Lib.hid (show decide (inP n p) = true from decide_eq_true ⟨h0, h1⟩)
      go_enter Tryz.func86, Tryz.ntmps86
      go_wp2
      go_ret
      exact ⟨by rw [HR.out]; rfl, HB.out⟩
    · have HR := Lib.hid (show decide (inP n p) = false from decide_eq_false fun h => h1 h.2)
      go_enter Tryz.func86, Tryz.ntmps86
      go_wp2
      go_ret
      exact ⟨by rw [HR.out]; rfl, HB.out⟩
  · have HR := Lib.hid (show decide (inP n p) = false from decide_eq_false fun h => h0 h.1)
    go_enter Tryz.func86, Tryz.ntmps86
    go_wp2
    go_ret
    exact ⟨by rw [HR.out]; rfl, HB.out⟩

set_option maxRecDepth 1000000 in
set_option maxHeartbeats 4000000 in
theorem index_any {w : World} {v : Value} {l : List Int} (p : Int) (hv : RdI w v l) :
    Calls Tryz.prog 104 #[v, .int .i64 p] w fun e w' => ∃ k : Int, e = .returned (.int .i64 k) ∧ -1 ≤ k ∧ (0 ≤ k ↔ p ∈ l) ∧ w = w' := by
  obtain ⟨ao, cap, rfl, hlc, hcm, _, hcell⟩ := hv
  have HC := Lib.hid hcell
  have hlen : l.length ≤ 9223372036854775807 := by omega
  clear hcell hlc hcm
  go_enter Tryz.func104, Tryz.ntmps104
  go_wp2
  go_loopg [8] l.length (fun m t wr => ∃ i : Nat, i + m = l.length ∧ t = .int .i64 (i : Int) ∧ p ∉ l.take i ∧ wr = w)
  case atStart => exact ⟨0, by omega, rfl, by simp, rfl⟩
  case round =>
    obtain ⟨i, him, rfl, hno, hwr⟩ := hrel
    subst wr
    have HIM := Lib.hid him
    have HNO := Lib.hid hno
    clear him hno
    by_cases hi : i < l.length
    · obtain ⟨x, hx, hxm⟩ := at_ofI hi
      obtain ⟨b, off, hao, hcc⟩ := HC.out.resolve_left (by intro e; rw [e] at hi; simp at hi)
      subst hao
      have c0 := hcc i x hx
      have hi0 : (0 : Int) ≤ (i : Int) := Int.natCast_nonneg _
      have hi1 : (i : Int) < (l.length : Int) := by omega
      have HX := Lib.hid hx
      have HXM := Lib.hid hxm
      have HI := Lib.hid hi
      clear hcc hx hxm HC hi
      by_cases hp : p = x
      · have hpb : (p == x) = true := by rw [beq_iff_eq]; exact hp
        have HM := Lib.hid (show p ∈ l by rw [hp]; exact HXM.out)
        clear hp
        go_wp2_with fail
        go_ret
        exact ⟨(i : Int), rfl, by omega, ⟨fun _ => HM.out, fun _ => hi0⟩, rfl⟩
      · have hpb : (p == x) = false := by rw [beq_eq_false_iff_ne]; exact hp
        have HN := Lib.hid (show p ∉ l.take (i + 1) by
          rw [take_succ' HX.out]
          intro h
          rcases List.mem_append.1 h with h | h
          · exact HNO.out h
          · simp at h; exact hp h)
        clear hp
        go_wp2_with fail
        go_roundg (gk - 1)
        case measure => have := HIM.out; have := HI.out; omega
        case rel => exact ⟨i + 1, by have := HIM.out; have := HI.out; omega, by go_num, HN.out, rfl⟩
    · have HN := Lib.hid (show p ∉ l by have := HNO.out; rw [take_all (by omega)] at this; exact this)
      go_wp2_with fail
      go_ret
      exact ⟨-1, rfl, by omega, ⟨fun h => absurd h (by decide), fun h => absurd h HN.out⟩, rfl⟩
theorem contains_any {w : World} {v : Value} {l : List Int} (p : Int) (hv : RdI w v l) :
    Calls Tryz.prog 87 #[v, .int .i64 p] w fun e w' => e = .returned (.bool (decide (p ∈ l))) ∧ w = w' := by
  have HI := Lib.hid (index_any p hv)
  obtain ⟨ao, cap, rfl, _⟩ := hv
  go_enter Tryz.func87, Tryz.ntmps87
  go_wp2_with fail
  go_at_call 104
  refine HI.out.mono ?_
  rintro e w1 ⟨k, rfl, hk1, hk, rfl⟩
  by_cases h : 0 ≤ k
  · have HR := Lib.hid (show decide (p ∈ l) = true from decide_eq_true (hk.1 h))
    clear hk
    go_wp2_with fail
    go_ret
    exact ⟨by rw [HR.out]; rfl, rfl⟩
  · have HR := Lib.hid (show decide (p ∈ l) = false from decide_eq_false fun hm => h (hk.2 hm))
    have hd0 : decide (0 ≤ k) = false := decide_eq_false h
    clear hk
    go_wp2_with fail
    go_ret
    exact ⟨by rw [HR.out]; rfl, rfl⟩

def chkE (n : Int) (E : List Ed) : List Pl × Int := if 256 < E.length then ([], 4) else edgesV n 0 E
theorem chkE_many {n : Int} {E : List Ed} (h : 256 < E.length) : chkE n E = ([], 4) := if_pos h
theorem chkE_few {n : Int} {E : List Ed} (h : ¬ 256 < E.length) : chkE n E = edgesV n 0 E := if_neg h
set_option maxRecDepth 1000000 in
set_option maxHeartbeats 8000000 in
theorem checkEdges_any {w : World} {ve vi : Value} {E : List Ed} (n : Int) (hv : Rd w ve E) :
    Calls Tryz.prog 66 #[.agg #[.int .i64 n, ve, vi]] w fun e w' => ∃ v, e = .returned v ∧ ErrIs w' v (chkE n E) ∧ Below w.heap.size w w' := by
  obtain ⟨ao, cap, rfl, hlc, hcm, hwf, hcell⟩ := hv
  have HC := Lib.hid hcell
  have hlen : E.length ≤ 9223372036854775807 := by omega
  clear hcell hwf hlc hcm
  obtain ⟨w1, hw1⟩ : ∃ w1, w1 = w.alloc (.cells #[.int .i64 n, .slice ao E.length cap, vi] 47) := ⟨_, rfl⟩
  have hsz : w1.heap.size = w.heap.size + 1 := by rw [hw1]; simp
  have HB0 := Lib.hid (show Below w.heap.size w w1 by rw [hw1]; exact (Below.refl _ _).alloc (Nat.le_refl _) _)
  have b0 : w1.cell? ⟨w.heap.size, 0, none⟩ = some (.int .i64 n) := by rw [hw1]; simp
  have b1 : w1.cell? ⟨w.heap.size, 1, none⟩ = some (.slice ao E.length cap) := by rw [hw1]; simp
  have b2 : w1.cell? ⟨w.heap.size, 2, none⟩ = some vi := by rw [hw1]; simp
  have HBX := Lib.hid (show ∀ wr, Below (w.heap.size + 1) w1 wr → wr.cell? ⟨w.heap.size, 0, none⟩ = some (.int .i64 n) ∧ wr.cell? ⟨w.heap.size, 1, none⟩ = some (.slice ao E.length cap) ∧ wr.cell? ⟨w.heap.size, 2, none⟩ = some vi from fun wr h => ⟨(h.cell (p := ⟨w.heap.size, 0, none⟩) (Nat.lt_succ_self _)).trans b0, (h.cell (p := ⟨w.heap.size, 1, none⟩) (Nat.lt_succ_self _)).trans b1, (h.cell (p := ⟨w.heap.size, 2, none⟩) (Nat.lt_succ_self _)).trans b2⟩)
  have HSZ := Lib.hid hsz
  have HW1 := Lib.hid hw1
  clear b0 b1 b2 hsz
  by_cases hm : 256 < E.length
  · have hm' : (256 : Int) < (E.length : Int) := by omega
    have HM := Lib.hid hm
    clear hm hw1
    go_enter Tryz.func66, Tryz.ntmps66
    go_wp2_with fail
    go_ret
    refine ⟨_, rfl, ?_, by rw [← HW1.out]; exact HB0.out⟩
    rw [chkE_many HM.out]
    exact ErrIs.some (by decide) rfl
  · have hm' : ¬ ((256 : Int) < (E.length : Int)) := by omega
    have HM := Lib.hid hm
    have HAS := Lib.hid (fun W p => has_any n p (.slice ao E.length cap) vi W)
    clear hm hw1
    go_enter Tryz.func66, Tryz.ntmps66
    go_wp2_with fail
    go_loopg [13] E.length (fun m t wr => ∃ k : Nat, k + m = E.length ∧ t = .int .i64 (k : Int) ∧ (∀ y ∈ E.take k, inP n y.f ∧ inP n y.t) ∧ Below (w.heap.size + 1) w1 wr)
    case atStart => exact ⟨0, by omega, rfl, by simp, by rw [← HW1.out]; exact Below.refl _ _⟩
    case round =>
      obtain ⟨k, hkm, rfl, hok, hbw⟩ := hrel
      have HKM := Lib.hid hkm
      have HOK := Lib.hid hok
      have HBW := Lib.hid hbw
      obtain ⟨b0, b1, b2⟩ := HBX.out wr hbw
      have hbs : w.heap.size + 1 ≤ wr.heap.size := by have := hbw.size; have := HSZ.out; omega
      have hblt : w.heap.size < wr.heap.size := hbs
      clear hkm hok hbw
      by_cases hk : k < E.length
      · obtain ⟨x, hx, hxm⟩ := at_of hk
        obtain ⟨b, off, hao, hcc⟩ := HC.out.resolve_left (by intro e; rw [e] at hk; simp at hk)
        subst hao
        have q1 := (hcc k x hx).below HB0.out (hcc k x hx).lt
        have q2 := q1.below HBW.out (by have := (hcc k x hx).lt; omega)
        have hbl := (hcc k x hx).lt
        obtain ⟨c0, c1, c2⟩ := q2
        have hblw : b < wr.heap.size := by omega
        have hk0 : (0 : Int) ≤ (k : Int) := Int.natCast_nonneg _
        have hk1 : (k : Int) < (E.length : Int) := by omega
        have HX := Lib.hid hx
        have HK := Lib.hid hk
        have HA1 := Lib.hid (HAS.out (wr.alloc (.cells #[.int .i64 x.f, .int .i64 x.t, .int .u64 x.a] 70)) x.f)
        have HAL := Lib.hid (show Below wr.heap.size wr (wr.alloc (.cells #[.int .i64 x.f, .int .i64 x.t, .int .u64 x.a] 70)) from (Below.refl _ _).alloc (Nat.le_refl _) _)
        by_cases hf : inP n x.f
        · have hdf : decide (inP n x.f) = true := decide_eq_true hf
          by_cases ht : inP n x.t
          · have hdt : decide (inP n x.t) = true := decide_eq_true ht
            have HN := Lib.hid (show ∀ y ∈ E.take (k + 1), inP n y.f ∧ inP n y.t by
              intro y hy
              rw [take_succ' HX.out] at hy
              rcases List.mem_append.1 hy with hy | hy
              · exact HOK.out y hy
              · simp at hy; subst hy; exact ⟨hf, ht⟩)
            rw [hdf] at HA1
            have HAT := Lib.hid (fun W => show Calls _ _ _ W fun e w' => e = .returned (.bool true) ∧ Below W.heap.size W w' by have := HAS.out W x.t; rw [hdt] at this; exact this)
            obtain ⟨xf, xt, xa⟩ := x
            simp only at c0 c1 c2 HA1 HAT HAL
            clear hf ht hdf hdt hx hxm hcc q1 hbl hk
            go_wp2_with fail
            go_at_call 86
            refine HA1.out.mono ?_
            rintro e w3 ⟨rfl, hb3⟩
            have HB3 := Lib.hid hb3
            have d1 : w3.cell? ⟨wr.heap.size, 1, none⟩ = some (.int .i64 xt) := (hb3.cell (p := ⟨wr.heap.size, 1, none⟩) (by simp)).trans (by simp)
            have hb4 := HBW.out.trans ((HAL.out.trans (hb3.mono (by simp))).mono hbs)
            obtain ⟨b0, b1, b2⟩ := HBX.out w3 hb4
            have HB4 := Lib.hid hb4
            clear hb3 hb4
            go_wp2_with fail
            go_at_call 86
            refine (HAT.out _).mono ?_
            rintro e w4 ⟨rfl, hb5⟩
            have HB5 := Lib.hid (HB4.out.trans (hb5.mono (by have := HB4.out.size; have := HSZ.out; omega)))
            clear hb5 d1
            go_wp2_with fail
            go_roundg (gk - 1)
            case measure => have := HKM.out; have := HK.out; omega
            case rel => exact ⟨k + 1, by have := HKM.out; have := HK.out; omega, by go_num, HN.out, HB5.out⟩
          · have hdt : decide (inP n x.t) = false := decide_eq_false ht
            have HV := Lib.hid (edgesV_t HOK.out HX.out hf ht)
            rw [hdf] at HA1
            have HAT := Lib.hid (fun W => show Calls _ _ _ W fun e w' => e = .returned (.bool false) ∧ Below W.heap.size W w' by have := HAS.out W x.t; rw [hdt] at this; exact this)
            obtain ⟨xf, xt, xa⟩ := x
            simp only at c0 c1 c2 HA1 HAT HAL HV
            clear hf ht hdf hdt hx hxm hcc q1 hbl hk
            go_wp2_with fail
            go_at_call 86
            refine HA1.out.mono ?_
            rintro e w3 ⟨rfl, hb3⟩
            have HB3 := Lib.hid hb3
            have d1 : w3.cell? ⟨wr.heap.size, 1, none⟩ = some (.int .i64 xt) := (hb3.cell (p := ⟨wr.heap.size, 1, none⟩) (by simp)).trans (by simp)
            have hb4 := HBW.out.trans ((HAL.out.trans (hb3.mono (by simp))).mono hbs)
            obtain ⟨b0, b1, b2⟩ := HBX.out w3 hb4
            have HB4 := Lib.hid hb4
            clear hb4
            have hl3 : wr.heap.size < w3.heap.size := by have := hb3.size; simp at this; omega
            clear hb3
            go_wp2_with fail
            go_at_call 86
            refine (HAT.out _).mono ?_
            rintro e w4 ⟨rfl, hb5⟩
            have d2 := (hb5.cell (p := ⟨wr.heap.size, 1, none⟩) hl3).trans d1
            have HB5 := Lib.hid (HB4.out.trans (hb5.mono (by have := HB4.out.size; have := HSZ.out; omega)))
            clear hb5 d1
            go_wp2_with fail
            go_at_call 49
            refine (at_chain (l := []) (b := errnoV 2) _ _ rfl (.inl ⟨2, rfl⟩)).mono ?_
            rintro e w5 ⟨blk, rfl, hch, hb6⟩
            have HCH := Lib.hid hch
            have HB6 := Lib.hid (HB5.out.trans (hb6.mono (by have := HB5.out.size; have := HSZ.out; omega)))
            clear hch hb6 d2
            go_wp2_with fail
            go_at_call 49
            refine (at_chain _ _ HCH.out (.inl ⟨2, rfl⟩)).mono ?_
            rintro e w6 ⟨blk2, rfl, hch, hb6⟩
            have HCH2 := Lib.hid hch
            have HB7 := Lib.hid (HB6.out.trans (hb6.mono (by have := HB6.out.size; have := HSZ.out; omega)))
            clear hch hb6
            go_wp2_with fail
            go_ret
            refine ⟨_, rfl, ?_, HB0.out.trans (HB7.out.mono (Nat.le_succ _))⟩
            rw [chkE_few HM.out, HV.out]
            exact ErrIs.some (by decide) HCH2.out
        · have hdf : decide (inP n x.f) = false := decide_eq_false hf
          have HV := Lib.hid (edgesV_f HOK.out HX.out hf)
          rw [hdf] at HA1
          obtain ⟨xf, xt, xa⟩ := x
          simp only at c0 c1 c2 HA1 HAL HV
          clear hf hdf hx hxm hcc q1 hbl hk
          go_wp2_with fail
          go_at_call 86
          refine HA1.out.mono ?_
          rintro e w3 ⟨rfl, hb3⟩
          have d1 : w3.cell? ⟨wr.heap.size, 0, none⟩ = some (.int .i64 xf) := (hb3.cell (p := ⟨wr.heap.size, 0, none⟩) (by simp)).trans (by simp)
          have hb4 := HBW.out.trans ((HAL.out.trans (hb3.mono (by simp))).mono hbs)
          have HB5 := Lib.hid hb4
          clear hb3 hb4
          go_wp2_with fail
          go_at_call 49
          refine (at_chain (l := []) (b := errnoV 2) _ _ rfl (.inl ⟨2, rfl⟩)).mono ?_
          rintro e w5 ⟨blk, rfl, hch, hb6⟩
          have HCH := Lib.hid hch
          have HB6 := Lib.hid (HB5.out.trans (hb6.mono (by have := HB5.out.size; have := HSZ.out; omega)))
          clear hch hb6 d1
          go_wp2_with fail
          go_at_call 49
          refine (at_chain _ _ HCH.out (.inl ⟨2, rfl⟩)).mono ?_
          rintro e w6 ⟨blk2, rfl, hch, hb6⟩
          have HCH2 := Lib.hid hch
          have HB7 := Lib.hid (HB6.out.trans (hb6.mono (by have := HB6.out.size; have := HSZ.out; omega)))
          clear hch hb6
          go_wp2_with fail
          go_ret
          refine ⟨_, rfl, ?_, HB0.out.trans (HB7.out.mono (Nat.le_succ _))⟩
          rw [chkE_few HM.out, HV.out]
          exact ErrIs.some (by decide) HCH2.out
      · have HV := Lib.hid (edgesV_ok (n := n) (l := E) (fun y hy => HOK.out y (by rw [take_all (by omega)]; exact hy)))
        go_wp2_with fail
        go_ret
        refine ⟨_, rfl, ?_, HB0.out.trans (HBW.out.mono (Nat.le_succ _))⟩
        rw [chkE_few HM.out, HV.out]
        exact ErrIs.none _
end Go.Proofs.YtdbaacalfbbdiaaGreatDoor.Gr
