/-
  marchlandref18: Int, time, fits.
-/
import Derived.Test.YtdbaacalfbbdiaaGreatDoorScSplit
import Derived.BigQuiet
namespace Go.Proofs.YtdbaacalfbbdiaaGreatDoor.Sc
open Go.RowKit
set_option linter.unusedVariables false
set_option linter.unusedSimpArgs false
def okL (l : Bs) : Bool := (parL l).isSome
theorem refPar_any (d : Bs) (hd : d.length ≤ 100000) (w : World) :
    Calls Tryz.prog 60 #[.string (bs d)] w fun e w' => e = .returned (.tuple #[.int .u64 (timeV d), .bool (okL d)]) ∧ Below w.heap.size w w' := by
  refine (Stamp.refParse_any (bs d) (by rw [bs_size]; omega) w).mono ?_
  rintro e w' ⟨rfl, m, rfl⟩
  exact ⟨rfl, below_drewN (Below.refl _ _) m⟩
theorem dec_lt {u : Nat} (h : (Lib.decDigits u).length ≤ 7) : u < 10000000 := by
  have h1 := Lib.lt_pow_nDigits u
  rw [Lib.decDigits_length] at h
  have h2 : 10 ^ Lib.nDigits u ≤ 10 ^ 7 := Nat.pow_le_pow_right (by omega) h
  have : (10 : Nat) ^ 7 = 10000000 := by decide
  omega
theorem mag_small {d : Bs} {x : Nat} (h : magR d = some x) : parL d = some x ∧ (x = 18446744073709551615 ∨ x < 10000000) := by
  unfold magR at h
  split at h
  · cases h
  · rename_i hl
    refine ⟨h, ?_⟩
    have h1 := (Stamp.parseE_some h).2
    by_cases e : x = 18446744073709551615
    · exact .inl e
    · right
      have h2 : (timeL (x : Int)).length = d.length := by
        unfold timeL
        rw [h1]
      rw [timeL_eq, if_neg (by omega), Int.toNat_natCast] at h2
      exact dec_lt (by omega)
theorem wrapI_bd {x : Nat} (h : x = 18446744073709551615 ∨ x < 10000000) : -1 ≤ wrapI x ∧ wrapI x < 10000000 := by
  unfold wrapI
  split <;> omega
theorem i64_wrapI {x : Nat} (h : x = 18446744073709551615 ∨ x < 10000000) : IntKind.i64.wrap (x : Int) = wrapI x := by
  rw [IntKind.wrap_i64]
  unfold wrapI
  split <;> omega
theorem i64_small {x : Int} (h : -100000000 ≤ x ∧ x ≤ 100000000) : IntKind.i64.wrap x = x := by rw [IntKind.wrap_i64]; omega
theorem w64_small {x : Int} (h : -100000000 ≤ x ∧ x ≤ 100000000) : wrap64 x = x := by unfold wrap64; omega
theorem mag_none {d : Bs} (h : magR d = none) : okL d = false ∨ 7 < d.length := by
  unfold magR at h
  split at h
  · rename_i h1; exact .inr h1
  · exact .inl (by unfold okL; rw [h]; rfl)
theorem tl_extract {s : Bs} : (bs s).extract 1 (bs s).size = bs s.tail := by
  rw [bs_extract, bs_size]
  congr 1
  cases s <;> simp
set_option maxRecDepth 1000000 in
set_option maxHeartbeats 4000000 in
theorem int_any (s : Bs) (hs : s.length ≤ 100000) (w : World) :
    Calls Tryz.prog 26 #[.string (bs s)] w fun e w' => e = .returned (.int .i64 (intR s)) ∧ Below w.heap.size w w' := by
  by_cases h0 : s = []
  · subst h0
    have HR := Lib.hid (show intR [] = 100000000 by decide)
    have HC := Lib.hid (refPar_any [] (by simp) w)
    have HO := Lib.hid (show okL [] = false by decide)
    have q0 : (bs []).size = 0 := rfl
    go_enter Tryz.func26, Tryz.ntmps26
    go_wp2_with fail
    go_at_call 60
    refine HC.out.mono ?_
    rintro e w2 ⟨rfl, hb⟩
    rw [HO.out]
    go_wp2_with fail
    go_ret
    exact ⟨by rw [HR.out]; rfl, hb⟩
  obtain ⟨c, r, rfl⟩ := List.exists_cons_of_ne_nil h0
  have HSZ := Lib.hid (show (bs (c :: r)).size = r.length + 1 by rw [bs_size]; rfl)
  have hpos : 0 < (bs (c :: r)).size := by rw [HSZ.out]; omega
  have hpos2 : (0 : Int) < ((bs (c :: r)).size : Int) := by omega
  have HG0 := Lib.hid (show (bs (c :: r))[0] = c by have h := bs_get hpos; exact (Option.some.inj h).symm)
  by_cases hc : c = 45
  · have eC : (((bs (c :: r))[0].toNat : Int) == 45) = true := by rw [HG0.out, hc]; rfl
    have hx := tl_extract (s := c :: r)
    rw [List.tail_cons] at hx
    have HX := Lib.hid hx
    clear hx
    have HT := Lib.hid (show tlR (c :: r) = r by rw [hc]; rfl)
    have HSG := Lib.hid (show sgnR (c :: r) = (-1) by rw [hc]; rfl)
    have HC := Lib.hid (fun w => refPar_any (r) (by simp at hs; omega) w)
    have HLD := Lib.hid (bs_size (r))
    generalize bs (c :: r) = S at *
    cases hm : magR (r)
    · have HR := Lib.hid (show intR (c :: r) = 100000000 by unfold intR; rw [HT.out, hm])
      by_cases hl : 7 < (r).length
      · have q : (7 : Int) < ((bs (r)).size : Int) := by rw [HLD.out]; omega
        clear hm hl
        go_enter Tryz.func26, Tryz.ntmps26
        go_upto_region 3 with fail
        go_quiet (fail)
        rw [HX.out]
        go_wp2_with fail
        go_at_call 60
        refine (HC.out _).mono ?_
        rintro e w2 ⟨rfl, hb⟩
        generalize okL _ = ok0 at *
        cases ok0
        all_goals (go_wp2_with fail; go_ret; exact ⟨by rw [HR.out]; rfl, (below_drewN (Below.refl _ _) nq).trans hb⟩)
      · have q : ¬ (7 : Int) < ((bs (r)).size : Int) := by rw [HLD.out]; omega
        have HO := Lib.hid ((mag_none hm).resolve_right hl)
        clear hm hl
        go_enter Tryz.func26, Tryz.ntmps26
        go_upto_region 3 with fail
        go_quiet (fail)
        rw [HX.out]
        go_wp2_with fail
        go_at_call 60
        refine (HC.out _).mono ?_
        rintro e w2 ⟨rfl, hb⟩
        rw [HO.out]
        all_goals (go_wp2_with fail; go_ret; exact ⟨by rw [HR.out]; rfl, (below_drewN (Below.refl _ _) nq).trans hb⟩)
    · rename_i x
      obtain ⟨hp, hx⟩ := mag_small hm
      have hl : ¬ 7 < (r).length := fun h => by unfold magR at hm; rw [if_pos h] at hm; cases hm
      have q : ¬ (7 : Int) < ((bs (r)).size : Int) := by rw [HLD.out]; omega
      have hb3 := wrapI_bd hx
      have HR := Lib.hid (show intR (c :: r) = -wrapI x by unfold intR; rw [HT.out, hm, HSG.out]; dsimp only; omega)
      have HO := Lib.hid (show okL (r) = true by unfold okL; rw [hp]; rfl)
      have HV := Lib.hid (show timeV (r) = (x : Int) by unfold timeV; rw [hp]; rfl)
      have e1 := i64_wrapI hx
      have e2 : IntKind.i64.wrap (-wrapI x) = -wrapI x := i64_small (by omega)
      have e3 : wrap64 (-wrapI x) = -wrapI x := w64_small (by omega)
      clear hm hp hx hl hb3
      generalize wrapI x = wi at *
      go_enter Tryz.func26, Tryz.ntmps26
      go_upto_region 3 with fail
      go_quiet (fail)
      rw [HX.out]
      go_wp2_with fail
      go_at_call 60
      refine (HC.out _).mono ?_
      rintro e w2 ⟨rfl, hb⟩
      rw [HO.out, HV.out]
      go_wp2_with fail
      go_ret
      exact ⟨by rw [HR.out]; rfl, (below_drewN (Below.refl _ _) nq).trans hb⟩
  · have eC : (((bs (c :: r))[0].toNat : Int) == 45) = false := by rw [HG0.out, beq_eq_false_iff_ne]; intro e; exact hc (UInt8.toNat_inj.1 (by simpa using Int.ofNat.inj e))
    have HT := Lib.hid (show tlR (c :: r) = (c :: r) by unfold tlR; rw [if_neg]; intro e; exact hc (Option.some.inj e))
    have HSG := Lib.hid (show sgnR (c :: r) = 1 by unfold sgnR; rw [if_neg]; intro e; exact hc (Option.some.inj e))
    have HC := Lib.hid (fun w => refPar_any ((c :: r)) (by exact hs) w)
    have HLD := Lib.hid (bs_size ((c :: r)))
    cases hm : magR ((c :: r))
    · have HR := Lib.hid (show intR (c :: r) = 100000000 by unfold intR; rw [HT.out, hm])
      by_cases hl : 7 < ((c :: r)).length
      · have q : (7 : Int) < ((bs ((c :: r))).size : Int) := by rw [HLD.out]; omega
        clear hm hl
        go_enter Tryz.func26, Tryz.ntmps26
        go_wp2_with fail
        go_at_call 60
        refine (HC.out _).mono ?_
        rintro e w2 ⟨rfl, hb⟩
        generalize okL _ = ok0 at *
        cases ok0
        all_goals (go_wp2_with fail; go_ret; exact ⟨by rw [HR.out]; rfl, hb⟩)
      · have q : ¬ (7 : Int) < ((bs ((c :: r))).size : Int) := by rw [HLD.out]; omega
        have HO := Lib.hid ((mag_none hm).resolve_right hl)
        clear hm hl
        go_enter Tryz.func26, Tryz.ntmps26
        go_wp2_with fail
        go_at_call 60
        refine (HC.out _).mono ?_
        rintro e w2 ⟨rfl, hb⟩
        rw [HO.out]
        all_goals (go_wp2_with fail; go_ret; exact ⟨by rw [HR.out]; rfl, hb⟩)
    · rename_i x
      obtain ⟨hp, hx⟩ := mag_small hm
      have hl : ¬ 7 < ((c :: r)).length := fun h => by unfold magR at hm; rw [if_pos h] at hm; cases hm
      have q : ¬ (7 : Int) < ((bs ((c :: r))).size : Int) := by rw [HLD.out]; omega
      have hb3 := wrapI_bd hx
      have HR := Lib.hid (show intR (c :: r) = wrapI x by unfold intR; rw [HT.out, hm, HSG.out]; dsimp only; omega)
      have HO := Lib.hid (show okL ((c :: r)) = true by unfold okL; rw [hp]; rfl)
      have HV := Lib.hid (show timeV ((c :: r)) = (x : Int) by unfold timeV; rw [hp]; rfl)
      have e1 := i64_wrapI hx
      have e2 : IntKind.i64.wrap (wrapI x) = wrapI x := i64_small (by omega)
      have e3 : wrap64 (wrapI x) = wrapI x := w64_small (by omega)
      clear hm hp hx hl hb3
      generalize wrapI x = wi at *
      go_enter Tryz.func26, Tryz.ntmps26
      go_wp2_with fail
      go_at_call 60
      refine (HC.out _).mono ?_
      rintro e w2 ⟨rfl, hb⟩
      rw [HO.out, HV.out]
      go_wp2_with fail
      go_ret
      exact ⟨by rw [HR.out]; rfl, hb⟩
set_option maxRecDepth 1000000 in
theorem scTime_any (d : Bs) (hd : d.length ≤ 100000) (w : World) :
    Calls Tryz.prog 27 #[.string (bs d)] w fun e w' => e = .returned (.tuple #[.int .u64 (timeV d), .bool (okL d)]) ∧ Below w.heap.size w w' := by
  have H := Lib.hid (refPar_any d hd w)
  go_enter Tryz.func27, Tryz.ntmps27
  go_wp2_with (go_at_call 60; refine H.out.mono ?_; rintro e w' ⟨rfl, hb⟩)
  go_ret2
  exact ⟨rfl, hb⟩
set_option maxRecDepth 1000000 in
theorem fits_any (n : Int) (w : World) :
    Calls Tryz.prog 37 #[.int .i64 n] w fun e w' => e = .returned (.bool (decide (FitN n))) ∧ w' = w := by
  by_cases h0 : 0 ≤ n
  · by_cases h1 : n ≤ 63
    · have HR := Lib.hid (show decide (FitN n) = true from decide_eq_true ⟨h0, h1⟩)
      go_enter Tryz.func37, Tryz.ntmps37
      go_wp2_with fail
      go_ret
      exact ⟨by rw [HR.out]; rfl, rfl⟩
    · have HR := Lib.hid (show decide (FitN n) = false from decide_eq_false fun h => h1 h.2)
      go_enter Tryz.func37, Tryz.ntmps37
      go_wp2_with fail
      go_ret
      exact ⟨by rw [HR.out]; rfl, rfl⟩
  · have HR := Lib.hid (show decide (FitN n) = false from decide_eq_false fun h => h0 h.1)
    go_enter Tryz.func37, Tryz.ntmps37
    go_wp2_with fail
    go_ret
    exact ⟨by rw [HR.out]; rfl, rfl⟩
end Go.Proofs.YtdbaacalfbbdiaaGreatDoor.Sc
