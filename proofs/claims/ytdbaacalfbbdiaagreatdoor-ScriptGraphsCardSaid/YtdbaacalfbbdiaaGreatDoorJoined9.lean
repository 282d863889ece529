/-
  marchlandref18: Split.
  marchlandref18: Int, time, fits.
-/
import Derived.Test.YtdbaacalfbbdiaaGreatDoorScApp
import Derived.BigQuiet
namespace Go.Proofs.YtdbaacalfbbdiaaGreatDoor.Sc
open Go.RowKit
set_option linter.unusedVariables false
set_option linter.unusedSimpArgs false
/-- Where the loop of Split is: L is done, the next piece begins at f, and up to i there is none. -/
def SpI (s : Bs) (c : UInt8) (L : List Bs) (f i : Nat) : Prop := splR c s = L ++ splR c (s.drop f) ∧ c ∉ (s.drop f).take (i - f) ∧ f ≤ i ∧ i ≤ s.length
theorem SpI.start (s : Bs) (c : UInt8) : SpI s c [] 0 0 := ⟨by simp, by simp, by omega, by omega⟩
theorem take_next {s : Bs} {f i : Nat} {b : UInt8} (h : f ≤ i) (hb : s[i]? = some b) : (s.drop f).take (i + 1 - f) = (s.drop f).take (i - f) ++ [b] := by
  rw [show i + 1 - f = (i - f) + 1 by omega, List.take_add_one, List.getElem?_drop, show f + (i - f) = i by omega, hb]
  rfl
theorem SpI.miss {s : Bs} {c b : UInt8} {L : List Bs} {f i : Nat} (h : SpI s c L f i) (hb : s[i]? = some b) (hne : b ≠ c) : SpI s c L f (i + 1) := by
  obtain ⟨h1, h2, h3, h4⟩ := h
  refine ⟨h1, ?_, by omega, by have := (List.getElem?_eq_some_iff.1 hb).1; omega⟩
  rw [take_next h3 hb]
  intro hm
  rcases List.mem_append.1 hm with hm | hm
  · exact h2 hm
  · exact hne (List.mem_singleton.1 hm).symm
theorem drop_split {s : Bs} {f i : Nat} {b : UInt8} (h : f ≤ i) (hb : s[i]? = some b) : s.drop f = (s.drop f).take (i - f) ++ b :: s.drop (i + 1) := by
  have hi := (List.getElem?_eq_some_iff.1 hb).1
  conv => lhs; rw [← List.take_append_drop (i - f) (s.drop f)]
  rw [List.drop_drop, show f + (i - f) = i by omega, List.drop_eq_getElem_cons hi]
  rw [List.getElem?_eq_getElem hi] at hb
  rw [Option.some.inj hb]
theorem SpI.hit {s : Bs} {c : UInt8} {L : List Bs} {f i : Nat} (h : SpI s c L f i) (hb : s[i]? = some c) : SpI s c (L ++ [(s.drop f).take (i - f)]) (i + 1) (i + 1) := by
  obtain ⟨h1, h2, h3, h4⟩ := h
  refine ⟨?_, by simp, by omega, by have := (List.getElem?_eq_some_iff.1 hb).1; omega⟩
  have e := splR_two h2 (s.drop (i + 1))
  rw [← drop_split h3 hb] at e
  rw [h1, e]
  simp
theorem SpI.fin {s : Bs} {c : UInt8} {L : List Bs} {f : Nat} (h : SpI s c L f s.length) : splR c s = L ++ [(s.drop f).take (s.length - f)] := by
  obtain ⟨h1, h2, h3, h4⟩ := h
  have e : (s.drop f).take (s.length - f) = s.drop f := List.take_of_length_le (by simp)
  rw [e] at h2 ⊢
  rw [h1, splR_one h2]
theorem splR_count (c : UInt8) : ∀ s : Bs, (splR c s).length ≤ s.length + 1
  | [] => by simp [splR]
  | b :: r => by
    have ih := splR_count c r
    unfold splR
    split
    · simp; omega
    · have hne := splR_ne c r
      obtain ⟨x, l, e⟩ := List.exists_cons_of_ne_nil hne
      rw [e] at ih ⊢
      simp [glue] at ih ⊢
      omega
theorem SpI.count {s : Bs} {c : UInt8} {L : List Bs} {f i : Nat} (h : SpI s c L f i) : L.length ≤ s.length := by
  have h1 := splR_count c s
  rw [h.1, List.length_append] at h1
  have := List.length_pos_iff.2 (splR_ne c (s.drop f))
  omega
theorem bs_extract (s : Bs) (f i : Nat) : (bs s).extract f i = bs ((s.drop f).take (i - f)) := by
  apply ByteArray.ext
  simp [bs, ByteArray.extract, ByteArray.copySlice]
theorem bs_get {s : Bs} {i : Nat} (h : i < (bs s).size) : s[i]? = some (bs s)[i] := by
  have h' : i < s.length := by rw [bs_size] at h; exact h
  rw [List.getElem?_eq_getElem h']
  congr 1
def MkS (p : Prop) : Prop := p
theorem mkS_of {p : Prop} (h : MkS p) : p := h
theorem infoSt : (Tryz.prog.info? 9).map (fun i => (i.zero, i.size, i.bytes)) = some (some (.string ⟨#[]⟩), 1, 16) := by kernel_rfl
set_option maxRecDepth 1000000 in
set_option maxHeartbeats 8000000 in
theorem split_any (s : Bs) (c : UInt8) (hs : s.length ≤ 10000) (w : World) :
    Calls Tryz.prog 25 #[.string (bs s), .int .u8 (c.toNat : Int)] w fun e w' => ∃ v, e = .returned v ∧ OwS w' w.heap.size v (splR c s) ∧ Below w.heap.size w w' := by
  obtain ⟨i0, hi, hy0, hy1, hy2⟩ := Gr.info_parts infoSt
  have HSZ := Lib.hid (bs_size s)
  have HGE := Lib.hid (fun i (h : i < (bs s).size) => bs_get h)
  have HEX := Lib.hid (bs_extract s)
  have hn : (bs s).size ≤ 10000 := by rw [bs_size]; exact hs
  have HS := Lib.hid hs
  generalize bs s = S at *
  clear hs
  go_enter Tryz.func25, Tryz.ntmps25
  go_wp2_with fail
  go_loopg [5, 6, 7] (S.size + 2) (fun k o u t wr => ∃ (L : List Bs) (f i : Nat), i + k = S.size + 2 ∧ f ≤ 20000 ∧ u = .int .i64 f ∧ t = .int .i64 i ∧ OwS wr w.heap.size o L ∧ Below w.heap.size w wr ∧ ((i ≤ S.size ∧ SpI s c L f i) ∨ (i = S.size + 1 ∧ splR c s = L)))
  case atStart => exact ⟨[], 0, 0, by omega, by omega, rfl, rfl, OwS.nil _ _, Below.refl _ _, .inl ⟨Nat.zero_le _, SpI.start s c⟩⟩
  case round =>
    obtain ⟨L, f, i, hik, hf, rfl, rfl, hown, hbw, hcase⟩ := hrel
    have HIK := Lib.hid hik
    have HOW := Lib.hid hown
    have HBW := Lib.hid hbw
    have HF := Lib.hid hf
    have q0 : (0 : Int) ≤ (i : Int) := Int.natCast_nonneg _
    have q1 : (0 : Int) ≤ (f : Int) := Int.natCast_nonneg _
    clear hik hown hbw
    by_cases hend : i = S.size + 1
    · have HR := Lib.hid (show splR c s = L from hcase.elim (fun h => by omega) fun h => h.2)
      clear hcase
      subst hend
      go_wp2_with fail
      go_ret
      exact ⟨_, rfl, by rw [HR.out]; exact HOW.out, HBW.out⟩
    · have hsp : i ≤ S.size ∧ SpI s c L f i := hcase.elim id fun h => absurd h.1 hend
      have HSP := Lib.hid hsp.2
      have hfi : f ≤ i := hsp.2.2.2.1
      have q2 : (f : Int) ≤ (i : Int) := by omega
      have hle : (i : Int) ≤ (S.size : Int) := by omega
      have HCT := Lib.hid (show L.length ≤ 10000 from Nat.le_trans hsp.2.count HS.out)
      by_cases hlast : i = S.size
      · have eL : ((i : Int) == (S.size : Int)) = true := by rw [beq_iff_eq]; omega
        have HPC := Lib.hid (show S.extract f i = bs ((s.drop f).take (i - f)) from HEX.out f i)
        have HLA := Lib.hid hlast
        have HFI := Lib.hid (show splR c s = L ++ [(s.drop f).take (i - f)] by
          have h := HSP.out
          have e : i = s.length := by rw [HLA.out]; exact HSZ.out
          rw [e] at h ⊢
          exact h.fin)
        clear hlast
        clear hcase hsp hend
        have hown := HOW.out
        go_wp2_with (at_builtin; refine mkS_of ?_)
        unfold MkS
        refine app1w _ rfl _ _ 79 rfl w.heap.size 9 i0 _ 1 16 Tryz.underlying79 hi hy0 hy1 hy2 rfl (by decide) _ L.length (L.map fun x => Value.string (bs x)) rfl (World.ownsRow.alloc hown _) wr.heap.size [.string (S.extract f i)] 9 rfl (heap_alloc_new wr _) rfl (by simp [Value.oneCell']) (by have := HCT.out; unfold maxLen; omega) (by have := HCT.out; omega) (by have := HBW.out.size; simp; omega) ?_
        intro v2 w2 hA hbA
        have HO2 := Lib.hid (show OwS w2 w.heap.size v2 (L ++ [(s.drop f).take (i - f)]) by
          unfold OwS
          rw [List.length_append, List.map_append]
          rw [HPC.out] at hA
          exact hA)
        have HB2 := Lib.hid ((HBW.out.alloc HBW.out.size (.cells #[.string (S.extract f i)] 9)).trans hbA)
        clear hown hA hbA
        go_wp2_with fail
        go_roundg (S.size + 1 - i)
        case measure => have := HIK.out; omega
        case rel => exact ⟨_, i + 1, i + 1, by have := HIK.out; omega, by omega, by go_num, by go_num, HO2.out, HB2.out, .inr ⟨by rw [HLA.out], HFI.out⟩⟩
      · have eL : ((i : Int) == (S.size : Int)) = false := by rw [beq_eq_false_iff_ne]; omega
        have hlt : i < S.size := by omega
        by_cases hit : S[i] = c
        · have eC : ((S[i].toNat : Int) == (c.toNat : Int)) = true := by rw [beq_iff_eq, hit]
          have HPC := Lib.hid (show S.extract f i = bs ((s.drop f).take (i - f)) from HEX.out f i)
          have HM := Lib.hid (HSP.out.hit (by rw [HGE.out i hlt, hit]))
          clear hcase hsp hend hit hlast
          have hown := HOW.out
          go_wp2_with (at_builtin; refine mkS_of ?_)
          unfold MkS
          refine app1w _ rfl _ _ 79 rfl w.heap.size 9 i0 _ 1 16 Tryz.underlying79 hi hy0 hy1 hy2 rfl (by decide) _ L.length (L.map fun x => Value.string (bs x)) rfl (World.ownsRow.alloc hown _) wr.heap.size [.string (S.extract f i)] 9 rfl (heap_alloc_new wr _) rfl (by simp [Value.oneCell']) (by have := HCT.out; unfold maxLen; omega) (by have := HCT.out; omega) (by have := HBW.out.size; simp; omega) ?_
          intro v2 w2 hA hbA
          have HO2 := Lib.hid (show OwS w2 w.heap.size v2 (L ++ [(s.drop f).take (i - f)]) by
            unfold OwS
            rw [List.length_append, List.map_append]
            rw [HPC.out] at hA
            exact hA)
          have HB2 := Lib.hid ((HBW.out.alloc HBW.out.size (.cells #[.string (S.extract f i)] 9)).trans hbA)
          clear hown hA hbA
          go_wp2_with fail
          go_roundg (S.size + 1 - i)
          case measure => have := HIK.out; omega
          case rel => exact ⟨_, i + 1, i + 1, by have := HIK.out; omega, by omega, by go_num, by go_num, HO2.out, HB2.out, .inl ⟨by omega, HM.out⟩⟩
        · have eC : ((S[i].toNat : Int) == (c.toNat : Int)) = false := by
            rw [beq_eq_false_iff_ne]
            intro e
            exact hit (UInt8.toNat_inj.1 (by omega))
          have HM := Lib.hid (HSP.out.miss (HGE.out i hlt) hit)
          clear hcase hsp hend hit hlast
          go_wp2_with fail
          go_roundg (S.size + 1 - i)
          case measure => have := HIK.out; omega
          case rel => exact ⟨L, f, i + 1, by have := HIK.out; omega, hf, rfl, by go_num, HOW.out, HBW.out, .inl ⟨by omega, HM.out⟩⟩
end Go.Proofs.YtdbaacalfbbdiaaGreatDoor.Sc
namespace Go.Proofs.YtdbaacalfbbdiaaGreatDoor.Sc
open Go.RowKit
set_option linter.unusedVariables false
set_option linter.unusedSimpArgs false
def okL (l : Bs) : Bool := (parL l).isSome
theorem refPar_any (d : Bs) (hd : d.length ≤ 100000) (w : World) :
    Calls Tryz.prog 60 #[.string (bs d)] w fun e w' => e = .returned (.tuple #[.int .u64 (timeV d), .bool (okL d)]) ∧ Below w.heap.size w w' := by
  refine (Stamp.refParse_any (bs d) (by rw [bs_size]; omega) w).mono ?_
  rintro e w' ⟨rfl, m, rfl⟩
  exact ⟨rfl, below_drewN (Below.refl _ _) m⟩
theorem dec_lt {u : Nat} (h : (Lib.decDigits u).length ≤ 7) : u < 10000000 := by
  have h1 := Lib.lt_pow_nDigits u
  rw [Lib.decDigits_length] at h
  have h2 : 10 ^ Lib.nDigits u ≤ 10 ^ 7 := Nat.pow_le_pow_right (by omega) h
  have : (10 : Nat) ^ 7 = 10000000 := by decide
  omega
theorem mag_small {d : Bs} {x : Nat} (h : magR d = some x) : parL d = some x ∧ (x = 18446744073709551615 ∨ x < 10000000) := by
  unfold magR at h
  split at h
  · cases h
  · rename_i hl
    refine ⟨h, ?_⟩
    have h1 := (Stamp.parseE_some h).2
    by_cases e : x = 18446744073709551615
    · exact .inl e
    · right
      have h2 : (timeL (x : Int)).length = d.length := by
        unfold timeL
        rw [h1]
      rw [timeL_eq, if_neg (by omega), Int.toNat_natCast] at h2
      exact dec_lt (by omega)
theorem wrapI_bd {x : Nat} (h : x = 18446744073709551615 ∨ x < 10000000) : -1 ≤ wrapI x ∧ wrapI x < 10000000 := by
  unfold wrapI
  split <;> omega
theorem i64_wrapI {x : Nat} (h : x = 18446744073709551615 ∨ x < 10000000) : IntKind.i64.wrap (x : Int) = wrapI x := by
  rw [IntKind.wrap_i64]
  unfold wrapI
  split <;> omega
theorem i64_small {x : Int} (h : -100000000 ≤ x ∧ x ≤ 100000000) : IntKind.i64.wrap x = x := by rw [IntKind.wrap_i64]; omega
theorem w64_small {x : Int} (h : -100000000 ≤ x ∧ x ≤ 100000000) : wrap64 x = x := by unfold wrap64; omega
theorem mag_none {d : Bs} (h : magR d = none) : okL d = false ∨ 7 < d.length := by
  unfold magR at h
  split at h
  · rename_i h1; exact .inr h1
  · exact .inl (by unfold okL; rw [h]; rfl)
theorem tl_extract {s : Bs} : (bs s).extract 1 (bs s).size = bs s.tail := by
  rw [bs_extract, bs_size]
  congr 1
  cases s <;> simp
set_option maxRecDepth 1000000 in
set_option maxHeartbeats 4000000 in
theorem int_any (s : Bs) (hs : s.length ≤ 100000) (w : World) :
    Calls Tryz.prog 26 #[.string (bs s)] w fun e w' => e = .returned (.int .i64 (intR s)) ∧ Below w.heap.size w w' := by
  by_cases h0 : s = []
  · subst h0
    have HR := Lib.hid (show intR [] = 100000000 by decide)
    have HC := Lib.hid (refPar_any [] (by simp) w)
    have HO := Lib.hid (show okL [] = false by decide)
    have q0 : (bs []).size = 0 := rfl
    go_enter Tryz.func26, Tryz.ntmps26
    go_wp2_with fail
    go_at_call 60
    refine HC.out.mono ?_
    rintro e w2 ⟨rfl, hb⟩
    rw [HO.out]
    go_wp2_with fail
    go_ret
    exact ⟨by rw [HR.out]; rfl, hb⟩
  obtain ⟨c, r, rfl⟩ := List.exists_cons_of_ne_nil h0
  have HSZ := Lib.hid (show (bs (c :: r)).size = r.length + 1 by rw [bs_size]; rfl)
  have hpos : 0 < (bs (c :: r)).size := by rw [HSZ.out]; omega
  have hpos2 : (0 : Int) < ((bs (c :: r)).size : Int) := by omega
  have HG0 := Lib.hid (show (bs (c :: r))[0] = c by have h := bs_get hpos; exact (Option.some.inj h).symm)
  by_cases hc : c = 45
  · have eC : (((bs (c :: r))[0].toNat : Int) == 45) = true := by rw [HG0.out, hc]; rfl
    have hx := tl_extract (s := c :: r)
    rw [List.tail_cons] at hx
    have HX := Lib.hid hx
    clear hx
    have HT := Lib.hid (show tlR (c :: r) = r by rw [hc]; rfl)
    have HSG := Lib.hid (show sgnR (c :: r) = (-1) by rw [hc]; rfl)
    have HC := Lib.hid (fun w => refPar_any (r) (by simp at hs; omega) w)
    have HLD := Lib.hid (bs_size (r))
    generalize bs (c :: r) = S at *
    cases hm : magR (r)
    · have HR := Lib.hid (show intR (c :: r) = 100000000 by unfold intR; rw [HT.out, hm])
      by_cases hl : 7 < (r).length
      · have q : (7 : Int) < ((bs (r)).size : Int) := by rw [HLD.out]; omega
        clear hm hl
        go_enter Tryz.func26, Tryz.ntmps26
        go_upto_region 3 with fail
        go_quiet (fail)
        rw [HX.out]
        go_wp2_with fail
        go_at_call 60
        refine (HC.out _).mono ?_
        rintro e w2 ⟨rfl, hb⟩
        generalize okL _ = ok0 at *
        cases ok0
        all_goals (go_wp2_with fail; go_ret; exact ⟨by rw [HR.out]; rfl, (below_drewN (Below.refl _ _) nq).trans hb⟩)
      · have q : ¬ (7 : Int) < ((bs (r)).size : Int) := by rw [HLD.out]; omega
        have HO := Lib.hid ((mag_none hm).resolve_right hl)
        clear hm hl
        go_enter Tryz.func26, Tryz.ntmps26
        go_upto_region 3 with fail
        go_quiet (fail)
        rw [HX.out]
        go_wp2_with fail
        go_at_call 60
        refine (HC.out _).mono ?_
        rintro e w2 ⟨rfl, hb⟩
        rw [HO.out]
        all_goals (go_wp2_with fail; go_ret; exact ⟨by rw [HR.out]; rfl, (below_drewN (Below.refl _ _) nq).trans hb⟩)
    · rename_i x
      obtain ⟨hp, hx⟩ := mag_small hm
      have hl : ¬ 7 < (r).length := fun h => by unfold magR at hm; rw [if_pos h] at hm; cases hm
      have q : ¬ (7 : Int) < ((bs (r)).size : Int) := by rw [HLD.out]; omega
      have hb3 := wrapI_bd hx
      have HR := Lib.hid (show intR (c :: r) = -wrapI x by unfold intR; rw [HT.out, hm, HSG.out]; dsimp only; omega)
      have HO := Lib.hid (show okL (r) = true by unfold okL; rw [hp]; rfl)
      have HV := Lib.hid (show timeV (r) = (x : Int) by unfold timeV; rw [hp]; rfl)
      have e1 := i64_wrapI hx
      have e2 : IntKind.i64.wrap (-wrapI x) = -wrapI x := i64_small (by omega)
      have e3 : wrap64 (-wrapI x) = -wrapI x := w64_small (by omega)
      clear hm hp hx hl hb3
      generalize wrapI x = wi at *
      go_enter Tryz.func26, Tryz.ntmps26
      go_upto_region 3 with fail
      go_quiet (fail)
      rw [HX.out]
      go_wp2_with fail
      go_at_call 60
      refine (HC.out _).mono ?_
      rintro e w2 ⟨rfl, hb⟩
      rw [HO.out, HV.out]
      go_wp2_with fail
      go_ret
      exact ⟨by rw [HR.out]; rfl, (below_drewN (Below.refl _ _) nq).trans hb⟩
  · have eC : (((bs (c :: r))[0].toNat : Int) == 45) = false := by rw [HG0.out, beq_eq_false_iff_ne]; intro e; exact hc (UInt8.toNat_inj.1 (by simpa using Int.ofNat.inj e))
    have HT := Lib.hid (show tlR (c :: r) = (c :: r) by unfold tlR; rw [if_neg]; intro e; exact hc (Option.some.inj e))
    have HSG := Lib.hid (show sgnR (c :: r) = 1 by unfold sgnR; rw [if_neg]; intro e; exact hc (Option.some.inj e))
    have HC := Lib.hid (fun w => refPar_any ((c :: r)) (by exact hs) w)
    have HLD := Lib.hid (bs_size ((c :: r)))
    cases hm : magR ((c :: r))
    · have HR := Lib.hid (show intR (c :: r) = 100000000 by unfold intR; rw [HT.out, hm])
      by_cases hl : 7 < ((c :: r)).length
      · have q : (7 : Int) < ((bs ((c :: r))).size : Int) := by rw [HLD.out]; omega
        clear hm hl
        go_enter Tryz.func26, Tryz.ntmps26
        go_wp2_with fail
        go_at_call 60
        refine (HC.out _).mono ?_
        rintro e w2 ⟨rfl, hb⟩
        generalize okL _ = ok0 at *
        cases ok0
        all_goals (go_wp2_with fail; go_ret; exact ⟨by rw [HR.out]; rfl, hb⟩)
      · have q : ¬ (7 : Int) < ((bs ((c :: r))).size : Int) := by rw [HLD.out]; omega
        have HO := Lib.hid ((mag_none hm).resolve_right hl)
        clear hm hl
        go_enter Tryz.func26, Tryz.ntmps26
        go_wp2_with fail
        go_at_call 60
        refine (HC.out _).mono ?_
        rintro e w2 ⟨rfl, hb⟩
        rw [HO.out]
        all_goals (go_wp2_with fail; go_ret; exact ⟨by rw [HR.out]; rfl, hb⟩)
    · rename_i x
      obtain ⟨hp, hx⟩ := mag_small hm
      have hl : ¬ 7 < ((c :: r)).length := fun h => by unfold magR at hm; rw [if_pos h] at hm; cases hm
      have q : ¬ (7 : Int) < ((bs ((c :: r))).size : Int) := by rw [HLD.out]; omega
      have hb3 := wrapI_bd hx
      have HR := Lib.hid (show intR (c :: r) = wrapI x by unfold intR; rw [HT.out, hm, HSG.out]; dsimp only; omega)
      have HO := Lib.hid (show okL ((c :: r)) = true by unfold okL; rw [hp]; rfl)
      have HV := Lib.hid (show timeV ((c :: r)) = (x : Int) by unfold timeV; rw [hp]; rfl)
      have e1 := i64_wrapI hx
      have e2 : IntKind.i64.wrap (wrapI x) = wrapI x := i64_small (by omega)
      have e3 : wrap64 (wrapI x) = wrapI x := w64_small (by omega)
      clear hm hp hx hl hb3
      generalize wrapI x = wi at *
      go_enter Tryz.func26, Tryz.ntmps26
      go_wp2_with fail
      go_at_call 60
      refine (HC.out _).mono ?_
      rintro e w2 ⟨rfl, hb⟩
      rw [HO.out, HV.out]
      go_wp2_with fail
      go_ret
      exact ⟨by rw [HR.out]; rfl, hb⟩
set_option maxRecDepth 1000000 in
theorem scTime_any (d : Bs) (hd : d.length ≤ 100000) (w : World) :
    Calls Tryz.prog 27 #[.string (bs d)] w fun e w' => e = .returned (.tuple #[.int .u64 (timeV d), .bool (okL d)]) ∧ Below w.heap.size w w' := by
  have H := Lib.hid (refPar_any d hd w)
  go_enter Tryz.func27, Tryz.ntmps27
  go_wp2_with (go_at_call 60; refine H.out.mono ?_; rintro e w' ⟨rfl, hb⟩)
  go_ret2
  exact ⟨rfl, hb⟩
set_option maxRecDepth 1000000 in
theorem fits_any (n : Int) (w : World) :
    Calls Tryz.prog 37 #[.int .i64 n] w fun e w' => e = .returned (.bool (decide (FitN n))) ∧ w' = w := by
  by_cases h0 : 0 ≤ n
  · by_cases h1 : n ≤ 63
    · have HR := Lib.hid (show decide (FitN n) = true from decide_eq_true ⟨h0, h1⟩)
      go_enter Tryz.func37, Tryz.ntmps37
      go_wp2_with fail
      go_ret
      exact ⟨by rw [HR.out]; rfl, rfl⟩
    · have HR := Lib.hid (show decide (FitN n) = false from decide_eq_false fun h => h1 h.2)
      go_enter Tryz.func37, Tryz.ntmps37
      go_wp2_with fail
      go_ret
      exact ⟨by rw [HR.out]; rfl, rfl⟩
  · have HR := Lib.hid (show decide (FitN n) = false from decide_eq_false fun h => h0 h.1)
    go_enter Tryz.func37, Tryz.ntmps37
    go_wp2_with fail
    go_ret
    exact ⟨by rw [HR.out]; rfl, rfl⟩
end Go.Proofs.YtdbaacalfbbdiaaGreatDoor.Sc
