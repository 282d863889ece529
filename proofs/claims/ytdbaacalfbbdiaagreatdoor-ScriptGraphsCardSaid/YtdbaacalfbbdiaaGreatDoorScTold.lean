/-
  marchlandlaw18: told. (gen/sctold.py)
-/
import Derived.Test.YtdbaacalfbbdiaaGreatDoorJoined6
import Derived.Test.YtdbaacalfbbdiaaGreatDoorScGParse
import Derived.Test.YtdbaacalfbbdiaaGreatDoorScRead0
import Derived.Test.YtdbaacalfbbdiaaGreatDoorJoined8
namespace Go.Proofs.YtdbaacalfbbdiaaGreatDoor.Sc
open Go.RowKit
set_option linter.unusedVariables false
set_option linter.unusedSimpArgs false
def cT : Cm := ⟨3, 0, 0, 0, [⟨0, 5, 1⟩, ⟨1, 7, -2⟩]⟩
theorem dg (n : Nat) (h : n < 10) : Lib.decDigits n = [UInt8.ofNat (48 + n)] := Lib.decDigits_one h
theorem it_dg (n : Nat) (h : n < 10) : Lib.itoa (n : Int) = [UInt8.ofNat (48 + n)] := by
  unfold Lib.itoa
  rw [if_neg (by omega), Int.toNat_natCast, dg n h]
theorem it0 : Lib.itoa 0 = [48] := it_dg 0 (by decide)
theorem it1 : Lib.itoa 1 = [49] := it_dg 1 (by decide)
theorem it2 : Lib.itoa 2 = [50] := it_dg 2 (by decide)
theorem itm : Lib.itoa (-2) = [45, 50] := by
  unfold Lib.itoa
  rw [if_pos (by decide)]
  show 45 :: Lib.decDigits 2 = _
  rw [dg 2 (by decide)]
  rfl
theorem tl_dg (n : Nat) (h : n < 10) : timeL (n : Int) = [UInt8.ofNat (48 + n)] := by rw [timeL_eq, if_neg (by omega), Int.toNat_natCast, dg n h]
theorem tl5 : timeL 5 = [53] := tl_dg 5 (by decide)
theorem tl7 : timeL 7 = [55] := tl_dg 7 (by decide)
theorem tl3 : timeL 3 = [51] := tl_dg 3 (by decide)
theorem lineC' (c : Cm) (h : c.k = 3) (hc : chsL c.l ≠ []) : lineL c = wdL c.k ++ 32 :: chsL c.l := by
  have e : argL c = chsL c.l := by unfold argL; rw [if_neg (by omega), if_neg (by omega), if_pos h]
  unfold lineL
  rw [if_neg (show ¬ (c.k = 4 ∨ c.k = 7) by omega), e, if_neg hc]
theorem cT_line : lineL cT = [117, 112, 100, 97, 116, 101, 32, 48, 47, 53, 47, 49, 44, 49, 47, 55, 47, 45, 50] := by
  have e : chsL [⟨0, 5, 1⟩, ⟨1, 7, -2⟩] = [48, 47, 53, 47, 49, 44, 49, 47, 55, 47, 45, 50] := by
    have h : chsL [⟨0, 5, 1⟩, ⟨1, 7, -2⟩] = Lib.join [chL ⟨0, 5, 1⟩, chL ⟨1, 7, -2⟩] [44] := if_neg (by decide)
    rw [h, join_two, Lib.join_one]
    unfold chL
    dsimp only
    rw [it0, it1, itm, tl5, tl7]
    rfl
  have h := (lineC' cT rfl) (by rw [show cT.l = [⟨0, 5, 1⟩, ⟨1, 7, -2⟩] from rfl, e]; simp)
  rw [h, show cT.l = [⟨0, 5, 1⟩, ⟨1, 7, -2⟩] from rfl, e]
  rfl
theorem parse1 : parseP [117, 112, 100, 97, 116, 101, 32, 48, 47, 53, 47, 49, 44, 49, 47, 55, 47, 45, 50] = some cT := by
  have h := parse_line (c := cT) (by unfold Stamp.U cT; decide) (by intro x hx; unfold cT at hx; simp at hx; rcases hx with rfl | rfl <;> exact ⟨by decide, by decide⟩) (by rw [cT_line]; simp)
  rw [cT_line] at h
  exact h
theorem parse2 : parseP [111, 112, 101, 110, 32, 48, 48] = none := by
  have hg : guessP [111, 112, 101, 110, 32, 48, 48] = ⟨0, 0, 0, 0, []⟩ := by rfl
  unfold parseP
  rw [hg, if_neg]
  rintro ⟨_, h⟩
  have e : lineL ⟨0, 0, 0, 0, []⟩ = wdL 0 ++ 32 :: Lib.itoa 0 := by
    unfold lineL
    rw [if_neg (by decide), show argL ⟨0, 0, 0, 0, []⟩ = Lib.itoa 0 from rfl, if_neg (itoa_ne _)]
  rw [e, it0] at h
  revert h
  decide
def gT : Gm := ⟨2, [⟨0, 1, 3⟩], [0]⟩
theorem ok_gT : okG gT = true := by
  refine decide_eq_true ?_
  have h := Gr.chkV_ok (n := 2) (E := [⟨0, 1, 3⟩]) (I := [0]) (by decide) (by decide) (by decide) (by intro x hx; obtain rfl := List.mem_singleton.1 hx; exact ⟨by decide, by decide, by decide, by decide, by decide, by decide⟩) (by simp) (by decide) (Gr.InOk.snoc (l := []) (fun j p hj => absurd hj (by simp)) ⟨Int.le_refl _, by decide⟩ (by simp)) (Gr.no_round (by intro x hx; obtain rfl := List.mem_singleton.1 hx; decide) (by intro x hx; obtain rfl := List.mem_singleton.1 hx; decide))
  show (Gr.chkV ((2 : Nat) : Int) [⟨0, 1, 3⟩] [0]).2 = 0
  rw [h]
theorem gT_text : graphL okG gT = [50, 32, 48, 47, 49, 47, 51, 32, 48] := by
  unfold graphL
  rw [if_pos ok_gT]
  unfold graphT edsL insL edL gT
  rw [if_neg (by simp)]
  simp only [List.map_cons, List.map_nil, Lib.join_one, it2, it0, it1, tl3]
  rfl
theorem parse3 : parseGP okG [50, 32, 48, 47, 49, 47, 51, 32, 48] = some gT := by
  have h := parseG_text okG_lim (g := gT) (by intro x hx; unfold gT at hx; obtain rfl := List.mem_singleton.1 hx; exact ⟨by decide, by decide⟩) (by rw [gT_text]; simp)
  rw [gT_text] at h
  exact h
theorem plan0_ok : (Md.planV 1 [] [0] 1 1 1 1).2 = 0 := by
  have h := Gr.chkV_ok (n := 1) (E := []) (I := [0]) (by decide) (by decide) (by decide) (by intro x hx; simp at hx) (by simp) (by decide) (Gr.InOk.snoc (l := []) (fun j p hj => absurd hj (by simp)) ⟨Int.le_refl _, by decide⟩ (by simp)) (Gr.no_round (by intro x hx; simp at hx) (by intro x hx; simp at hx))
  have h : Gr.chkV 1 [] [0] = ([], 0) := h
  unfold Md.planV
  rw [h, if_neg (by simp), if_neg (by decide), if_neg (by decide), if_neg (by decide), if_neg (by decide)]
set_option maxRecDepth 1000000 in
set_option maxHeartbeats 16000000 in
theorem scTold_any {w : World} (hL : SV w) : Calls Tryz.prog 5 #[] w fun e w' => e = .returned (.bool true) ∧ Below w.heap.size w w' := by
  have HL := Lib.hid hL
  have HP1 := Lib.hid (fun w' (hb : Below w.heap.size w w') => (show Calls Tryz.prog 6 #[.string ({ data := #[117, 112, 100, 97, 116, 101, 32, 48, 47, 53, 47, 49, 44, 49, 47, 55, 47, 45, 50] } : ByteArray)] w' (PaP w' (some cT)) from parse1 ▸ scParse_any [117, 112, 100, 97, 116, 101, 32, 48, 47, 53, 47, 49, 44, 49, 47, 55, 47, 45, 50] (by simp) (hL.below hb)))
  have HP2 := Lib.hid (fun w' (hb : Below w.heap.size w w') => (show Calls Tryz.prog 6 #[.string ({ data := #[111, 112, 101, 110, 32, 48, 48] } : ByteArray)] w' (PaP w' none) from parse2 ▸ scParse_any [111, 112, 101, 110, 32, 48, 48] (by simp) (hL.below hb)))
  have HP3 := Lib.hid (fun w' (hb : Below w.heap.size w w') => (show Calls Tryz.prog 13 #[.string ({ data := #[50, 32, 48, 47, 49, 47, 51, 32, 48] } : ByteArray)] w' (PgP w' (some gT)) from parse3 ▸ scParseG_any [50, 32, 48, 47, 49, 47, 51, 32, 48] (by simp) (hL.below hb)))
  clear hL
  go_enter Tryz.func5, Tryz.ntmps5
  go_wp2_with fail
  go_at_call 6
  refine (HP1.out _ (Below.refl _ _)).mono ?_
  rintro e w1 ⟨v1, rfl, hs1, hb⟩
  obtain ⟨la, lc, rfl, hrow, _⟩ := id hs1
  have HB1 := Lib.hid hb
  have hrow := hrow.resolve_left (by rintro ⟨_, h⟩; cases h)
  obtain ⟨lb, lo, rfl, hat⟩ := hrow
  have hd := (hat 1 ⟨1, 7, -2⟩ rfl).2.2
  have HD1 := Lib.hid hd
  clear hb hs1 hat hd
  dsimp only [Option.getD, Option.isSome, cT, List.length_cons, List.length_nil] at HD1 ⊢
  go_upto_region 2 with fail
  obtain ⟨w2, hw2⟩ : ∃ w2, w2 = w1.alloc (.cells #[.int .i64 3, .int .i64 0, .int .i64 0, .int .u64 0, .slice (some ⟨lb, lo, none⟩) 2 lc] 29) := ⟨_, rfl⟩
  have hc2 : w2.heap[w1.heap.size]? = some (.cells #[.int .i64 3, .int .i64 0, .int .i64 0, .int .u64 0, .slice (some ⟨lb, lo, none⟩) 2 lc] 29 (0, 0)) := by rw [hw2]; exact heap_alloc_new w1 _
  have hb2 : Below w1.heap.size w1 w2 := by rw [hw2]; exact (Below.refl _ _).alloc (Nat.le_refl _) _
  rw [← hw2]
  obtain ⟨s, hs⟩ : ∃ s, s = w1.heap.size := ⟨_, rfl⟩
  rw [← hs] at hc2 ⊢
  have HB2 := Lib.hid (HB1.out.trans (hb2.mono HB1.out.size))
  have HC2 := Lib.hid hc2
  have HD2 := Lib.hid (Kc hb2 (Lib.lt_of_cell HD1.out) HD1.out)
  clear hw2 hb2 hs hc2
  go_wp2_with fail
  go_at_call 6
  refine (HP2.out _ HB2.out).mono ?_
  rintro e w3 ⟨v3, rfl, hs3, hb⟩
  obtain ⟨ka, kc, rfl, _⟩ := id hs3
  have HB3 := Lib.hid (HB2.out.trans (hb.mono HB2.out.size))
  have HC3 := Lib.hid ((hb.block s (Array.getElem?_eq_some_iff.1 HC2.out).1).trans HC2.out)
  have HD3 := Lib.hid (Kc hb (Lib.lt_of_cell HD2.out) HD2.out)
  clear hb hs3
  dsimp only [Option.getD, Option.isSome, c0, List.length_nil]
  go_upto_region 3 with fail
  obtain ⟨w4, hw4⟩ : ∃ w4, w4 = w3.alloc (.cells #[.int .i64 0, .int .i64 0, .int .i64 0, .int .u64 0, .slice ka 0 kc] 29) := ⟨_, rfl⟩
  have hb4 : Below w3.heap.size w3 w4 := by rw [hw4]; exact (Below.refl _ _).alloc (Nat.le_refl _) _
  rw [← hw4]
  have HB4 := Lib.hid (HB3.out.trans (hb4.mono HB3.out.size))
  have HC4 := Lib.hid ((hb4.block s (Array.getElem?_eq_some_iff.1 HC3.out).1).trans HC3.out)
  have HD4 := Lib.hid (Kc hb4 (Lib.lt_of_cell HD3.out) HD3.out)
  clear hw4 hb4
  go_wp2_with fail
  go_at_call 13
  refine (HP3.out _ HB4.out).mono ?_
  rintro e w5 ⟨v5, rfl, ⟨ae, ce, ai, ci, rfl, he, _⟩, hb⟩
  obtain ⟨ao, cp, e1, _, _, _, hat⟩ := he
  have hat1 := hat.resolve_left (by intro h; cases h)
  obtain ⟨eb, eo, hao, hat2⟩ := hat1
  subst hao
  obtain ⟨rfl, _, rfl⟩ : ae = some ⟨eb, eo, none⟩ ∧ True ∧ ce = cp := by simp only [Value.slice.injEq] at e1; exact ⟨e1.1, trivial, e1.2.2⟩
  have ha := (hat2 0 ⟨0, 1, 3⟩ rfl).2.2
  have HE5 := Lib.hid ha
  have HB5 := Lib.hid (HB4.out.trans (hb.mono HB4.out.size))
  have HC5 := Lib.hid ((hb.block s (Array.getElem?_eq_some_iff.1 HC4.out).1).trans HC4.out)
  have HD5 := Lib.hid (Kc hb (Lib.lt_of_cell HD4.out) HD4.out)
  clear hb hat hat2 ha e1
  dsimp only [Option.getD, Option.isSome, gT, List.length_cons, List.length_nil] at HE5 ⊢
  go_upto_region 4 with fail
  obtain ⟨w6, hw6⟩ : ∃ w6, w6 = w5.alloc (.cells #[.int .i64 2, .slice (some ⟨eb, eo, none⟩) 1 ce, .slice ai 1 ci] 47) := ⟨_, rfl⟩
  have hg6 : w6.heap[w5.heap.size]? = some (.cells #[.int .i64 2, .slice (some ⟨eb, eo, none⟩) 1 ce, .slice ai 1 ci] 47 (0, 0)) := by rw [hw6]; exact heap_alloc_new w5 _
  have hb6 : Below w5.heap.size w5 w6 := by rw [hw6]; exact (Below.refl _ _).alloc (Nat.le_refl _) _
  rw [← hw6]
  obtain ⟨g, hg⟩ : ∃ g, g = w5.heap.size := ⟨_, rfl⟩
  rw [← hg] at hg6 ⊢
  have HB6 := Lib.hid (HB5.out.trans (hb6.mono HB5.out.size))
  obtain ⟨c0', c1, c2, c3, c4⟩ := cells5 ((hb6.block s (Array.getElem?_eq_some_iff.1 HC5.out).1).trans HC5.out)
  obtain ⟨g0', g1, g2⟩ := cells3 hg6
  have d1 := Kc hb6 (Lib.lt_of_cell HD5.out) HD5.out
  have e1 := Kc hb6 (Lib.lt_of_cell HE5.out) HE5.out
  have HLI := Lib.hid (fun w' (hb : Below w.heap.size w w') => scLine_any (w := w') (v := .slice none 0 0) (l := []) (k := 4) (h := 0) (p := 0) (t := 0) (Batch.Rd.nil _) (by simp) ⟨by decide, by decide⟩ (HL.out.below hb))
  have hfr : bs (lineL ⟨4, 0, 0, 0, []⟩) = ({ data := #[102, 114, 111, 110, 116, 115] } : ByteArray) := by rfl
  have HFR := Lib.hid hfr
  clear hw6 hb6 hg hg6 hfr
  go_wp2_with fail
  go_at_call 8
  refine (HLI.out _ HB6.out).mono ?_
  rintro e w7 ⟨rfl, hb⟩
  rw [HFR.out]
  have HB7 := Lib.hid (HB6.out.trans (hb.mono HB6.out.size))
  clear hb c0' c1 c2 c3 c4 g0' g1 g2 d1 e1
  go_wp2_with fail
  go_at_call 23
  refine (read_nil _).mono ?_
  rintro e w8 ⟨g8, h8, p8, rfl, hg8, hb⟩
  have hfd : ∀ (a h p : Value) (W : World), (Instr.field 76 (.agg #[.int .i64 1, .slice none 0 0, a, .int .i64 1, .int .i64 1, .int .i64 1, .int .i64 1, h, p]) 0).run Tryz.prog W = .ok (.agg #[.int .i64 1, .slice none 0 0, a, .int .i64 1, .int .i64 1, .int .i64 1, .int .i64 1]) W := by
    intros; kernel_rfl
  have HB8 := Lib.hid (HB7.out.trans (hb.mono HB7.out.size))
  have hri : Gr.RdI w8 (.slice (some ⟨g8, 0, none⟩) 1 1) [0] := ⟨some ⟨g8, 0, none⟩, 1, rfl, by simp, by decide, by simp, .inr ⟨g8, 0, rfl, fun i x hx => by
    match i, hx with
    | 0, hx => simp at hx; subst hx; unfold World.cell?; rw [hg8]; rfl
    | k + 1, hx => simp at hx⟩⟩
  have HMC := Lib.hid (Md.mdCheck_any 1 1 1 1 1 (Gr.Rd.nil w8) hri)
  clear hb hg8 hri
  go_wp2_with fail
  go_at_call 22
  refine HMC.out.mono ?_
  rintro e w9 ⟨v9, rfl, herr, hb⟩
  obtain rfl : v9 = .nilIface := by
    rcases herr with ⟨_, _, h⟩ | ⟨h, _⟩
    · exact h
    · exact absurd plan0_ok h
  have HB9 := Lib.hid (HB8.out.trans (hb.mono HB8.out.size))
  clear hb herr hfd
  go_wp2_with fail
  go_ret
  exact ⟨rfl, HB9.out⟩
end Go.Proofs.YtdbaacalfbbdiaaGreatDoor.Sc
