/-
  marchlandref18: Parse. (gen/scrparse.py)
-/
import Derived.Test.YtdbaacalfbbdiaaGreatDoorScRLine
import Derived.Test.YtdbaacalfbbdiaaGreatDoorJoined5
namespace Go.Proofs.YtdbaacalfbbdiaaGreatDoor.Sc
open Go.RowKit
set_option linter.unusedVariables false
set_option linter.unusedSimpArgs false
def kUp (s : Bs) : Nat → Int
  | 0 => -1
  | i + 1 => if wdL i = s then i else kUp s i
theorem kUp_kind (s : Bs) : kUp s 8 = kindOf s := by
  by_cases h0 : wdL 0 = s
  · subst h0; decide
  by_cases h1 : wdL 1 = s
  · subst h1; decide
  by_cases h2 : wdL 2 = s
  · subst h2; decide
  by_cases h3 : wdL 3 = s
  · subst h3; decide
  by_cases h4 : wdL 4 = s
  · subst h4; decide
  by_cases h5 : wdL 5 = s
  · subst h5; decide
  by_cases h6 : wdL 6 = s
  · subst h6; decide
  by_cases h7 : wdL 7 = s
  · subst h7; decide
  have e1 : kUp s 8 = -1 := by
    show (if wdL (7 : Int) = s then (7 : Int) else if wdL (6 : Int) = s then 6 else if wdL (5 : Int) = s then 5 else if wdL (4 : Int) = s then 4 else if wdL (3 : Int) = s then 3 else if wdL (2 : Int) = s then 2 else if wdL (1 : Int) = s then 1 else if wdL (0 : Int) = s then 0 else -1) = -1
    rw [if_neg h7, if_neg h6, if_neg h5, if_neg h4, if_neg h3, if_neg h2, if_neg h1, if_neg h0]
  have e2 : kindOf s = -1 := by
    show (if wdL (0 : Int) = s then ((0 : Nat) : Int) else if wdL (1 : Int) = s then ((1 : Nat) : Int) else if wdL (2 : Int) = s then ((2 : Nat) : Int) else if wdL (3 : Int) = s then ((3 : Nat) : Int) else if wdL (4 : Int) = s then ((4 : Nat) : Int) else if wdL (5 : Int) = s then ((5 : Nat) : Int) else if wdL (6 : Int) = s then ((6 : Nat) : Int) else if wdL (7 : Int) = s then ((7 : Nat) : Int) else -1) = -1
    rw [if_neg h0, if_neg h1, if_neg h2, if_neg h3, if_neg h4, if_neg h5, if_neg h6, if_neg h7]
  rw [e1, e2]
def PrP (w : World) (o : Option Cm) (e : Ending) (w' : World) : Prop := ∃ v, e = .returned (.tuple #[.agg #[.int .i64 (o.getD c0).k, .int .i64 (o.getD c0).h, .int .i64 (o.getD c0).p, .int .u64 (o.getD c0).t, v], .bool o.isSome]) ∧ Batch.Sl w' v (o.getD c0).l ∧ Below w.heap.size w w'
def gRK (k : Int) (a b : Bs) : Option Cm :=
  if k = 0 ∨ k = 2 then some ⟨k, intR a, 0, 0, []⟩
  else if k = 1 then (parL b).map fun (t : Nat) => ⟨k, intR a, 0, t, []⟩
  else if k = 3 then (unL (splR 44 a)).map fun l => ⟨k, 0, 0, 0, l⟩
  else if k = 5 ∨ k = 6 then (parL b).map fun (t : Nat) => ⟨k, 0, intR a, t, []⟩
  else some ⟨k, 0, 0, 0, []⟩
theorem guessR_eq (s : Bs) : guessR s = gRK (kindOf ((splR 32 s ++ [[], [], []]).getD 0 [])) ((splR 32 s ++ [[], [], []]).getD 1 []) ((splR 32 s ++ [[], [], []]).getD 2 []) := rfl
theorem word_at (L : List Bs) (i : Nat) (h : i < 3) : (L ++ [[], [], []])[i]? = some ((L ++ [[], [], []]).getD i []) := by
  have hl : i < (L ++ [[], [], []]).length := by simp; omega
  unfold List.getD
  rw [List.getElem?_eq_getElem hl]
  rfl
theorem word_len {L : List Bs} {M : Nat} (h : ∀ x ∈ L, x.length ≤ M) (i : Nat) (hi : i < 3) : ((L ++ [[], [], []]).getD i []).length ≤ M := by
  have h1 := List.mem_of_getElem? (word_at L i hi)
  generalize (L ++ [[], [], []]).getD i [] = y at *
  rcases List.mem_append.1 h1 with h2 | h2
  · exact h _ h2
  · have e : y = [] := by simpa using h2
    rw [e]; simp
theorem nameAt {w : World} {g : Nat} (h : w.heap[g]? = some (.cells #[.string ({ data := #[111, 112, 101, 110] }), .string ({ data := #[97, 100, 118, 97, 110, 99, 101] }), .string ({ data := #[99, 108, 111, 115, 101] }), .string ({ data := #[117, 112, 100, 97, 116, 101] }), .string ({ data := #[102, 114, 111, 110, 116, 115] }), .string ({ data := #[100, 111, 110, 101] }), .string ({ data := #[119, 97, 105, 116] }), .string ({ data := #[115, 104, 117, 116] })] 9 (0, 0))) (i : Nat) (hi : i < 8) : w.cell? ⟨g, i, none⟩ = some (.string (bs (wdL i))) := by
  obtain rfl | rfl | rfl | rfl | rfl | rfl | rfl | rfl : i = 0 ∨ i = 1 ∨ i = 2 ∨ i = 3 ∨ i = 4 ∨ i = 5 ∨ i = 6 ∨ i = 7 := by omega
  all_goals (unfold World.cell?; rw [h]; rfl)
set_option maxRecDepth 1000000 in
set_option maxHeartbeats 32000000 in
theorem refParse_any (s : Bs) (hs : s.length ≤ 10000) (w : World) :
    Calls Tryz.prog 7 #[.string (bs s)] w (PrP w (parseR s)) := by
  obtain ⟨i0, hi, hy0, hy1, hy2⟩ := Gr.info_parts infoSt
  have HSP := Lib.hid (split_any s 32 hs)
  have hXL := splR_len 32 s
  have hXC := splR_count 32 s
  have HXN := Lib.hid (splR_ne 32 s)
  have HGE := Lib.hid (guessR_eq s)
  have HPR := Lib.hid (show parseR s = match guessR s with | some c => if s ≠ [] ∧ lineL c = s then some c else none | none => none from rfl)
  have HGU := Lib.hid (fun c (h : guessR s = some c) => guessR_U h)
  have HWA := Lib.hid (word_at (splR 32 s))
  have HWL := Lib.hid (word_len (L := splR 32 s) (M := 10000) fun x hx => Nat.le_trans (hXL x hx) hs)
  have HXC := Lib.hid (show (splR 32 s).length ≤ 10001 by omega)
  generalize splR 32 s = X at *
  generalize guessR s = G at *
  generalize parseR s = O at *
  clear hXL hXC hs
  obtain ⟨w1, hw1⟩ : ∃ w1, w1 = w.alloc (.cells #[.int .i64 0, .int .i64 0, .int .i64 0, .int .u64 0, .slice none 0 0] 25) := ⟨_, rfl⟩
  have HZ1 := Lib.hid (show w1.heap[w.heap.size]? = some (.cells #[.int .i64 0, .int .i64 0, .int .i64 0, .int .u64 0, .slice none 0 0] 25 (0, 0)) by rw [hw1]; exact heap_alloc_new w _)
  have HB1 := Lib.hid (show Below w.heap.size w w1 by rw [hw1]; exact (Below.refl _ _).alloc (Nat.le_refl _) _)
  obtain ⟨z, hz⟩ : ∃ z, z = w.heap.size := ⟨_, rfl⟩
  rw [← hz] at HZ1
  have HZZ := Lib.hid hz
  go_enter Tryz.func7, Tryz.ntmps7
  go_upto_region 1 with fail
  rw [← hw1, ← hz]
  clear hw1 hz
  go_upto_region 2 with fail
  obtain ⟨w2, hw2⟩ : ∃ w2, w2 = w1.alloc (.cells #[.string ({ data := #[111, 112, 101, 110] }), .string ({ data := #[97, 100, 118, 97, 110, 99, 101] }), .string ({ data := #[99, 108, 111, 115, 101] }), .string ({ data := #[117, 112, 100, 97, 116, 101] }), .string ({ data := #[102, 114, 111, 110, 116, 115] }), .string ({ data := #[100, 111, 110, 101] }), .string ({ data := #[119, 97, 105, 116] }), .string ({ data := #[115, 104, 117, 116] })] 9) := ⟨_, rfl⟩
  have hx2 : w2.heap[w1.heap.size]? = some (.cells #[.string ({ data := #[111, 112, 101, 110] }), .string ({ data := #[97, 100, 118, 97, 110, 99, 101] }), .string ({ data := #[99, 108, 111, 115, 101] }), .string ({ data := #[117, 112, 100, 97, 116, 101] }), .string ({ data := #[102, 114, 111, 110, 116, 115] }), .string ({ data := #[100, 111, 110, 101] }), .string ({ data := #[119, 97, 105, 116] }), .string ({ data := #[115, 104, 117, 116] })] 9 (0, 0)) := by rw [hw2]; exact heap_alloc_new w1 _
  have hb2 : Below w1.heap.size w1 w2 := by rw [hw2]; exact (Below.refl _ _).alloc (Nat.le_refl _) _
  rw [← hw2]
  obtain ⟨g, hg⟩ : ∃ g, g = w1.heap.size := ⟨_, rfl⟩
  rw [← hg] at hx2 ⊢
  have HB2 := Lib.hid (HB1.out.trans (hb2.mono HB1.out.size))
  have HZ2 := Lib.hid ((hb2.block z (Array.getElem?_eq_some_iff.1 HZ1.out).1).trans HZ1.out)
  have HN2 := Lib.hid hx2
  clear hw2 hb2 hg hx2
  go_wp2_with fail
  go_at_call 25
  refine (HSP.out w2).mono ?_
  rintro e w3 ⟨vs, rfl, hown, hb⟩
  obtain ⟨hrd, gx, cx, rfl, hgx⟩ := hown.rd HXN.out
  have HB23 := Lib.hid hb
  have hown3 := World.ownsRow.alloc hown (.cells #[.string ({ data := #[] }), .string ({ data := #[] }), .string ({ data := #[] })] 9)
  clear hrd
  go_wp2_with (at_builtin; refine mkS_of ?_)
  unfold MkS
  refine Batch.wpList_append_any _ rfl _ _ 79 79 rfl w2.heap.size 9 9 i0 _ 1 16 Tryz.underlying79 Tryz.underlying79 hi hy0 hy1 hy2 rfl (by decide) _ X.length (X.map fun x => Value.string (bs x)) rfl hown3 (some ⟨w3.heap.size, 0, none⟩) 3 3 [.string (bs []), .string (bs []), .string (bs [])] rfl rfl (.inr ⟨_, rfl, World.news_of_block (cs := #[.string (bs []), .string (bs []), .string (bs [])]) (heap_alloc_new w3 _)⟩) (by simp [Value.oneCell']) (by have := HXC.out; unfold maxLen; omega) (by have := HXC.out; omega) (by have := hb.size; simp; omega) ?_
  intro v4 w4 hA hgA _
  have HO4 := Lib.hid (show OwS w4 w2.heap.size v4 (X ++ [[], [], []]) by
    unfold OwS
    rw [List.length_append, List.map_append]
    exact hA)
  have HB24 := Lib.hid (show Below w2.heap.size w2 w4 from ((hb.alloc hb.size (.cells #[.string ({ data := #[] }), .string ({ data := #[] }), .string ({ data := #[] })] 9)).grown hgA (by have := hb.size; simp; omega) fun k e => (hown3.lt k e).1))
  clear hown hown3 hA hgA hb hgx
  obtain ⟨hrd, gy, cy, rfl, hgy⟩ := HO4.out.rd (by simp)
  obtain ⟨gq, oq, cq, eq, _, hgq, hcs⟩ := hrd
  obtain ⟨rfl, rfl, rfl⟩ := slice_inj eq
  have HCS := Lib.hid (fun i (h : i < 3) => hcs i _ (HWA.out i h))
  have HGY := Lib.hid (And.intro hgq hgy)
  have hlen : 4 ≤ (X ++ [[], [], []]).length := by
    have := List.length_pos_iff.2 HXN.out
    simp; omega
  clear eq hgq hcs hgy
  generalize (X ++ [[], [], []]).length = ny at *
  have HWQ := Lib.hid (And.intro (HWL.out 0 (by decide)) (And.intro (HWL.out 1 (by decide)) (HWL.out 2 (by decide))))
  generalize (X ++ [[], [], []]).getD = D at *
  generalize hq0 : D 0 [] = q0 at *
  generalize hq1 : D 1 [] = q1 at *
  generalize hq2 : D 2 [] = q2 at *
  have k0 := HCS.out 0 (by decide)
  have k1 := HCS.out 1 (by decide)
  have k2 := HCS.out 2 (by decide)
  rw [hq0] at k0
  rw [hq1] at k1
  rw [hq2] at k2
  simp only [Nat.zero_add, Nat.add_zero] at k0 k1 k2
  have HWW := Lib.hid (And.intro k0 (And.intro k1 k2))
  clear k0 k1 k2 hq0 hq1 hq2 HCS HWA HWL
  have HB4 := Lib.hid (HB2.out.trans (HB24.out.mono HB2.out.size))
  have HZ4 := Lib.hid ((HB24.out.block z (Array.getElem?_eq_some_iff.1 HZ2.out).1).trans HZ2.out)
  have HN4 := Lib.hid ((HB24.out.block g (Array.getElem?_eq_some_iff.1 HN2.out).1).trans HN2.out)
  go_wp2_with fail
  go_upto_region 4 with fail
  obtain ⟨w5, hw5⟩ : ∃ w5, w5 = w4.alloc (.cells #[.int .i64 (-1), .int .i64 0, .int .i64 0, .int .u64 0, .slice none 0 0] 25) := ⟨_, rfl⟩
  have hc5 : w5.heap[w4.heap.size]? = some (.cells #[.int .i64 (-1), .int .i64 0, .int .i64 0, .int .u64 0, .slice none 0 0] 25 (0, 0)) := by rw [hw5]; exact heap_alloc_new w4 _
  have hb5 : Below w4.heap.size w4 w5 := by rw [hw5]; exact (Below.refl _ _).alloc (Nat.le_refl _) _
  rw [← hw5]
  obtain ⟨cb, hcb⟩ : ∃ c, c = w4.heap.size := ⟨_, rfl⟩
  rw [← hcb] at hc5 ⊢
  have HB5 := Lib.hid (HB4.out.trans (hb5.mono HB4.out.size))
  have HZ5 := Lib.hid ((hb5.block z (Array.getElem?_eq_some_iff.1 HZ4.out).1).trans HZ4.out)
  have HN5 := Lib.hid ((hb5.block g (Array.getElem?_eq_some_iff.1 HN4.out).1).trans HN4.out)
  have HC5 := Lib.hid hc5
  have HW5 := Lib.hid (And.intro (Kc hb5 HGY.out.1 HWW.out.1) (And.intro (Kc hb5 HGY.out.1 HWW.out.2.1) (Kc hb5 HGY.out.1 HWW.out.2.2)))
  have HLT := Lib.hid (show gy < w5.heap.size ∧ gy ≠ cb ∧ g ≠ cb ∧ z ≠ cb ∧ w.heap.size ≤ z ∧ w.heap.size ≤ cb by
    have h1 := HGY.out
    have h2 := hb5.size
    have h3 := (Array.getElem?_eq_some_iff.1 HN4.out).1
    have h4 := (Array.getElem?_eq_some_iff.1 HZ4.out).1
    have h5 := HZZ.out
    have h6 := HB4.out.size
    omega)
  clear hw5 hb5 hcb hc5
  go_wp2_with fail
  go_loopg [7] 9 (fun k t wr => ∃ i : Nat, i + k = 9 ∧ i ≤ 8 ∧ t = .int .i64 i ∧ Hid (wr.heap[cb]? = some (.cells #[.int .i64 (kUp q0 i), .int .i64 0, .int .i64 0, .int .u64 0, .slice none 0 0] 25 (0, 0))) ∧ Ex cb w5 wr ∧ Below w.heap.size w wr)
  case atStart => exact ⟨0, by omega, by omega, rfl, HC5, Ex.refl _ _, HB5.out⟩
  case round =>
    obtain ⟨i, hik, hil, rfl, HCI, hex, hbw⟩ := hrel
    have HIK := Lib.hid hik
    have HEX := Lib.hid hex
    have HBR := Lib.hid hbw
    have hi0 : (0 : Int) ≤ (i : Int) := Int.natCast_nonneg _
    clear hik hex hbw
    by_cases hlt : i < 8
    · have hi1 : (i : Int) < 8 := by omega
      have kn := HEX.out.cell (Array.getElem?_eq_some_iff.1 HN5.out).1 HLT.out.2.2.1 (nameAt HN5.out i hlt)
      have kq := HEX.out.cell HLT.out.1 HLT.out.2.1 HW5.out.1
      have cf0 := free_of HCI.out 0
      obtain ⟨e0, e1, e2, e3, e4⟩ := cells5 HCI.out
      by_cases hw : wdL i = q0
      · have eT : ((bs (wdL i)).toList == (bs q0).toList) = true := by rw [bs_beq]; exact decide_eq_true hw
        have HU := Lib.hid (show kUp q0 (i + 1) = i from if_pos hw)
        clear hw
        go_upto_region 7 with fail
        go_quiet (fail)
        have HC6 := Lib.hid (heap_setCell_same (wr.drewN nq) cb 0 _ _ (.int .i64 (i : Int)) HCI.out)
        have HE6 := Lib.hid ((HEX.out.below (below_drewN (Below.refl _ _) nq)).set 0 (.int .i64 (i : Int)))
        have HB6 := Lib.hid ((below_drewN HBR.out nq).setCell (p := ⟨cb, 0, none⟩) HLT.out.2.2.2.2.2 (.int .i64 (i : Int)))
        clear kn kq e1 e2 e3 e4
        go_wp2_with fail
        go_roundg (8 - i)
        case measure => have := HIK.out; omega
        case rel => exact ⟨i + 1, by have := HIK.out; omega, by omega, by go_num, by rw [HU.out]; exact HC6, HE6.out, HB6.out⟩
      · have eT : ((bs (wdL i)).toList == (bs q0).toList) = false := by rw [bs_beq]; exact decide_eq_false hw
        have HU := Lib.hid (show kUp q0 (i + 1) = kUp q0 i from if_neg hw)
        clear hw
        go_upto_region 7 with fail
        go_quiet (fail)
        have HE6 := Lib.hid (HEX.out.below (below_drewN (Below.refl _ _) nq))
        have HB6 := Lib.hid (below_drewN HBR.out nq)
        clear kn kq e0 e1 e2 e3 e4
        go_wp2_with fail
        go_roundg (8 - i)
        case measure => have := HIK.out; omega
        case rel => exact ⟨i + 1, by have := HIK.out; omega, by omega, by go_num, by rw [HU.out]; exact HCI, HE6.out, HB6.out⟩
    · have hin : i = 8 := by omega
      subst hin
      rw [kUp_kind] at HCI
      generalize kindOf q0 = k at *
      have HZI := Lib.hid ((HEX.out.2 z (Array.getElem?_eq_some_iff.1 HZ5.out).1 HLT.out.2.2.2.1).trans HZ5.out)
      have HWI := Lib.hid (And.intro (HEX.out.cell HLT.out.1 HLT.out.2.1 HW5.out.2.1) (HEX.out.cell HLT.out.1 HLT.out.2.1 HW5.out.2.2))
      have HGI := Lib.hid (Nat.lt_of_lt_of_le HLT.out.1 HEX.out.1)
      clear hlt hi0
      by_cases h0 : k = 0 ∨ k = 2
      · have HKK := Lib.hid h0
        clear h0
        rcases HKK.out with rfl | rfl
        · have HG := Lib.hid (show G = some ⟨0, intR q1, 0, 0, []⟩ from HGE.out)
          have HBi := HBR
          have HZi := HZI
          have HCi := HCI
          have k1 := HWI.out.1
          obtain ⟨c0, c1, c2, c3, c4⟩ := cells5 HCI.out
          go_wp2_with fail
          go_at_call 26
          refine (int_any q1 (by have := HWQ.out.2.1; omega) _).mono ?_
          rintro e w6 ⟨rfl, hb⟩
          have HB6 := Lib.hid (HBi.out.trans (hb.mono HBi.out.size))
          have HZ6 := Lib.hid ((hb.block z (Array.getElem?_eq_some_iff.1 HZi.out).1).trans HZi.out)
          have HC6 := Lib.hid ((hb.block cb (Array.getElem?_eq_some_iff.1 HCi.out).1).trans HCi.out)
          have k2 := Kc hb HGI.out HWI.out.2
          have HG6 := Lib.hid (Nat.lt_of_lt_of_le HGI.out hb.size)
          clear hb k1 c0 c1 c2 c3 c4
          clear k2
          have cf1 := free_of HC6.out 1
          obtain ⟨c0, c1, c2, c3, c4⟩ := cells5 HC6.out
          go_upto_region 23 with fail
          clear cf1 c0 c1 c2 c3 c4
          obtain ⟨w7, hW⟩ : ∃ W, W = (w6.setCell ⟨cb, 1, none⟩ (.int .i64 (intR q1))) := ⟨_, rfl⟩
          rw [← hW]
          have HC7 := Lib.hid (show w7.heap[cb]? = _ from hW ▸ (heap_setCell_same _ cb 1 _ _ (.int .i64 (intR q1)) HC6.out))
          have HZ7 := Lib.hid (show w7.heap[z]? = _ from hW ▸ ((heap_setCell_other _ _ _ _ HLT.out.2.2.2.1).trans HZ6.out))
          have HB7 := Lib.hid (show Below w.heap.size w w7 from hW ▸ ((HB6.out).setCell (p := ⟨cb, 1, none⟩) HLT.out.2.2.2.2.2 _))
          clear hW
          have HLI := Lib.hid (refLine_any (w := w7) (k := 0) (h := intR q1) (p := 0) (t := 0) (Batch.Rd.nil _) (by simp) (HGU.out _ HG.out).1)
          have HCL := Lib.hid (Array.getElem?_eq_some_iff.1 HC7.out).1
          by_cases h0 : s = []
          · have HO := Lib.hid (show O = none by rw [HPR.out, HG.out]; exact if_neg (fun e => e.1 h0))
            have eE : ((bs s).toList == []) = true := by rw [Lib.toList_data, bs_data, h0]; rfl
            clear h0 HLI
            obtain ⟨z0, z1, z2, z3, z4⟩ := cells5 HZ7.out
            have zf0 := free_of HZ7.out 0
            have zf1 := free_of HZ7.out 1
            have zf2 := free_of HZ7.out 2
            have zf3 := free_of HZ7.out 3
            have zf4 := free_of HZ7.out 4
            have HR5 := Lib.hid (cells5 (heap_setCell_same _ z 4 _ _ (.slice none 0 0) (heap_setCell_same _ z 3 _ _ (.int .u64 0) (heap_setCell_same _ z 2 _ _ (.int .i64 0) (heap_setCell_same _ z 1 _ _ (.int .i64 0) (heap_setCell_same _ z 0 _ _ (.int .i64 0) HZ7.out))))))
            go_wp2_with fail
            obtain ⟨r0, r1, r2, r3, r4⟩ := HR5.out
            have e := HO.out
            subst e
            exact bodyPost_ret (v := .tuple #[.agg #[.int .i64 0, .int .i64 0, .int .i64 0, .int .u64 0, .slice none 0 0], .bool false]) (by simp [results, Tryz.results7, go_sem, r0, r1, r2, r3, r4]) rfl ⟨_, rfl, Batch.Sl.nil _, (((((HB7.out).setCell (p := ⟨z, 0, none⟩) HLT.out.2.2.2.2.1 _).setCell (p := ⟨z, 1, none⟩) HLT.out.2.2.2.2.1 _).setCell (p := ⟨z, 2, none⟩) HLT.out.2.2.2.2.1 _).setCell (p := ⟨z, 3, none⟩) HLT.out.2.2.2.2.1 _).setCell (p := ⟨z, 4, none⟩) HLT.out.2.2.2.2.1 _⟩
          have eE : ((bs s).toList == []) = false := by rw [Lib.toList_data, bs_data, beq_eq_false_iff_ne]; exact h0
          by_cases h1 : lineL ⟨0, intR q1, 0, 0, []⟩ = s
          · have HO := Lib.hid (show O = some ⟨0, intR q1, 0, 0, []⟩ by rw [HPR.out, HG.out]; exact if_pos ⟨h0, h1⟩)
            have eT : ((bs (lineL ⟨0, intR q1, 0, 0, []⟩)).toList == (bs s).toList) = true := by rw [bs_beq]; exact decide_eq_true h1
            clear h0 h1
            generalize lineL ⟨0, intR q1, 0, 0, []⟩ = ll at *
            obtain ⟨d0, d1, d2, d3, d4⟩ := cells5 HC7.out
            go_wp2_with fail
            go_at_call 12
            refine HLI.out.mono ?_
            rintro e wz ⟨rfl, hb⟩
            have HBz := Lib.hid (HB7.out.trans (hb.mono HB7.out.size))
            have HZz := Lib.hid ((hb.block z (Array.getElem?_eq_some_iff.1 HZ7.out).1).trans HZ7.out)
            have HCz := Lib.hid ((hb.block cb HCL.out).trans HC7.out)
            have HSz := Lib.hid ((Batch.Sl.nil w7).below hb)
            clear hb d0 d1 d2 d3 d4
            obtain ⟨d0, d1, d2, d3, d4⟩ := cells5 HCz.out
            obtain ⟨z0, z1, z2, z3, z4⟩ := cells5 HZz.out
            have zf0 := free_of HZz.out 0
            have zf1 := free_of HZz.out 1
            have zf2 := free_of HZz.out 2
            have zf3 := free_of HZz.out 3
            have zf4 := free_of HZz.out 4
            have HR5 := Lib.hid (cells5 (heap_setCell_same _ z 4 _ _ (.slice none 0 0) (heap_setCell_same _ z 3 _ _ (.int .u64 0) (heap_setCell_same _ z 2 _ _ (.int .i64 0) (heap_setCell_same _ z 1 _ _ (.int .i64 (intR q1)) (heap_setCell_same _ z 0 _ _ (.int .i64 0) HZz.out))))))
            go_wp2_with fail
            obtain ⟨r0, r1, r2, r3, r4⟩ := HR5.out
            have e := HO.out
            subst e
            exact bodyPost_ret (v := .tuple #[.agg #[.int .i64 0, .int .i64 (intR q1), .int .i64 0, .int .u64 0, .slice none 0 0], .bool true]) (by simp [results, Tryz.results7, go_sem, r0, r1, r2, r3, r4]) rfl ⟨_, rfl, Batch.Sl.nil _, (((((HBz.out).setCell (p := ⟨z, 0, none⟩) HLT.out.2.2.2.2.1 _).setCell (p := ⟨z, 1, none⟩) HLT.out.2.2.2.2.1 _).setCell (p := ⟨z, 2, none⟩) HLT.out.2.2.2.2.1 _).setCell (p := ⟨z, 3, none⟩) HLT.out.2.2.2.2.1 _).setCell (p := ⟨z, 4, none⟩) HLT.out.2.2.2.2.1 _⟩
          · have HO := Lib.hid (show O = none by rw [HPR.out, HG.out]; exact if_neg (fun e => h1 e.2))
            have eT : ((bs (lineL ⟨0, intR q1, 0, 0, []⟩)).toList == (bs s).toList) = false := by rw [bs_beq]; exact decide_eq_false h1
            clear h0 h1
            generalize lineL ⟨0, intR q1, 0, 0, []⟩ = ll at *
            obtain ⟨d0, d1, d2, d3, d4⟩ := cells5 HC7.out
            go_wp2_with fail
            go_at_call 12
            refine HLI.out.mono ?_
            rintro e wz ⟨rfl, hb⟩
            have HBz := Lib.hid (HB7.out.trans (hb.mono HB7.out.size))
            have HZz := Lib.hid ((hb.block z (Array.getElem?_eq_some_iff.1 HZ7.out).1).trans HZ7.out)
            have HCz := Lib.hid ((hb.block cb HCL.out).trans HC7.out)
            have HSz := Lib.hid ((Batch.Sl.nil w7).below hb)
            clear hb d0 d1 d2 d3 d4
            obtain ⟨z0, z1, z2, z3, z4⟩ := cells5 HZz.out
            have zf0 := free_of HZz.out 0
            have zf1 := free_of HZz.out 1
            have zf2 := free_of HZz.out 2
            have zf3 := free_of HZz.out 3
            have zf4 := free_of HZz.out 4
            have HR5 := Lib.hid (cells5 (heap_setCell_same _ z 4 _ _ (.slice none 0 0) (heap_setCell_same _ z 3 _ _ (.int .u64 0) (heap_setCell_same _ z 2 _ _ (.int .i64 0) (heap_setCell_same _ z 1 _ _ (.int .i64 0) (heap_setCell_same _ z 0 _ _ (.int .i64 0) HZz.out))))))
            go_wp2_with fail
            obtain ⟨r0, r1, r2, r3, r4⟩ := HR5.out
            have e := HO.out
            subst e
            exact bodyPost_ret (v := .tuple #[.agg #[.int .i64 0, .int .i64 0, .int .i64 0, .int .u64 0, .slice none 0 0], .bool false]) (by simp [results, Tryz.results7, go_sem, r0, r1, r2, r3, r4]) rfl ⟨_, rfl, Batch.Sl.nil _, (((((HBz.out).setCell (p := ⟨z, 0, none⟩) HLT.out.2.2.2.2.1 _).setCell (p := ⟨z, 1, none⟩) HLT.out.2.2.2.2.1 _).setCell (p := ⟨z, 2, none⟩) HLT.out.2.2.2.2.1 _).setCell (p := ⟨z, 3, none⟩) HLT.out.2.2.2.2.1 _).setCell (p := ⟨z, 4, none⟩) HLT.out.2.2.2.2.1 _⟩
        · have HG := Lib.hid (show G = some ⟨2, intR q1, 0, 0, []⟩ from HGE.out)
          have HBi := HBR
          have HZi := HZI
          have HCi := HCI
          have k1 := HWI.out.1
          obtain ⟨c0, c1, c2, c3, c4⟩ := cells5 HCI.out
          go_wp2_with fail
          go_at_call 26
          refine (int_any q1 (by have := HWQ.out.2.1; omega) _).mono ?_
          rintro e w6 ⟨rfl, hb⟩
          have HB6 := Lib.hid (HBi.out.trans (hb.mono HBi.out.size))
          have HZ6 := Lib.hid ((hb.block z (Array.getElem?_eq_some_iff.1 HZi.out).1).trans HZi.out)
          have HC6 := Lib.hid ((hb.block cb (Array.getElem?_eq_some_iff.1 HCi.out).1).trans HCi.out)
          have k2 := Kc hb HGI.out HWI.out.2
          have HG6 := Lib.hid (Nat.lt_of_lt_of_le HGI.out hb.size)
          clear hb k1 c0 c1 c2 c3 c4
          clear k2
          have cf1 := free_of HC6.out 1
          obtain ⟨c0, c1, c2, c3, c4⟩ := cells5 HC6.out
          go_upto_region 23 with fail
          clear cf1 c0 c1 c2 c3 c4
          obtain ⟨w7, hW⟩ : ∃ W, W = (w6.setCell ⟨cb, 1, none⟩ (.int .i64 (intR q1))) := ⟨_, rfl⟩
          rw [← hW]
          have HC7 := Lib.hid (show w7.heap[cb]? = _ from hW ▸ (heap_setCell_same _ cb 1 _ _ (.int .i64 (intR q1)) HC6.out))
          have HZ7 := Lib.hid (show w7.heap[z]? = _ from hW ▸ ((heap_setCell_other _ _ _ _ HLT.out.2.2.2.1).trans HZ6.out))
          have HB7 := Lib.hid (show Below w.heap.size w w7 from hW ▸ ((HB6.out).setCell (p := ⟨cb, 1, none⟩) HLT.out.2.2.2.2.2 _))
          clear hW
          have HLI := Lib.hid (refLine_any (w := w7) (k := 2) (h := intR q1) (p := 0) (t := 0) (Batch.Rd.nil _) (by simp) (HGU.out _ HG.out).1)
          have HCL := Lib.hid (Array.getElem?_eq_some_iff.1 HC7.out).1
          by_cases h0 : s = []
          · have HO := Lib.hid (show O = none by rw [HPR.out, HG.out]; exact if_neg (fun e => e.1 h0))
            have eE : ((bs s).toList == []) = true := by rw [Lib.toList_data, bs_data, h0]; rfl
            clear h0 HLI
            obtain ⟨z0, z1, z2, z3, z4⟩ := cells5 HZ7.out
            have zf0 := free_of HZ7.out 0
            have zf1 := free_of HZ7.out 1
            have zf2 := free_of HZ7.out 2
            have zf3 := free_of HZ7.out 3
            have zf4 := free_of HZ7.out 4
            have HR5 := Lib.hid (cells5 (heap_setCell_same _ z 4 _ _ (.slice none 0 0) (heap_setCell_same _ z 3 _ _ (.int .u64 0) (heap_setCell_same _ z 2 _ _ (.int .i64 0) (heap_setCell_same _ z 1 _ _ (.int .i64 0) (heap_setCell_same _ z 0 _ _ (.int .i64 0) HZ7.out))))))
            go_wp2_with fail
            obtain ⟨r0, r1, r2, r3, r4⟩ := HR5.out
            have e := HO.out
            subst e
            exact bodyPost_ret (v := .tuple #[.agg #[.int .i64 0, .int .i64 0, .int .i64 0, .int .u64 0, .slice none 0 0], .bool false]) (by simp [results, Tryz.results7, go_sem, r0, r1, r2, r3, r4]) rfl ⟨_, rfl, Batch.Sl.nil _, (((((HB7.out).setCell (p := ⟨z, 0, none⟩) HLT.out.2.2.2.2.1 _).setCell (p := ⟨z, 1, none⟩) HLT.out.2.2.2.2.1 _).setCell (p := ⟨z, 2, none⟩) HLT.out.2.2.2.2.1 _).setCell (p := ⟨z, 3, none⟩) HLT.out.2.2.2.2.1 _).setCell (p := ⟨z, 4, none⟩) HLT.out.2.2.2.2.1 _⟩
          have eE : ((bs s).toList == []) = false := by rw [Lib.toList_data, bs_data, beq_eq_false_iff_ne]; exact h0
          by_cases h1 : lineL ⟨2, intR q1, 0, 0, []⟩ = s
          · have HO := Lib.hid (show O = some ⟨2, intR q1, 0, 0, []⟩ by rw [HPR.out, HG.out]; exact if_pos ⟨h0, h1⟩)
            have eT : ((bs (lineL ⟨2, intR q1, 0, 0, []⟩)).toList == (bs s).toList) = true := by rw [bs_beq]; exact decide_eq_true h1
            clear h0 h1
            generalize lineL ⟨2, intR q1, 0, 0, []⟩ = ll at *
            obtain ⟨d0, d1, d2, d3, d4⟩ := cells5 HC7.out
            go_wp2_with fail
            go_at_call 12
            refine HLI.out.mono ?_
            rintro e wz ⟨rfl, hb⟩
            have HBz := Lib.hid (HB7.out.trans (hb.mono HB7.out.size))
            have HZz := Lib.hid ((hb.block z (Array.getElem?_eq_some_iff.1 HZ7.out).1).trans HZ7.out)
            have HCz := Lib.hid ((hb.block cb HCL.out).trans HC7.out)
            have HSz := Lib.hid ((Batch.Sl.nil w7).below hb)
            clear hb d0 d1 d2 d3 d4
            obtain ⟨d0, d1, d2, d3, d4⟩ := cells5 HCz.out
            obtain ⟨z0, z1, z2, z3, z4⟩ := cells5 HZz.out
            have zf0 := free_of HZz.out 0
            have zf1 := free_of HZz.out 1
            have zf2 := free_of HZz.out 2
            have zf3 := free_of HZz.out 3
            have zf4 := free_of HZz.out 4
            have HR5 := Lib.hid (cells5 (heap_setCell_same _ z 4 _ _ (.slice none 0 0) (heap_setCell_same _ z 3 _ _ (.int .u64 0) (heap_setCell_same _ z 2 _ _ (.int .i64 0) (heap_setCell_same _ z 1 _ _ (.int .i64 (intR q1)) (heap_setCell_same _ z 0 _ _ (.int .i64 2) HZz.out))))))
            go_wp2_with fail
            obtain ⟨r0, r1, r2, r3, r4⟩ := HR5.out
            have e := HO.out
            subst e
            exact bodyPost_ret (v := .tuple #[.agg #[.int .i64 2, .int .i64 (intR q1), .int .i64 0, .int .u64 0, .slice none 0 0], .bool true]) (by simp [results, Tryz.results7, go_sem, r0, r1, r2, r3, r4]) rfl ⟨_, rfl, Batch.Sl.nil _, (((((HBz.out).setCell (p := ⟨z, 0, none⟩) HLT.out.2.2.2.2.1 _).setCell (p := ⟨z, 1, none⟩) HLT.out.2.2.2.2.1 _).setCell (p := ⟨z, 2, none⟩) HLT.out.2.2.2.2.1 _).setCell (p := ⟨z, 3, none⟩) HLT.out.2.2.2.2.1 _).setCell (p := ⟨z, 4, none⟩) HLT.out.2.2.2.2.1 _⟩
          · have HO := Lib.hid (show O = none by rw [HPR.out, HG.out]; exact if_neg (fun e => h1 e.2))
            have eT : ((bs (lineL ⟨2, intR q1, 0, 0, []⟩)).toList == (bs s).toList) = false := by rw [bs_beq]; exact decide_eq_false h1
            clear h0 h1
            generalize lineL ⟨2, intR q1, 0, 0, []⟩ = ll at *
            obtain ⟨d0, d1, d2, d3, d4⟩ := cells5 HC7.out
            go_wp2_with fail
            go_at_call 12
            refine HLI.out.mono ?_
            rintro e wz ⟨rfl, hb⟩
            have HBz := Lib.hid (HB7.out.trans (hb.mono HB7.out.size))
            have HZz := Lib.hid ((hb.block z (Array.getElem?_eq_some_iff.1 HZ7.out).1).trans HZ7.out)
            have HCz := Lib.hid ((hb.block cb HCL.out).trans HC7.out)
            have HSz := Lib.hid ((Batch.Sl.nil w7).below hb)
            clear hb d0 d1 d2 d3 d4
            obtain ⟨z0, z1, z2, z3, z4⟩ := cells5 HZz.out
            have zf0 := free_of HZz.out 0
            have zf1 := free_of HZz.out 1
            have zf2 := free_of HZz.out 2
            have zf3 := free_of HZz.out 3
            have zf4 := free_of HZz.out 4
            have HR5 := Lib.hid (cells5 (heap_setCell_same _ z 4 _ _ (.slice none 0 0) (heap_setCell_same _ z 3 _ _ (.int .u64 0) (heap_setCell_same _ z 2 _ _ (.int .i64 0) (heap_setCell_same _ z 1 _ _ (.int .i64 0) (heap_setCell_same _ z 0 _ _ (.int .i64 0) HZz.out))))))
            go_wp2_with fail
            obtain ⟨r0, r1, r2, r3, r4⟩ := HR5.out
            have e := HO.out
            subst e
            exact bodyPost_ret (v := .tuple #[.agg #[.int .i64 0, .int .i64 0, .int .i64 0, .int .u64 0, .slice none 0 0], .bool false]) (by simp [results, Tryz.results7, go_sem, r0, r1, r2, r3, r4]) rfl ⟨_, rfl, Batch.Sl.nil _, (((((HBz.out).setCell (p := ⟨z, 0, none⟩) HLT.out.2.2.2.2.1 _).setCell (p := ⟨z, 1, none⟩) HLT.out.2.2.2.2.1 _).setCell (p := ⟨z, 2, none⟩) HLT.out.2.2.2.2.1 _).setCell (p := ⟨z, 3, none⟩) HLT.out.2.2.2.2.1 _).setCell (p := ⟨z, 4, none⟩) HLT.out.2.2.2.2.1 _⟩
      by_cases h1 : k = 1
      · have HKK := Lib.hid h1
        clear h0 h1
        obtain rfl := HKK.out
        have HBi := HBR
        have HZi := HZI
        have HCi := HCI
        cases hpb : parL q2
        · have HG := Lib.hid (show G = none by rw [HGE.out]; show (parL q2).map _ = none; rw [hpb]; rfl)
          have HOK := Lib.hid (show okL q2 = false by unfold okL; rw [hpb]; rfl)
          have HTV := Lib.hid (show timeV q2 = 0 by unfold timeV; rw [hpb]; rfl)
          clear hpb
          have k1 := HWI.out.1
          obtain ⟨c0, c1, c2, c3, c4⟩ := cells5 HCI.out
          go_wp2_with fail
          go_at_call 26
          refine (int_any q1 (by have := HWQ.out.2.1; omega) _).mono ?_
          rintro e w6 ⟨rfl, hb⟩
          have HB6 := Lib.hid (HBi.out.trans (hb.mono HBi.out.size))
          have HZ6 := Lib.hid ((hb.block z (Array.getElem?_eq_some_iff.1 HZi.out).1).trans HZi.out)
          have HC6 := Lib.hid ((hb.block cb (Array.getElem?_eq_some_iff.1 HCi.out).1).trans HCi.out)
          have k2 := Kc hb HGI.out HWI.out.2
          have HG6 := Lib.hid (Nat.lt_of_lt_of_le HGI.out hb.size)
          clear hb k1 c0 c1 c2 c3 c4
          have cf1 := free_of HC6.out 1
          obtain ⟨c0, c1, c2, c3, c4⟩ := cells5 HC6.out
          go_upto_region 16 with fail
          clear cf1 c0 c1 c2 c3 c4
          obtain ⟨w7, hW⟩ : ∃ W, W = (w6.setCell ⟨cb, 1, none⟩ (.int .i64 (intR q1))) := ⟨_, rfl⟩
          rw [← hW]
          have HC7 := Lib.hid (show w7.heap[cb]? = _ from hW ▸ (heap_setCell_same _ cb 1 _ _ (.int .i64 (intR q1)) HC6.out))
          have HZ7 := Lib.hid (show w7.heap[z]? = _ from hW ▸ ((heap_setCell_other _ _ _ _ HLT.out.2.2.2.1).trans HZ6.out))
          have HB7 := Lib.hid (show Below w.heap.size w w7 from hW ▸ ((HB6.out).setCell (p := ⟨cb, 1, none⟩) HLT.out.2.2.2.2.2 _))
          have k3 : w7.cell? ⟨gy, 2, none⟩ = _ := hW ▸ (World.cell?_setCell_far _ _ _ _ (Ne.symm HLT.out.2.1)).trans k2
          clear hW k2
          obtain ⟨c0, c1, c2, c3, c4⟩ := cells5 HC7.out
          go_wp2_with fail
          go_at_call 27
          refine (scTime_any q2 (by have := HWQ.out.2.2; omega) _).mono ?_
          rintro e w8 ⟨rfl, hb⟩
          rw [HOK.out, HTV.out]
          have HB8 := Lib.hid (HB7.out.trans (hb.mono HB7.out.size))
          have HZ8 := Lib.hid ((hb.block z (Array.getElem?_eq_some_iff.1 HZ7.out).1).trans HZ7.out)
          have HC8 := Lib.hid ((hb.block cb (Array.getElem?_eq_some_iff.1 HC7.out).1).trans HC7.out)
          clear hb c0 c1 c2 c3 c4 k3
          have cf3 := free_of HC8.out 3
          obtain ⟨c0, c1, c2, c3, c4⟩ := cells5 HC8.out
          go_upto_region 23 with fail
          clear cf3 c0 c1 c2 c3 c4
          obtain ⟨w9, hW⟩ : ∃ W, W = (w8.setCell ⟨cb, 3, none⟩ (.int .u64 0)) := ⟨_, rfl⟩
          rw [← hW]
          have HC9 := Lib.hid (show w9.heap[cb]? = _ from hW ▸ (heap_setCell_same _ cb 3 _ _ (.int .u64 0) HC8.out))
          have HZ9 := Lib.hid (show w9.heap[z]? = _ from hW ▸ ((heap_setCell_other _ _ _ _ HLT.out.2.2.2.1).trans HZ8.out))
          have HB9 := Lib.hid (show Below w.heap.size w w9 from hW ▸ ((HB8.out).setCell (p := ⟨cb, 3, none⟩) HLT.out.2.2.2.2.2 _))
          clear hW
          have HO := Lib.hid (show O = none by rw [HPR.out, HG.out])
          obtain ⟨z0, z1, z2, z3, z4⟩ := cells5 HZ9.out
          have zf0 := free_of HZ9.out 0
          have zf1 := free_of HZ9.out 1
          have zf2 := free_of HZ9.out 2
          have zf3 := free_of HZ9.out 3
          have zf4 := free_of HZ9.out 4
          have HR5 := Lib.hid (cells5 (heap_setCell_same _ z 4 _ _ (.slice none 0 0) (heap_setCell_same _ z 3 _ _ (.int .u64 0) (heap_setCell_same _ z 2 _ _ (.int .i64 0) (heap_setCell_same _ z 1 _ _ (.int .i64 0) (heap_setCell_same _ z 0 _ _ (.int .i64 0) HZ9.out))))))
          go_wp2_with fail
          obtain ⟨r0, r1, r2, r3, r4⟩ := HR5.out
          have e := HO.out
          subst e
          exact bodyPost_ret (v := .tuple #[.agg #[.int .i64 0, .int .i64 0, .int .i64 0, .int .u64 0, .slice none 0 0], .bool false]) (by simp [results, Tryz.results7, go_sem, r0, r1, r2, r3, r4]) rfl ⟨_, rfl, Batch.Sl.nil _, (((((HB9.out).setCell (p := ⟨z, 0, none⟩) HLT.out.2.2.2.2.1 _).setCell (p := ⟨z, 1, none⟩) HLT.out.2.2.2.2.1 _).setCell (p := ⟨z, 2, none⟩) HLT.out.2.2.2.2.1 _).setCell (p := ⟨z, 3, none⟩) HLT.out.2.2.2.2.1 _).setCell (p := ⟨z, 4, none⟩) HLT.out.2.2.2.2.1 _⟩
        · rename_i t
          have HG := Lib.hid (show G = some ⟨1, intR q1, 0, (t : Int), []⟩ by rw [HGE.out]; show (parL q2).map _ = some _; rw [hpb]; rfl)
          have HOK := Lib.hid (show okL q2 = true by unfold okL; rw [hpb]; rfl)
          have HTV := Lib.hid (show timeV q2 = (t : Int) by unfold timeV; rw [hpb]; rfl)
          clear hpb
          have k1 := HWI.out.1
          obtain ⟨c0, c1, c2, c3, c4⟩ := cells5 HCI.out
          go_wp2_with fail
          go_at_call 26
          refine (int_any q1 (by have := HWQ.out.2.1; omega) _).mono ?_
          rintro e w6 ⟨rfl, hb⟩
          have HB6 := Lib.hid (HBi.out.trans (hb.mono HBi.out.size))
          have HZ6 := Lib.hid ((hb.block z (Array.getElem?_eq_some_iff.1 HZi.out).1).trans HZi.out)
          have HC6 := Lib.hid ((hb.block cb (Array.getElem?_eq_some_iff.1 HCi.out).1).trans HCi.out)
          have k2 := Kc hb HGI.out HWI.out.2
          have HG6 := Lib.hid (Nat.lt_of_lt_of_le HGI.out hb.size)
          clear hb k1 c0 c1 c2 c3 c4
          have cf1 := free_of HC6.out 1
          obtain ⟨c0, c1, c2, c3, c4⟩ := cells5 HC6.out
          go_upto_region 16 with fail
          clear cf1 c0 c1 c2 c3 c4
          obtain ⟨w7, hW⟩ : ∃ W, W = (w6.setCell ⟨cb, 1, none⟩ (.int .i64 (intR q1))) := ⟨_, rfl⟩
          rw [← hW]
          have HC7 := Lib.hid (show w7.heap[cb]? = _ from hW ▸ (heap_setCell_same _ cb 1 _ _ (.int .i64 (intR q1)) HC6.out))
          have HZ7 := Lib.hid (show w7.heap[z]? = _ from hW ▸ ((heap_setCell_other _ _ _ _ HLT.out.2.2.2.1).trans HZ6.out))
          have HB7 := Lib.hid (show Below w.heap.size w w7 from hW ▸ ((HB6.out).setCell (p := ⟨cb, 1, none⟩) HLT.out.2.2.2.2.2 _))
          have k3 : w7.cell? ⟨gy, 2, none⟩ = _ := hW ▸ (World.cell?_setCell_far _ _ _ _ (Ne.symm HLT.out.2.1)).trans k2
          clear hW k2
          obtain ⟨c0, c1, c2, c3, c4⟩ := cells5 HC7.out
          go_wp2_with fail
          go_at_call 27
          refine (scTime_any q2 (by have := HWQ.out.2.2; omega) _).mono ?_
          rintro e w8 ⟨rfl, hb⟩
          rw [HOK.out, HTV.out]
          have HB8 := Lib.hid (HB7.out.trans (hb.mono HB7.out.size))
          have HZ8 := Lib.hid ((hb.block z (Array.getElem?_eq_some_iff.1 HZ7.out).1).trans HZ7.out)
          have HC8 := Lib.hid ((hb.block cb (Array.getElem?_eq_some_iff.1 HC7.out).1).trans HC7.out)
          clear hb c0 c1 c2 c3 c4 k3
          have cf3 := free_of HC8.out 3
          obtain ⟨c0, c1, c2, c3, c4⟩ := cells5 HC8.out
          go_upto_region 23 with fail
          clear cf3 c0 c1 c2 c3 c4
          obtain ⟨w9, hW⟩ : ∃ W, W = (w8.setCell ⟨cb, 3, none⟩ (.int .u64 (t : Int))) := ⟨_, rfl⟩
          rw [← hW]
          have HC9 := Lib.hid (show w9.heap[cb]? = _ from hW ▸ (heap_setCell_same _ cb 3 _ _ (.int .u64 (t : Int)) HC8.out))
          have HZ9 := Lib.hid (show w9.heap[z]? = _ from hW ▸ ((heap_setCell_other _ _ _ _ HLT.out.2.2.2.1).trans HZ8.out))
          have HB9 := Lib.hid (show Below w.heap.size w w9 from hW ▸ ((HB8.out).setCell (p := ⟨cb, 3, none⟩) HLT.out.2.2.2.2.2 _))
          clear hW
          have HLI := Lib.hid (refLine_any (w := w9) (k := 1) (h := intR q1) (p := 0) (t := (t : Int)) (Batch.Rd.nil _) (by simp) (HGU.out _ HG.out).1)
          have HCL := Lib.hid (Array.getElem?_eq_some_iff.1 HC9.out).1
          by_cases h0 : s = []
          · have HO := Lib.hid (show O = none by rw [HPR.out, HG.out]; exact if_neg (fun e => e.1 h0))
            have eE : ((bs s).toList == []) = true := by rw [Lib.toList_data, bs_data, h0]; rfl
            clear h0 HLI
            obtain ⟨z0, z1, z2, z3, z4⟩ := cells5 HZ9.out
            have zf0 := free_of HZ9.out 0
            have zf1 := free_of HZ9.out 1
            have zf2 := free_of HZ9.out 2
            have zf3 := free_of HZ9.out 3
            have zf4 := free_of HZ9.out 4
            have HR5 := Lib.hid (cells5 (heap_setCell_same _ z 4 _ _ (.slice none 0 0) (heap_setCell_same _ z 3 _ _ (.int .u64 0) (heap_setCell_same _ z 2 _ _ (.int .i64 0) (heap_setCell_same _ z 1 _ _ (.int .i64 0) (heap_setCell_same _ z 0 _ _ (.int .i64 0) HZ9.out))))))
            go_wp2_with fail
            obtain ⟨r0, r1, r2, r3, r4⟩ := HR5.out
            have e := HO.out
            subst e
            exact bodyPost_ret (v := .tuple #[.agg #[.int .i64 0, .int .i64 0, .int .i64 0, .int .u64 0, .slice none 0 0], .bool false]) (by simp [results, Tryz.results7, go_sem, r0, r1, r2, r3, r4]) rfl ⟨_, rfl, Batch.Sl.nil _, (((((HB9.out).setCell (p := ⟨z, 0, none⟩) HLT.out.2.2.2.2.1 _).setCell (p := ⟨z, 1, none⟩) HLT.out.2.2.2.2.1 _).setCell (p := ⟨z, 2, none⟩) HLT.out.2.2.2.2.1 _).setCell (p := ⟨z, 3, none⟩) HLT.out.2.2.2.2.1 _).setCell (p := ⟨z, 4, none⟩) HLT.out.2.2.2.2.1 _⟩
          have eE : ((bs s).toList == []) = false := by rw [Lib.toList_data, bs_data, beq_eq_false_iff_ne]; exact h0
          by_cases h1 : lineL ⟨1, intR q1, 0, (t : Int), []⟩ = s
          · have HO := Lib.hid (show O = some ⟨1, intR q1, 0, (t : Int), []⟩ by rw [HPR.out, HG.out]; exact if_pos ⟨h0, h1⟩)
            have eT : ((bs (lineL ⟨1, intR q1, 0, (t : Int), []⟩)).toList == (bs s).toList) = true := by rw [bs_beq]; exact decide_eq_true h1
            clear h0 h1
            generalize lineL ⟨1, intR q1, 0, (t : Int), []⟩ = ll at *
            obtain ⟨d0, d1, d2, d3, d4⟩ := cells5 HC9.out
            go_wp2_with fail
            go_at_call 12
            refine HLI.out.mono ?_
            rintro e wz ⟨rfl, hb⟩
            have HBz := Lib.hid (HB9.out.trans (hb.mono HB9.out.size))
            have HZz := Lib.hid ((hb.block z (Array.getElem?_eq_some_iff.1 HZ9.out).1).trans HZ9.out)
            have HCz := Lib.hid ((hb.block cb HCL.out).trans HC9.out)
            have HSz := Lib.hid ((Batch.Sl.nil w9).below hb)
            clear hb d0 d1 d2 d3 d4
            obtain ⟨d0, d1, d2, d3, d4⟩ := cells5 HCz.out
            obtain ⟨z0, z1, z2, z3, z4⟩ := cells5 HZz.out
            have zf0 := free_of HZz.out 0
            have zf1 := free_of HZz.out 1
            have zf2 := free_of HZz.out 2
            have zf3 := free_of HZz.out 3
            have zf4 := free_of HZz.out 4
            have HR5 := Lib.hid (cells5 (heap_setCell_same _ z 4 _ _ (.slice none 0 0) (heap_setCell_same _ z 3 _ _ (.int .u64 (t : Int)) (heap_setCell_same _ z 2 _ _ (.int .i64 0) (heap_setCell_same _ z 1 _ _ (.int .i64 (intR q1)) (heap_setCell_same _ z 0 _ _ (.int .i64 1) HZz.out))))))
            go_wp2_with fail
            obtain ⟨r0, r1, r2, r3, r4⟩ := HR5.out
            have e := HO.out
            subst e
            exact bodyPost_ret (v := .tuple #[.agg #[.int .i64 1, .int .i64 (intR q1), .int .i64 0, .int .u64 (t : Int), .slice none 0 0], .bool true]) (by simp [results, Tryz.results7, go_sem, r0, r1, r2, r3, r4]) rfl ⟨_, rfl, Batch.Sl.nil _, (((((HBz.out).setCell (p := ⟨z, 0, none⟩) HLT.out.2.2.2.2.1 _).setCell (p := ⟨z, 1, none⟩) HLT.out.2.2.2.2.1 _).setCell (p := ⟨z, 2, none⟩) HLT.out.2.2.2.2.1 _).setCell (p := ⟨z, 3, none⟩) HLT.out.2.2.2.2.1 _).setCell (p := ⟨z, 4, none⟩) HLT.out.2.2.2.2.1 _⟩
          · have HO := Lib.hid (show O = none by rw [HPR.out, HG.out]; exact if_neg (fun e => h1 e.2))
            have eT : ((bs (lineL ⟨1, intR q1, 0, (t : Int), []⟩)).toList == (bs s).toList) = false := by rw [bs_beq]; exact decide_eq_false h1
            clear h0 h1
            generalize lineL ⟨1, intR q1, 0, (t : Int), []⟩ = ll at *
            obtain ⟨d0, d1, d2, d3, d4⟩ := cells5 HC9.out
            go_wp2_with fail
            go_at_call 12
            refine HLI.out.mono ?_
            rintro e wz ⟨rfl, hb⟩
            have HBz := Lib.hid (HB9.out.trans (hb.mono HB9.out.size))
            have HZz := Lib.hid ((hb.block z (Array.getElem?_eq_some_iff.1 HZ9.out).1).trans HZ9.out)
            have HCz := Lib.hid ((hb.block cb HCL.out).trans HC9.out)
            have HSz := Lib.hid ((Batch.Sl.nil w9).below hb)
            clear hb d0 d1 d2 d3 d4
            obtain ⟨z0, z1, z2, z3, z4⟩ := cells5 HZz.out
            have zf0 := free_of HZz.out 0
            have zf1 := free_of HZz.out 1
            have zf2 := free_of HZz.out 2
            have zf3 := free_of HZz.out 3
            have zf4 := free_of HZz.out 4
            have HR5 := Lib.hid (cells5 (heap_setCell_same _ z 4 _ _ (.slice none 0 0) (heap_setCell_same _ z 3 _ _ (.int .u64 0) (heap_setCell_same _ z 2 _ _ (.int .i64 0) (heap_setCell_same _ z 1 _ _ (.int .i64 0) (heap_setCell_same _ z 0 _ _ (.int .i64 0) HZz.out))))))
            go_wp2_with fail
            obtain ⟨r0, r1, r2, r3, r4⟩ := HR5.out
            have e := HO.out
            subst e
            exact bodyPost_ret (v := .tuple #[.agg #[.int .i64 0, .int .i64 0, .int .i64 0, .int .u64 0, .slice none 0 0], .bool false]) (by simp [results, Tryz.results7, go_sem, r0, r1, r2, r3, r4]) rfl ⟨_, rfl, Batch.Sl.nil _, (((((HBz.out).setCell (p := ⟨z, 0, none⟩) HLT.out.2.2.2.2.1 _).setCell (p := ⟨z, 1, none⟩) HLT.out.2.2.2.2.1 _).setCell (p := ⟨z, 2, none⟩) HLT.out.2.2.2.2.1 _).setCell (p := ⟨z, 3, none⟩) HLT.out.2.2.2.2.1 _).setCell (p := ⟨z, 4, none⟩) HLT.out.2.2.2.2.1 _⟩
      by_cases h3 : k = 3
      · have HKK := Lib.hid h3
        clear h0 h1 h3
        obtain rfl := HKK.out
        have HBi := HBR
        have HZi := HZI
        have HCi := HCI
        have k1 := HWI.out.1
        obtain ⟨c0, c1, c2, c3, c4⟩ := cells5 HCI.out
        have HUW := Lib.hid (fun l (h : unL (splR 44 q1) = some l) => And.intro (unL_wf h) (unL_length h))
        have HUC := Lib.hid (show (splR 44 q1).length ≤ 10001 by have := splR_count 44 q1; have := HWQ.out.2.1; omega)
        go_wp2_with fail
        go_at_call 28
        refine (unch_any q1 (by have := HWQ.out.2.1; omega) _).mono ?_
        rintro e w6 ⟨vl, rfl, hol, hb⟩
        have HB6 := Lib.hid (HBi.out.trans (hb.mono HBi.out.size))
        have HZ6 := Lib.hid ((hb.block z (Array.getElem?_eq_some_iff.1 HZi.out).1).trans HZi.out)
        have HC6 := Lib.hid ((hb.block cb (Array.getElem?_eq_some_iff.1 HCi.out).1).trans HCi.out)
        have HOL := Lib.hid hol
        have HWZ := Lib.hid (show z < wr.heap.size ∧ cb < wr.heap.size from ⟨(Array.getElem?_eq_some_iff.1 HZI.out).1, (Array.getElem?_eq_some_iff.1 HCI.out).1⟩)
        obtain ⟨va, vn, vk, rfl⟩ : ∃ a n k, vl = .slice a n k := by rcases hol.2 with ⟨hv, h0⟩ | ⟨g, c, _, hv, _⟩; exact ⟨_, _, _, hv⟩; exact ⟨_, _, _, hv⟩
        have HNW := Lib.hid (show ∀ g n k, (.slice va vn vk : Value) = .slice (some g) n k → wr.heap.size ≤ g.block from fun g n k e => (World.ownsRow.lt hol g.block (by simp only [Value.slice.injEq] at e; obtain ⟨rfl, _, _⟩ := e; rfl)).1)
        clear hb hol k1 c0 c1 c2 c3 c4
        cases hpb : unL (splR 44 q1)
        · have HG := Lib.hid (show G = none by rw [HGE.out]; show (unL (splR 44 q1)).map _ = none; rw [hpb]; rfl)
          rw [hpb] at HOL
          have cf4 := free_of HC6.out 4
          obtain ⟨c0, c1, c2, c3, c4⟩ := cells5 HC6.out
          clear hpb
          go_upto_region 23 with fail
          clear cf4 c0 c1 c2 c3 c4
          obtain ⟨w7, hW⟩ : ∃ W, W = (w6.setCell ⟨cb, 4, none⟩ (.slice va vn vk)) := ⟨_, rfl⟩
          rw [← hW]
          have HC7 := Lib.hid (show w7.heap[cb]? = _ from hW ▸ (heap_setCell_same _ cb 4 _ _ (.slice va vn vk) HC6.out))
          have HZ7 := Lib.hid (show w7.heap[z]? = _ from hW ▸ ((heap_setCell_other _ _ _ _ HLT.out.2.2.2.1).trans HZ6.out))
          have HB7 := Lib.hid (show Below w.heap.size w w7 from hW ▸ ((HB6.out).setCell (p := ⟨cb, 4, none⟩) HLT.out.2.2.2.2.2 _))
          have HO7 := Lib.hid (show Batch.Own w7 wr.heap.size 117 _ _ from hW ▸ ownsRow_setCell_other HOL.out (fun e => by have h1 := (World.ownsRow.lt HOL.out cb e).1; have h2 := HWZ.out; omega) (.slice va vn vk))
          clear hW
          have HO := Lib.hid (show O = none by rw [HPR.out, HG.out])
          obtain ⟨z0, z1, z2, z3, z4⟩ := cells5 HZ7.out
          have zf0 := free_of HZ7.out 0
          have zf1 := free_of HZ7.out 1
          have zf2 := free_of HZ7.out 2
          have zf3 := free_of HZ7.out 3
          have zf4 := free_of HZ7.out 4
          have HR5 := Lib.hid (cells5 (heap_setCell_same _ z 4 _ _ (.slice none 0 0) (heap_setCell_same _ z 3 _ _ (.int .u64 0) (heap_setCell_same _ z 2 _ _ (.int .i64 0) (heap_setCell_same _ z 1 _ _ (.int .i64 0) (heap_setCell_same _ z 0 _ _ (.int .i64 0) HZ7.out))))))
          go_wp2_with fail
          obtain ⟨r0, r1, r2, r3, r4⟩ := HR5.out
          have e := HO.out
          subst e
          exact bodyPost_ret (v := .tuple #[.agg #[.int .i64 0, .int .i64 0, .int .i64 0, .int .u64 0, .slice none 0 0], .bool false]) (by simp [results, Tryz.results7, go_sem, r0, r1, r2, r3, r4]) rfl ⟨_, rfl, Batch.Sl.nil _, (((((HB7.out).setCell (p := ⟨z, 0, none⟩) HLT.out.2.2.2.2.1 _).setCell (p := ⟨z, 1, none⟩) HLT.out.2.2.2.2.1 _).setCell (p := ⟨z, 2, none⟩) HLT.out.2.2.2.2.1 _).setCell (p := ⟨z, 3, none⟩) HLT.out.2.2.2.2.1 _).setCell (p := ⟨z, 4, none⟩) HLT.out.2.2.2.2.1 _⟩
        · rename_i l
          have HG := Lib.hid (show G = some ⟨3, 0, 0, 0, l⟩ by rw [HGE.out]; show (unL (splR 44 q1)).map _ = some _; rw [hpb]; rfl)
          have HWF := Lib.hid (HUW.out l hpb)
          rw [hpb] at HOL
          have cf4 := free_of HC6.out 4
          obtain ⟨c0, c1, c2, c3, c4⟩ := cells5 HC6.out
          clear hpb
          go_upto_region 23 with fail
          clear cf4 c0 c1 c2 c3 c4
          obtain ⟨w7, hW⟩ : ∃ W, W = (w6.setCell ⟨cb, 4, none⟩ (.slice va vn vk)) := ⟨_, rfl⟩
          rw [← hW]
          have HC7 := Lib.hid (show w7.heap[cb]? = _ from hW ▸ (heap_setCell_same _ cb 4 _ _ (.slice va vn vk) HC6.out))
          have HZ7 := Lib.hid (show w7.heap[z]? = _ from hW ▸ ((heap_setCell_other _ _ _ _ HLT.out.2.2.2.1).trans HZ6.out))
          have HB7 := Lib.hid (show Below w.heap.size w w7 from hW ▸ ((HB6.out).setCell (p := ⟨cb, 4, none⟩) HLT.out.2.2.2.2.2 _))
          have HO7 := Lib.hid (show Batch.Own w7 wr.heap.size 117 _ _ from hW ▸ ownsRow_setCell_other HOL.out (fun e => by have h1 := (World.ownsRow.lt HOL.out cb e).1; have h2 := HWZ.out; omega) (.slice va vn vk))
          clear hW
          have HSL := Lib.hid (show Batch.Sl w7 (.slice va vn vk) l from HO7.out.sl HWF.out.1)
          have HLI := Lib.hid (refLine_any (w := w7) (k := 3) (h := 0) (p := 0) (t := 0) HSL.out.rd (by have h1 := HWF.out.2; have h2 := HUC.out; omega) (HGU.out _ HG.out).1)
          have HCL := Lib.hid (Array.getElem?_eq_some_iff.1 HC7.out).1
          by_cases h0 : s = []
          · have HO := Lib.hid (show O = none by rw [HPR.out, HG.out]; exact if_neg (fun e => e.1 h0))
            have eE : ((bs s).toList == []) = true := by rw [Lib.toList_data, bs_data, h0]; rfl
            clear h0 HLI
            obtain ⟨z0, z1, z2, z3, z4⟩ := cells5 HZ7.out
            have zf0 := free_of HZ7.out 0
            have zf1 := free_of HZ7.out 1
            have zf2 := free_of HZ7.out 2
            have zf3 := free_of HZ7.out 3
            have zf4 := free_of HZ7.out 4
            have HR5 := Lib.hid (cells5 (heap_setCell_same _ z 4 _ _ (.slice none 0 0) (heap_setCell_same _ z 3 _ _ (.int .u64 0) (heap_setCell_same _ z 2 _ _ (.int .i64 0) (heap_setCell_same _ z 1 _ _ (.int .i64 0) (heap_setCell_same _ z 0 _ _ (.int .i64 0) HZ7.out))))))
            go_wp2_with fail
            obtain ⟨r0, r1, r2, r3, r4⟩ := HR5.out
            have e := HO.out
            subst e
            exact bodyPost_ret (v := .tuple #[.agg #[.int .i64 0, .int .i64 0, .int .i64 0, .int .u64 0, .slice none 0 0], .bool false]) (by simp [results, Tryz.results7, go_sem, r0, r1, r2, r3, r4]) rfl ⟨_, rfl, Batch.Sl.nil _, (((((HB7.out).setCell (p := ⟨z, 0, none⟩) HLT.out.2.2.2.2.1 _).setCell (p := ⟨z, 1, none⟩) HLT.out.2.2.2.2.1 _).setCell (p := ⟨z, 2, none⟩) HLT.out.2.2.2.2.1 _).setCell (p := ⟨z, 3, none⟩) HLT.out.2.2.2.2.1 _).setCell (p := ⟨z, 4, none⟩) HLT.out.2.2.2.2.1 _⟩
          have eE : ((bs s).toList == []) = false := by rw [Lib.toList_data, bs_data, beq_eq_false_iff_ne]; exact h0
          by_cases h1 : lineL ⟨3, 0, 0, 0, l⟩ = s
          · have HO := Lib.hid (show O = some ⟨3, 0, 0, 0, l⟩ by rw [HPR.out, HG.out]; exact if_pos ⟨h0, h1⟩)
            have eT : ((bs (lineL ⟨3, 0, 0, 0, l⟩)).toList == (bs s).toList) = true := by rw [bs_beq]; exact decide_eq_true h1
            clear h0 h1
            generalize lineL ⟨3, 0, 0, 0, l⟩ = ll at *
            obtain ⟨d0, d1, d2, d3, d4⟩ := cells5 HC7.out
            go_wp2_with fail
            go_at_call 12
            refine HLI.out.mono ?_
            rintro e wz ⟨rfl, hb⟩
            have HBz := Lib.hid (HB7.out.trans (hb.mono HB7.out.size))
            have HZz := Lib.hid ((hb.block z (Array.getElem?_eq_some_iff.1 HZ7.out).1).trans HZ7.out)
            have HCz := Lib.hid ((hb.block cb HCL.out).trans HC7.out)
            have HSz := Lib.hid (HSL.out.below hb)
            clear hb d0 d1 d2 d3 d4
            obtain ⟨d0, d1, d2, d3, d4⟩ := cells5 HCz.out
            obtain ⟨z0, z1, z2, z3, z4⟩ := cells5 HZz.out
            have zf0 := free_of HZz.out 0
            have zf1 := free_of HZz.out 1
            have zf2 := free_of HZz.out 2
            have zf3 := free_of HZz.out 3
            have zf4 := free_of HZz.out 4
            have HR5 := Lib.hid (cells5 (heap_setCell_same _ z 4 _ _ (.slice va vn vk) (heap_setCell_same _ z 3 _ _ (.int .u64 0) (heap_setCell_same _ z 2 _ _ (.int .i64 0) (heap_setCell_same _ z 1 _ _ (.int .i64 0) (heap_setCell_same _ z 0 _ _ (.int .i64 3) HZz.out))))))
            go_wp2_with fail
            obtain ⟨r0, r1, r2, r3, r4⟩ := HR5.out
            have e := HO.out
            subst e
            exact bodyPost_ret (v := .tuple #[.agg #[.int .i64 3, .int .i64 0, .int .i64 0, .int .u64 0, .slice va vn vk], .bool true]) (by simp [results, Tryz.results7, go_sem, r0, r1, r2, r3, r4]) rfl ⟨_, rfl, Sl_set5 HSz.out (fun g n k e => by have h1 := HNW.out g n k e; have h2 := HWZ.out; omega) _ _ _ _ _, (((((HBz.out).setCell (p := ⟨z, 0, none⟩) HLT.out.2.2.2.2.1 _).setCell (p := ⟨z, 1, none⟩) HLT.out.2.2.2.2.1 _).setCell (p := ⟨z, 2, none⟩) HLT.out.2.2.2.2.1 _).setCell (p := ⟨z, 3, none⟩) HLT.out.2.2.2.2.1 _).setCell (p := ⟨z, 4, none⟩) HLT.out.2.2.2.2.1 _⟩
          · have HO := Lib.hid (show O = none by rw [HPR.out, HG.out]; exact if_neg (fun e => h1 e.2))
            have eT : ((bs (lineL ⟨3, 0, 0, 0, l⟩)).toList == (bs s).toList) = false := by rw [bs_beq]; exact decide_eq_false h1
            clear h0 h1
            generalize lineL ⟨3, 0, 0, 0, l⟩ = ll at *
            obtain ⟨d0, d1, d2, d3, d4⟩ := cells5 HC7.out
            go_wp2_with fail
            go_at_call 12
            refine HLI.out.mono ?_
            rintro e wz ⟨rfl, hb⟩
            have HBz := Lib.hid (HB7.out.trans (hb.mono HB7.out.size))
            have HZz := Lib.hid ((hb.block z (Array.getElem?_eq_some_iff.1 HZ7.out).1).trans HZ7.out)
            have HCz := Lib.hid ((hb.block cb HCL.out).trans HC7.out)
            have HSz := Lib.hid (HSL.out.below hb)
            clear hb d0 d1 d2 d3 d4
            obtain ⟨z0, z1, z2, z3, z4⟩ := cells5 HZz.out
            have zf0 := free_of HZz.out 0
            have zf1 := free_of HZz.out 1
            have zf2 := free_of HZz.out 2
            have zf3 := free_of HZz.out 3
            have zf4 := free_of HZz.out 4
            have HR5 := Lib.hid (cells5 (heap_setCell_same _ z 4 _ _ (.slice none 0 0) (heap_setCell_same _ z 3 _ _ (.int .u64 0) (heap_setCell_same _ z 2 _ _ (.int .i64 0) (heap_setCell_same _ z 1 _ _ (.int .i64 0) (heap_setCell_same _ z 0 _ _ (.int .i64 0) HZz.out))))))
            go_wp2_with fail
            obtain ⟨r0, r1, r2, r3, r4⟩ := HR5.out
            have e := HO.out
            subst e
            exact bodyPost_ret (v := .tuple #[.agg #[.int .i64 0, .int .i64 0, .int .i64 0, .int .u64 0, .slice none 0 0], .bool false]) (by simp [results, Tryz.results7, go_sem, r0, r1, r2, r3, r4]) rfl ⟨_, rfl, Batch.Sl.nil _, (((((HBz.out).setCell (p := ⟨z, 0, none⟩) HLT.out.2.2.2.2.1 _).setCell (p := ⟨z, 1, none⟩) HLT.out.2.2.2.2.1 _).setCell (p := ⟨z, 2, none⟩) HLT.out.2.2.2.2.1 _).setCell (p := ⟨z, 3, none⟩) HLT.out.2.2.2.2.1 _).setCell (p := ⟨z, 4, none⟩) HLT.out.2.2.2.2.1 _⟩
      by_cases h5 : k = 5 ∨ k = 6
      · have HKK := Lib.hid h5
        clear h0 h1 h3 h5
        rcases HKK.out with rfl | rfl
        · have HBi := HBR
          have HZi := HZI
          have HCi := HCI
          cases hpb : parL q2
          · have HG := Lib.hid (show G = none by rw [HGE.out]; show (parL q2).map _ = none; rw [hpb]; rfl)
            have HOK := Lib.hid (show okL q2 = false by unfold okL; rw [hpb]; rfl)
            have HTV := Lib.hid (show timeV q2 = 0 by unfold timeV; rw [hpb]; rfl)
            clear hpb
            have k1 := HWI.out.1
            obtain ⟨c0, c1, c2, c3, c4⟩ := cells5 HCI.out
            go_wp2_with fail
            go_at_call 26
            refine (int_any q1 (by have := HWQ.out.2.1; omega) _).mono ?_
            rintro e w6 ⟨rfl, hb⟩
            have HB6 := Lib.hid (HBi.out.trans (hb.mono HBi.out.size))
            have HZ6 := Lib.hid ((hb.block z (Array.getElem?_eq_some_iff.1 HZi.out).1).trans HZi.out)
            have HC6 := Lib.hid ((hb.block cb (Array.getElem?_eq_some_iff.1 HCi.out).1).trans HCi.out)
            have k2 := Kc hb HGI.out HWI.out.2
            have HG6 := Lib.hid (Nat.lt_of_lt_of_le HGI.out hb.size)
            clear hb k1 c0 c1 c2 c3 c4
            have cf2 := free_of HC6.out 2
            obtain ⟨c0, c1, c2, c3, c4⟩ := cells5 HC6.out
            go_upto_region 22 with fail
            clear cf2 c0 c1 c2 c3 c4
            obtain ⟨w7, hW⟩ : ∃ W, W = (w6.setCell ⟨cb, 2, none⟩ (.int .i64 (intR q1))) := ⟨_, rfl⟩
            rw [← hW]
            have HC7 := Lib.hid (show w7.heap[cb]? = _ from hW ▸ (heap_setCell_same _ cb 2 _ _ (.int .i64 (intR q1)) HC6.out))
            have HZ7 := Lib.hid (show w7.heap[z]? = _ from hW ▸ ((heap_setCell_other _ _ _ _ HLT.out.2.2.2.1).trans HZ6.out))
            have HB7 := Lib.hid (show Below w.heap.size w w7 from hW ▸ ((HB6.out).setCell (p := ⟨cb, 2, none⟩) HLT.out.2.2.2.2.2 _))
            have k3 : w7.cell? ⟨gy, 2, none⟩ = _ := hW ▸ (World.cell?_setCell_far _ _ _ _ (Ne.symm HLT.out.2.1)).trans k2
            clear hW k2
            obtain ⟨c0, c1, c2, c3, c4⟩ := cells5 HC7.out
            go_wp2_with fail
            go_at_call 27
            refine (scTime_any q2 (by have := HWQ.out.2.2; omega) _).mono ?_
            rintro e w8 ⟨rfl, hb⟩
            rw [HOK.out, HTV.out]
            have HB8 := Lib.hid (HB7.out.trans (hb.mono HB7.out.size))
            have HZ8 := Lib.hid ((hb.block z (Array.getElem?_eq_some_iff.1 HZ7.out).1).trans HZ7.out)
            have HC8 := Lib.hid ((hb.block cb (Array.getElem?_eq_some_iff.1 HC7.out).1).trans HC7.out)
            clear hb c0 c1 c2 c3 c4 k3
            have cf3 := free_of HC8.out 3
            obtain ⟨c0, c1, c2, c3, c4⟩ := cells5 HC8.out
            go_upto_region 23 with fail
            clear cf3 c0 c1 c2 c3 c4
            obtain ⟨w9, hW⟩ : ∃ W, W = (w8.setCell ⟨cb, 3, none⟩ (.int .u64 0)) := ⟨_, rfl⟩
            rw [← hW]
            have HC9 := Lib.hid (show w9.heap[cb]? = _ from hW ▸ (heap_setCell_same _ cb 3 _ _ (.int .u64 0) HC8.out))
            have HZ9 := Lib.hid (show w9.heap[z]? = _ from hW ▸ ((heap_setCell_other _ _ _ _ HLT.out.2.2.2.1).trans HZ8.out))
            have HB9 := Lib.hid (show Below w.heap.size w w9 from hW ▸ ((HB8.out).setCell (p := ⟨cb, 3, none⟩) HLT.out.2.2.2.2.2 _))
            clear hW
            have HO := Lib.hid (show O = none by rw [HPR.out, HG.out])
            obtain ⟨z0, z1, z2, z3, z4⟩ := cells5 HZ9.out
            have zf0 := free_of HZ9.out 0
            have zf1 := free_of HZ9.out 1
            have zf2 := free_of HZ9.out 2
            have zf3 := free_of HZ9.out 3
            have zf4 := free_of HZ9.out 4
            have HR5 := Lib.hid (cells5 (heap_setCell_same _ z 4 _ _ (.slice none 0 0) (heap_setCell_same _ z 3 _ _ (.int .u64 0) (heap_setCell_same _ z 2 _ _ (.int .i64 0) (heap_setCell_same _ z 1 _ _ (.int .i64 0) (heap_setCell_same _ z 0 _ _ (.int .i64 0) HZ9.out))))))
            go_wp2_with fail
            obtain ⟨r0, r1, r2, r3, r4⟩ := HR5.out
            have e := HO.out
            subst e
            exact bodyPost_ret (v := .tuple #[.agg #[.int .i64 0, .int .i64 0, .int .i64 0, .int .u64 0, .slice none 0 0], .bool false]) (by simp [results, Tryz.results7, go_sem, r0, r1, r2, r3, r4]) rfl ⟨_, rfl, Batch.Sl.nil _, (((((HB9.out).setCell (p := ⟨z, 0, none⟩) HLT.out.2.2.2.2.1 _).setCell (p := ⟨z, 1, none⟩) HLT.out.2.2.2.2.1 _).setCell (p := ⟨z, 2, none⟩) HLT.out.2.2.2.2.1 _).setCell (p := ⟨z, 3, none⟩) HLT.out.2.2.2.2.1 _).setCell (p := ⟨z, 4, none⟩) HLT.out.2.2.2.2.1 _⟩
          · rename_i t
            have HG := Lib.hid (show G = some ⟨5, 0, intR q1, (t : Int), []⟩ by rw [HGE.out]; show (parL q2).map _ = some _; rw [hpb]; rfl)
            have HOK := Lib.hid (show okL q2 = true by unfold okL; rw [hpb]; rfl)
            have HTV := Lib.hid (show timeV q2 = (t : Int) by unfold timeV; rw [hpb]; rfl)
            clear hpb
            have k1 := HWI.out.1
            obtain ⟨c0, c1, c2, c3, c4⟩ := cells5 HCI.out
            go_wp2_with fail
            go_at_call 26
            refine (int_any q1 (by have := HWQ.out.2.1; omega) _).mono ?_
            rintro e w6 ⟨rfl, hb⟩
            have HB6 := Lib.hid (HBi.out.trans (hb.mono HBi.out.size))
            have HZ6 := Lib.hid ((hb.block z (Array.getElem?_eq_some_iff.1 HZi.out).1).trans HZi.out)
            have HC6 := Lib.hid ((hb.block cb (Array.getElem?_eq_some_iff.1 HCi.out).1).trans HCi.out)
            have k2 := Kc hb HGI.out HWI.out.2
            have HG6 := Lib.hid (Nat.lt_of_lt_of_le HGI.out hb.size)
            clear hb k1 c0 c1 c2 c3 c4
            have cf2 := free_of HC6.out 2
            obtain ⟨c0, c1, c2, c3, c4⟩ := cells5 HC6.out
            go_upto_region 22 with fail
            clear cf2 c0 c1 c2 c3 c4
            obtain ⟨w7, hW⟩ : ∃ W, W = (w6.setCell ⟨cb, 2, none⟩ (.int .i64 (intR q1))) := ⟨_, rfl⟩
            rw [← hW]
            have HC7 := Lib.hid (show w7.heap[cb]? = _ from hW ▸ (heap_setCell_same _ cb 2 _ _ (.int .i64 (intR q1)) HC6.out))
            have HZ7 := Lib.hid (show w7.heap[z]? = _ from hW ▸ ((heap_setCell_other _ _ _ _ HLT.out.2.2.2.1).trans HZ6.out))
            have HB7 := Lib.hid (show Below w.heap.size w w7 from hW ▸ ((HB6.out).setCell (p := ⟨cb, 2, none⟩) HLT.out.2.2.2.2.2 _))
            have k3 : w7.cell? ⟨gy, 2, none⟩ = _ := hW ▸ (World.cell?_setCell_far _ _ _ _ (Ne.symm HLT.out.2.1)).trans k2
            clear hW k2
            obtain ⟨c0, c1, c2, c3, c4⟩ := cells5 HC7.out
            go_wp2_with fail
            go_at_call 27
            refine (scTime_any q2 (by have := HWQ.out.2.2; omega) _).mono ?_
            rintro e w8 ⟨rfl, hb⟩
            rw [HOK.out, HTV.out]
            have HB8 := Lib.hid (HB7.out.trans (hb.mono HB7.out.size))
            have HZ8 := Lib.hid ((hb.block z (Array.getElem?_eq_some_iff.1 HZ7.out).1).trans HZ7.out)
            have HC8 := Lib.hid ((hb.block cb (Array.getElem?_eq_some_iff.1 HC7.out).1).trans HC7.out)
            clear hb c0 c1 c2 c3 c4 k3
            have cf3 := free_of HC8.out 3
            obtain ⟨c0, c1, c2, c3, c4⟩ := cells5 HC8.out
            go_upto_region 23 with fail
            clear cf3 c0 c1 c2 c3 c4
            obtain ⟨w9, hW⟩ : ∃ W, W = (w8.setCell ⟨cb, 3, none⟩ (.int .u64 (t : Int))) := ⟨_, rfl⟩
            rw [← hW]
            have HC9 := Lib.hid (show w9.heap[cb]? = _ from hW ▸ (heap_setCell_same _ cb 3 _ _ (.int .u64 (t : Int)) HC8.out))
            have HZ9 := Lib.hid (show w9.heap[z]? = _ from hW ▸ ((heap_setCell_other _ _ _ _ HLT.out.2.2.2.1).trans HZ8.out))
            have HB9 := Lib.hid (show Below w.heap.size w w9 from hW ▸ ((HB8.out).setCell (p := ⟨cb, 3, none⟩) HLT.out.2.2.2.2.2 _))
            clear hW
            have HLI := Lib.hid (refLine_any (w := w9) (k := 5) (h := 0) (p := intR q1) (t := (t : Int)) (Batch.Rd.nil _) (by simp) (HGU.out _ HG.out).1)
            have HCL := Lib.hid (Array.getElem?_eq_some_iff.1 HC9.out).1
            by_cases h0 : s = []
            · have HO := Lib.hid (show O = none by rw [HPR.out, HG.out]; exact if_neg (fun e => e.1 h0))
              have eE : ((bs s).toList == []) = true := by rw [Lib.toList_data, bs_data, h0]; rfl
              clear h0 HLI
              obtain ⟨z0, z1, z2, z3, z4⟩ := cells5 HZ9.out
              have zf0 := free_of HZ9.out 0
              have zf1 := free_of HZ9.out 1
              have zf2 := free_of HZ9.out 2
              have zf3 := free_of HZ9.out 3
              have zf4 := free_of HZ9.out 4
              have HR5 := Lib.hid (cells5 (heap_setCell_same _ z 4 _ _ (.slice none 0 0) (heap_setCell_same _ z 3 _ _ (.int .u64 0) (heap_setCell_same _ z 2 _ _ (.int .i64 0) (heap_setCell_same _ z 1 _ _ (.int .i64 0) (heap_setCell_same _ z 0 _ _ (.int .i64 0) HZ9.out))))))
              go_wp2_with fail
              obtain ⟨r0, r1, r2, r3, r4⟩ := HR5.out
              have e := HO.out
              subst e
              exact bodyPost_ret (v := .tuple #[.agg #[.int .i64 0, .int .i64 0, .int .i64 0, .int .u64 0, .slice none 0 0], .bool false]) (by simp [results, Tryz.results7, go_sem, r0, r1, r2, r3, r4]) rfl ⟨_, rfl, Batch.Sl.nil _, (((((HB9.out).setCell (p := ⟨z, 0, none⟩) HLT.out.2.2.2.2.1 _).setCell (p := ⟨z, 1, none⟩) HLT.out.2.2.2.2.1 _).setCell (p := ⟨z, 2, none⟩) HLT.out.2.2.2.2.1 _).setCell (p := ⟨z, 3, none⟩) HLT.out.2.2.2.2.1 _).setCell (p := ⟨z, 4, none⟩) HLT.out.2.2.2.2.1 _⟩
            have eE : ((bs s).toList == []) = false := by rw [Lib.toList_data, bs_data, beq_eq_false_iff_ne]; exact h0
            by_cases h1 : lineL ⟨5, 0, intR q1, (t : Int), []⟩ = s
            · have HO := Lib.hid (show O = some ⟨5, 0, intR q1, (t : Int), []⟩ by rw [HPR.out, HG.out]; exact if_pos ⟨h0, h1⟩)
              have eT : ((bs (lineL ⟨5, 0, intR q1, (t : Int), []⟩)).toList == (bs s).toList) = true := by rw [bs_beq]; exact decide_eq_true h1
              clear h0 h1
              generalize lineL ⟨5, 0, intR q1, (t : Int), []⟩ = ll at *
              obtain ⟨d0, d1, d2, d3, d4⟩ := cells5 HC9.out
              go_wp2_with fail
              go_at_call 12
              refine HLI.out.mono ?_
              rintro e wz ⟨rfl, hb⟩
              have HBz := Lib.hid (HB9.out.trans (hb.mono HB9.out.size))
              have HZz := Lib.hid ((hb.block z (Array.getElem?_eq_some_iff.1 HZ9.out).1).trans HZ9.out)
              have HCz := Lib.hid ((hb.block cb HCL.out).trans HC9.out)
              have HSz := Lib.hid ((Batch.Sl.nil w9).below hb)
              clear hb d0 d1 d2 d3 d4
              obtain ⟨d0, d1, d2, d3, d4⟩ := cells5 HCz.out
              obtain ⟨z0, z1, z2, z3, z4⟩ := cells5 HZz.out
              have zf0 := free_of HZz.out 0
              have zf1 := free_of HZz.out 1
              have zf2 := free_of HZz.out 2
              have zf3 := free_of HZz.out 3
              have zf4 := free_of HZz.out 4
              have HR5 := Lib.hid (cells5 (heap_setCell_same _ z 4 _ _ (.slice none 0 0) (heap_setCell_same _ z 3 _ _ (.int .u64 (t : Int)) (heap_setCell_same _ z 2 _ _ (.int .i64 (intR q1)) (heap_setCell_same _ z 1 _ _ (.int .i64 0) (heap_setCell_same _ z 0 _ _ (.int .i64 5) HZz.out))))))
              go_wp2_with fail
              obtain ⟨r0, r1, r2, r3, r4⟩ := HR5.out
              have e := HO.out
              subst e
              exact bodyPost_ret (v := .tuple #[.agg #[.int .i64 5, .int .i64 0, .int .i64 (intR q1), .int .u64 (t : Int), .slice none 0 0], .bool true]) (by simp [results, Tryz.results7, go_sem, r0, r1, r2, r3, r4]) rfl ⟨_, rfl, Batch.Sl.nil _, (((((HBz.out).setCell (p := ⟨z, 0, none⟩) HLT.out.2.2.2.2.1 _).setCell (p := ⟨z, 1, none⟩) HLT.out.2.2.2.2.1 _).setCell (p := ⟨z, 2, none⟩) HLT.out.2.2.2.2.1 _).setCell (p := ⟨z, 3, none⟩) HLT.out.2.2.2.2.1 _).setCell (p := ⟨z, 4, none⟩) HLT.out.2.2.2.2.1 _⟩
            · have HO := Lib.hid (show O = none by rw [HPR.out, HG.out]; exact if_neg (fun e => h1 e.2))
              have eT : ((bs (lineL ⟨5, 0, intR q1, (t : Int), []⟩)).toList == (bs s).toList) = false := by rw [bs_beq]; exact decide_eq_false h1
              clear h0 h1
              generalize lineL ⟨5, 0, intR q1, (t : Int), []⟩ = ll at *
              obtain ⟨d0, d1, d2, d3, d4⟩ := cells5 HC9.out
              go_wp2_with fail
              go_at_call 12
              refine HLI.out.mono ?_
              rintro e wz ⟨rfl, hb⟩
              have HBz := Lib.hid (HB9.out.trans (hb.mono HB9.out.size))
              have HZz := Lib.hid ((hb.block z (Array.getElem?_eq_some_iff.1 HZ9.out).1).trans HZ9.out)
              have HCz := Lib.hid ((hb.block cb HCL.out).trans HC9.out)
              have HSz := Lib.hid ((Batch.Sl.nil w9).below hb)
              clear hb d0 d1 d2 d3 d4
              obtain ⟨z0, z1, z2, z3, z4⟩ := cells5 HZz.out
              have zf0 := free_of HZz.out 0
              have zf1 := free_of HZz.out 1
              have zf2 := free_of HZz.out 2
              have zf3 := free_of HZz.out 3
              have zf4 := free_of HZz.out 4
              have HR5 := Lib.hid (cells5 (heap_setCell_same _ z 4 _ _ (.slice none 0 0) (heap_setCell_same _ z 3 _ _ (.int .u64 0) (heap_setCell_same _ z 2 _ _ (.int .i64 0) (heap_setCell_same _ z 1 _ _ (.int .i64 0) (heap_setCell_same _ z 0 _ _ (.int .i64 0) HZz.out))))))
              go_wp2_with fail
              obtain ⟨r0, r1, r2, r3, r4⟩ := HR5.out
              have e := HO.out
              subst e
              exact bodyPost_ret (v := .tuple #[.agg #[.int .i64 0, .int .i64 0, .int .i64 0, .int .u64 0, .slice none 0 0], .bool false]) (by simp [results, Tryz.results7, go_sem, r0, r1, r2, r3, r4]) rfl ⟨_, rfl, Batch.Sl.nil _, (((((HBz.out).setCell (p := ⟨z, 0, none⟩) HLT.out.2.2.2.2.1 _).setCell (p := ⟨z, 1, none⟩) HLT.out.2.2.2.2.1 _).setCell (p := ⟨z, 2, none⟩) HLT.out.2.2.2.2.1 _).setCell (p := ⟨z, 3, none⟩) HLT.out.2.2.2.2.1 _).setCell (p := ⟨z, 4, none⟩) HLT.out.2.2.2.2.1 _⟩
        · have HBi := HBR
          have HZi := HZI
          have HCi := HCI
          cases hpb : parL q2
          · have HG := Lib.hid (show G = none by rw [HGE.out]; show (parL q2).map _ = none; rw [hpb]; rfl)
            have HOK := Lib.hid (show okL q2 = false by unfold okL; rw [hpb]; rfl)
            have HTV := Lib.hid (show timeV q2 = 0 by unfold timeV; rw [hpb]; rfl)
            clear hpb
            have k1 := HWI.out.1
            obtain ⟨c0, c1, c2, c3, c4⟩ := cells5 HCI.out
            go_wp2_with fail
            go_at_call 26
            refine (int_any q1 (by have := HWQ.out.2.1; omega) _).mono ?_
            rintro e w6 ⟨rfl, hb⟩
            have HB6 := Lib.hid (HBi.out.trans (hb.mono HBi.out.size))
            have HZ6 := Lib.hid ((hb.block z (Array.getElem?_eq_some_iff.1 HZi.out).1).trans HZi.out)
            have HC6 := Lib.hid ((hb.block cb (Array.getElem?_eq_some_iff.1 HCi.out).1).trans HCi.out)
            have k2 := Kc hb HGI.out HWI.out.2
            have HG6 := Lib.hid (Nat.lt_of_lt_of_le HGI.out hb.size)
            clear hb k1 c0 c1 c2 c3 c4
            have cf2 := free_of HC6.out 2
            obtain ⟨c0, c1, c2, c3, c4⟩ := cells5 HC6.out
            go_upto_region 22 with fail
            clear cf2 c0 c1 c2 c3 c4
            obtain ⟨w7, hW⟩ : ∃ W, W = (w6.setCell ⟨cb, 2, none⟩ (.int .i64 (intR q1))) := ⟨_, rfl⟩
            rw [← hW]
            have HC7 := Lib.hid (show w7.heap[cb]? = _ from hW ▸ (heap_setCell_same _ cb 2 _ _ (.int .i64 (intR q1)) HC6.out))
            have HZ7 := Lib.hid (show w7.heap[z]? = _ from hW ▸ ((heap_setCell_other _ _ _ _ HLT.out.2.2.2.1).trans HZ6.out))
            have HB7 := Lib.hid (show Below w.heap.size w w7 from hW ▸ ((HB6.out).setCell (p := ⟨cb, 2, none⟩) HLT.out.2.2.2.2.2 _))
            have k3 : w7.cell? ⟨gy, 2, none⟩ = _ := hW ▸ (World.cell?_setCell_far _ _ _ _ (Ne.symm HLT.out.2.1)).trans k2
            clear hW k2
            obtain ⟨c0, c1, c2, c3, c4⟩ := cells5 HC7.out
            go_wp2_with fail
            go_at_call 27
            refine (scTime_any q2 (by have := HWQ.out.2.2; omega) _).mono ?_
            rintro e w8 ⟨rfl, hb⟩
            rw [HOK.out, HTV.out]
            have HB8 := Lib.hid (HB7.out.trans (hb.mono HB7.out.size))
            have HZ8 := Lib.hid ((hb.block z (Array.getElem?_eq_some_iff.1 HZ7.out).1).trans HZ7.out)
            have HC8 := Lib.hid ((hb.block cb (Array.getElem?_eq_some_iff.1 HC7.out).1).trans HC7.out)
            clear hb c0 c1 c2 c3 c4 k3
            have cf3 := free_of HC8.out 3
            obtain ⟨c0, c1, c2, c3, c4⟩ := cells5 HC8.out
            go_upto_region 23 with fail
            clear cf3 c0 c1 c2 c3 c4
            obtain ⟨w9, hW⟩ : ∃ W, W = (w8.setCell ⟨cb, 3, none⟩ (.int .u64 0)) := ⟨_, rfl⟩
            rw [← hW]
            have HC9 := Lib.hid (show w9.heap[cb]? = _ from hW ▸ (heap_setCell_same _ cb 3 _ _ (.int .u64 0) HC8.out))
            have HZ9 := Lib.hid (show w9.heap[z]? = _ from hW ▸ ((heap_setCell_other _ _ _ _ HLT.out.2.2.2.1).trans HZ8.out))
            have HB9 := Lib.hid (show Below w.heap.size w w9 from hW ▸ ((HB8.out).setCell (p := ⟨cb, 3, none⟩) HLT.out.2.2.2.2.2 _))
            clear hW
            have HO := Lib.hid (show O = none by rw [HPR.out, HG.out])
            obtain ⟨z0, z1, z2, z3, z4⟩ := cells5 HZ9.out
            have zf0 := free_of HZ9.out 0
            have zf1 := free_of HZ9.out 1
            have zf2 := free_of HZ9.out 2
            have zf3 := free_of HZ9.out 3
            have zf4 := free_of HZ9.out 4
            have HR5 := Lib.hid (cells5 (heap_setCell_same _ z 4 _ _ (.slice none 0 0) (heap_setCell_same _ z 3 _ _ (.int .u64 0) (heap_setCell_same _ z 2 _ _ (.int .i64 0) (heap_setCell_same _ z 1 _ _ (.int .i64 0) (heap_setCell_same _ z 0 _ _ (.int .i64 0) HZ9.out))))))
            go_wp2_with fail
            obtain ⟨r0, r1, r2, r3, r4⟩ := HR5.out
            have e := HO.out
            subst e
            exact bodyPost_ret (v := .tuple #[.agg #[.int .i64 0, .int .i64 0, .int .i64 0, .int .u64 0, .slice none 0 0], .bool false]) (by simp [results, Tryz.results7, go_sem, r0, r1, r2, r3, r4]) rfl ⟨_, rfl, Batch.Sl.nil _, (((((HB9.out).setCell (p := ⟨z, 0, none⟩) HLT.out.2.2.2.2.1 _).setCell (p := ⟨z, 1, none⟩) HLT.out.2.2.2.2.1 _).setCell (p := ⟨z, 2, none⟩) HLT.out.2.2.2.2.1 _).setCell (p := ⟨z, 3, none⟩) HLT.out.2.2.2.2.1 _).setCell (p := ⟨z, 4, none⟩) HLT.out.2.2.2.2.1 _⟩
          · rename_i t
            have HG := Lib.hid (show G = some ⟨6, 0, intR q1, (t : Int), []⟩ by rw [HGE.out]; show (parL q2).map _ = some _; rw [hpb]; rfl)
            have HOK := Lib.hid (show okL q2 = true by unfold okL; rw [hpb]; rfl)
            have HTV := Lib.hid (show timeV q2 = (t : Int) by unfold timeV; rw [hpb]; rfl)
            clear hpb
            have k1 := HWI.out.1
            obtain ⟨c0, c1, c2, c3, c4⟩ := cells5 HCI.out
            go_wp2_with fail
            go_at_call 26
            refine (int_any q1 (by have := HWQ.out.2.1; omega) _).mono ?_
            rintro e w6 ⟨rfl, hb⟩
            have HB6 := Lib.hid (HBi.out.trans (hb.mono HBi.out.size))
            have HZ6 := Lib.hid ((hb.block z (Array.getElem?_eq_some_iff.1 HZi.out).1).trans HZi.out)
            have HC6 := Lib.hid ((hb.block cb (Array.getElem?_eq_some_iff.1 HCi.out).1).trans HCi.out)
            have k2 := Kc hb HGI.out HWI.out.2
            have HG6 := Lib.hid (Nat.lt_of_lt_of_le HGI.out hb.size)
            clear hb k1 c0 c1 c2 c3 c4
            have cf2 := free_of HC6.out 2
            obtain ⟨c0, c1, c2, c3, c4⟩ := cells5 HC6.out
            go_upto_region 22 with fail
            clear cf2 c0 c1 c2 c3 c4
            obtain ⟨w7, hW⟩ : ∃ W, W = (w6.setCell ⟨cb, 2, none⟩ (.int .i64 (intR q1))) := ⟨_, rfl⟩
            rw [← hW]
            have HC7 := Lib.hid (show w7.heap[cb]? = _ from hW ▸ (heap_setCell_same _ cb 2 _ _ (.int .i64 (intR q1)) HC6.out))
            have HZ7 := Lib.hid (show w7.heap[z]? = _ from hW ▸ ((heap_setCell_other _ _ _ _ HLT.out.2.2.2.1).trans HZ6.out))
            have HB7 := Lib.hid (show Below w.heap.size w w7 from hW ▸ ((HB6.out).setCell (p := ⟨cb, 2, none⟩) HLT.out.2.2.2.2.2 _))
            have k3 : w7.cell? ⟨gy, 2, none⟩ = _ := hW ▸ (World.cell?_setCell_far _ _ _ _ (Ne.symm HLT.out.2.1)).trans k2
            clear hW k2
            obtain ⟨c0, c1, c2, c3, c4⟩ := cells5 HC7.out
            go_wp2_with fail
            go_at_call 27
            refine (scTime_any q2 (by have := HWQ.out.2.2; omega) _).mono ?_
            rintro e w8 ⟨rfl, hb⟩
            rw [HOK.out, HTV.out]
            have HB8 := Lib.hid (HB7.out.trans (hb.mono HB7.out.size))
            have HZ8 := Lib.hid ((hb.block z (Array.getElem?_eq_some_iff.1 HZ7.out).1).trans HZ7.out)
            have HC8 := Lib.hid ((hb.block cb (Array.getElem?_eq_some_iff.1 HC7.out).1).trans HC7.out)
            clear hb c0 c1 c2 c3 c4 k3
            have cf3 := free_of HC8.out 3
            obtain ⟨c0, c1, c2, c3, c4⟩ := cells5 HC8.out
            go_upto_region 23 with fail
            clear cf3 c0 c1 c2 c3 c4
            obtain ⟨w9, hW⟩ : ∃ W, W = (w8.setCell ⟨cb, 3, none⟩ (.int .u64 (t : Int))) := ⟨_, rfl⟩
            rw [← hW]
            have HC9 := Lib.hid (show w9.heap[cb]? = _ from hW ▸ (heap_setCell_same _ cb 3 _ _ (.int .u64 (t : Int)) HC8.out))
            have HZ9 := Lib.hid (show w9.heap[z]? = _ from hW ▸ ((heap_setCell_other _ _ _ _ HLT.out.2.2.2.1).trans HZ8.out))
            have HB9 := Lib.hid (show Below w.heap.size w w9 from hW ▸ ((HB8.out).setCell (p := ⟨cb, 3, none⟩) HLT.out.2.2.2.2.2 _))
            clear hW
            have HLI := Lib.hid (refLine_any (w := w9) (k := 6) (h := 0) (p := intR q1) (t := (t : Int)) (Batch.Rd.nil _) (by simp) (HGU.out _ HG.out).1)
            have HCL := Lib.hid (Array.getElem?_eq_some_iff.1 HC9.out).1
            by_cases h0 : s = []
            · have HO := Lib.hid (show O = none by rw [HPR.out, HG.out]; exact if_neg (fun e => e.1 h0))
              have eE : ((bs s).toList == []) = true := by rw [Lib.toList_data, bs_data, h0]; rfl
              clear h0 HLI
              obtain ⟨z0, z1, z2, z3, z4⟩ := cells5 HZ9.out
              have zf0 := free_of HZ9.out 0
              have zf1 := free_of HZ9.out 1
              have zf2 := free_of HZ9.out 2
              have zf3 := free_of HZ9.out 3
              have zf4 := free_of HZ9.out 4
              have HR5 := Lib.hid (cells5 (heap_setCell_same _ z 4 _ _ (.slice none 0 0) (heap_setCell_same _ z 3 _ _ (.int .u64 0) (heap_setCell_same _ z 2 _ _ (.int .i64 0) (heap_setCell_same _ z 1 _ _ (.int .i64 0) (heap_setCell_same _ z 0 _ _ (.int .i64 0) HZ9.out))))))
              go_wp2_with fail
              obtain ⟨r0, r1, r2, r3, r4⟩ := HR5.out
              have e := HO.out
              subst e
              exact bodyPost_ret (v := .tuple #[.agg #[.int .i64 0, .int .i64 0, .int .i64 0, .int .u64 0, .slice none 0 0], .bool false]) (by simp [results, Tryz.results7, go_sem, r0, r1, r2, r3, r4]) rfl ⟨_, rfl, Batch.Sl.nil _, (((((HB9.out).setCell (p := ⟨z, 0, none⟩) HLT.out.2.2.2.2.1 _).setCell (p := ⟨z, 1, none⟩) HLT.out.2.2.2.2.1 _).setCell (p := ⟨z, 2, none⟩) HLT.out.2.2.2.2.1 _).setCell (p := ⟨z, 3, none⟩) HLT.out.2.2.2.2.1 _).setCell (p := ⟨z, 4, none⟩) HLT.out.2.2.2.2.1 _⟩
            have eE : ((bs s).toList == []) = false := by rw [Lib.toList_data, bs_data, beq_eq_false_iff_ne]; exact h0
            by_cases h1 : lineL ⟨6, 0, intR q1, (t : Int), []⟩ = s
            · have HO := Lib.hid (show O = some ⟨6, 0, intR q1, (t : Int), []⟩ by rw [HPR.out, HG.out]; exact if_pos ⟨h0, h1⟩)
              have eT : ((bs (lineL ⟨6, 0, intR q1, (t : Int), []⟩)).toList == (bs s).toList) = true := by rw [bs_beq]; exact decide_eq_true h1
              clear h0 h1
              generalize lineL ⟨6, 0, intR q1, (t : Int), []⟩ = ll at *
              obtain ⟨d0, d1, d2, d3, d4⟩ := cells5 HC9.out
              go_wp2_with fail
              go_at_call 12
              refine HLI.out.mono ?_
              rintro e wz ⟨rfl, hb⟩
              have HBz := Lib.hid (HB9.out.trans (hb.mono HB9.out.size))
              have HZz := Lib.hid ((hb.block z (Array.getElem?_eq_some_iff.1 HZ9.out).1).trans HZ9.out)
              have HCz := Lib.hid ((hb.block cb HCL.out).trans HC9.out)
              have HSz := Lib.hid ((Batch.Sl.nil w9).below hb)
              clear hb d0 d1 d2 d3 d4
              obtain ⟨d0, d1, d2, d3, d4⟩ := cells5 HCz.out
              obtain ⟨z0, z1, z2, z3, z4⟩ := cells5 HZz.out
              have zf0 := free_of HZz.out 0
              have zf1 := free_of HZz.out 1
              have zf2 := free_of HZz.out 2
              have zf3 := free_of HZz.out 3
              have zf4 := free_of HZz.out 4
              have HR5 := Lib.hid (cells5 (heap_setCell_same _ z 4 _ _ (.slice none 0 0) (heap_setCell_same _ z 3 _ _ (.int .u64 (t : Int)) (heap_setCell_same _ z 2 _ _ (.int .i64 (intR q1)) (heap_setCell_same _ z 1 _ _ (.int .i64 0) (heap_setCell_same _ z 0 _ _ (.int .i64 6) HZz.out))))))
              go_wp2_with fail
              obtain ⟨r0, r1, r2, r3, r4⟩ := HR5.out
              have e := HO.out
              subst e
              exact bodyPost_ret (v := .tuple #[.agg #[.int .i64 6, .int .i64 0, .int .i64 (intR q1), .int .u64 (t : Int), .slice none 0 0], .bool true]) (by simp [results, Tryz.results7, go_sem, r0, r1, r2, r3, r4]) rfl ⟨_, rfl, Batch.Sl.nil _, (((((HBz.out).setCell (p := ⟨z, 0, none⟩) HLT.out.2.2.2.2.1 _).setCell (p := ⟨z, 1, none⟩) HLT.out.2.2.2.2.1 _).setCell (p := ⟨z, 2, none⟩) HLT.out.2.2.2.2.1 _).setCell (p := ⟨z, 3, none⟩) HLT.out.2.2.2.2.1 _).setCell (p := ⟨z, 4, none⟩) HLT.out.2.2.2.2.1 _⟩
            · have HO := Lib.hid (show O = none by rw [HPR.out, HG.out]; exact if_neg (fun e => h1 e.2))
              have eT : ((bs (lineL ⟨6, 0, intR q1, (t : Int), []⟩)).toList == (bs s).toList) = false := by rw [bs_beq]; exact decide_eq_false h1
              clear h0 h1
              generalize lineL ⟨6, 0, intR q1, (t : Int), []⟩ = ll at *
              obtain ⟨d0, d1, d2, d3, d4⟩ := cells5 HC9.out
              go_wp2_with fail
              go_at_call 12
              refine HLI.out.mono ?_
              rintro e wz ⟨rfl, hb⟩
              have HBz := Lib.hid (HB9.out.trans (hb.mono HB9.out.size))
              have HZz := Lib.hid ((hb.block z (Array.getElem?_eq_some_iff.1 HZ9.out).1).trans HZ9.out)
              have HCz := Lib.hid ((hb.block cb HCL.out).trans HC9.out)
              have HSz := Lib.hid ((Batch.Sl.nil w9).below hb)
              clear hb d0 d1 d2 d3 d4
              obtain ⟨z0, z1, z2, z3, z4⟩ := cells5 HZz.out
              have zf0 := free_of HZz.out 0
              have zf1 := free_of HZz.out 1
              have zf2 := free_of HZz.out 2
              have zf3 := free_of HZz.out 3
              have zf4 := free_of HZz.out 4
              have HR5 := Lib.hid (cells5 (heap_setCell_same _ z 4 _ _ (.slice none 0 0) (heap_setCell_same _ z 3 _ _ (.int .u64 0) (heap_setCell_same _ z 2 _ _ (.int .i64 0) (heap_setCell_same _ z 1 _ _ (.int .i64 0) (heap_setCell_same _ z 0 _ _ (.int .i64 0) HZz.out))))))
              go_wp2_with fail
              obtain ⟨r0, r1, r2, r3, r4⟩ := HR5.out
              have e := HO.out
              subst e
              exact bodyPost_ret (v := .tuple #[.agg #[.int .i64 0, .int .i64 0, .int .i64 0, .int .u64 0, .slice none 0 0], .bool false]) (by simp [results, Tryz.results7, go_sem, r0, r1, r2, r3, r4]) rfl ⟨_, rfl, Batch.Sl.nil _, (((((HBz.out).setCell (p := ⟨z, 0, none⟩) HLT.out.2.2.2.2.1 _).setCell (p := ⟨z, 1, none⟩) HLT.out.2.2.2.2.1 _).setCell (p := ⟨z, 2, none⟩) HLT.out.2.2.2.2.1 _).setCell (p := ⟨z, 3, none⟩) HLT.out.2.2.2.2.1 _).setCell (p := ⟨z, 4, none⟩) HLT.out.2.2.2.2.1 _⟩
      have HBi := HBR
      have HZi := HZI
      have HCi := HCI
      have HG := Lib.hid (show G = some ⟨k, 0, 0, 0, []⟩ by rw [HGE.out]; unfold gRK; rw [if_neg h0, if_neg h1, if_neg h3, if_neg h5])
      have k0 : (k == 0) = false := by rw [beq_eq_false_iff_ne]; omega
      have k1 : (k == 1) = false := by rw [beq_eq_false_iff_ne]; omega
      have k2 : (k == 2) = false := by rw [beq_eq_false_iff_ne]; omega
      have k3 : (k == 3) = false := by rw [beq_eq_false_iff_ne]; omega
      have k5 : (k == 5) = false := by rw [beq_eq_false_iff_ne]; omega
      have k6 : (k == 6) = false := by rw [beq_eq_false_iff_ne]; omega
      clear h0 h1 h3 h5
      obtain ⟨c0, c1, c2, c3, c4⟩ := cells5 HCI.out
      go_upto_region 23 with fail
      clear k0 k1 k2 k3 k5 k6 c0 c1 c2 c3 c4
      have HLI := Lib.hid (refLine_any (w := wr) (k := k) (h := 0) (p := 0) (t := 0) (Batch.Rd.nil _) (by simp) (HGU.out _ HG.out).1)
      have HCL := Lib.hid (Array.getElem?_eq_some_iff.1 HCI.out).1
      by_cases h0 : s = []
      · have HO := Lib.hid (show O = none by rw [HPR.out, HG.out]; exact if_neg (fun e => e.1 h0))
        have eE : ((bs s).toList == []) = true := by rw [Lib.toList_data, bs_data, h0]; rfl
        clear h0 HLI
        obtain ⟨z0, z1, z2, z3, z4⟩ := cells5 HZI.out
        have zf0 := free_of HZI.out 0
        have zf1 := free_of HZI.out 1
        have zf2 := free_of HZI.out 2
        have zf3 := free_of HZI.out 3
        have zf4 := free_of HZI.out 4
        have HR5 := Lib.hid (cells5 (heap_setCell_same _ z 4 _ _ (.slice none 0 0) (heap_setCell_same _ z 3 _ _ (.int .u64 0) (heap_setCell_same _ z 2 _ _ (.int .i64 0) (heap_setCell_same _ z 1 _ _ (.int .i64 0) (heap_setCell_same _ z 0 _ _ (.int .i64 0) HZI.out))))))
        go_wp2_with fail
        obtain ⟨r0, r1, r2, r3, r4⟩ := HR5.out
        have e := HO.out
        subst e
        exact bodyPost_ret (v := .tuple #[.agg #[.int .i64 0, .int .i64 0, .int .i64 0, .int .u64 0, .slice none 0 0], .bool false]) (by simp [results, Tryz.results7, go_sem, r0, r1, r2, r3, r4]) rfl ⟨_, rfl, Batch.Sl.nil _, (((((HBR.out).setCell (p := ⟨z, 0, none⟩) HLT.out.2.2.2.2.1 _).setCell (p := ⟨z, 1, none⟩) HLT.out.2.2.2.2.1 _).setCell (p := ⟨z, 2, none⟩) HLT.out.2.2.2.2.1 _).setCell (p := ⟨z, 3, none⟩) HLT.out.2.2.2.2.1 _).setCell (p := ⟨z, 4, none⟩) HLT.out.2.2.2.2.1 _⟩
      have eE : ((bs s).toList == []) = false := by rw [Lib.toList_data, bs_data, beq_eq_false_iff_ne]; exact h0
      by_cases h1 : lineL ⟨k, 0, 0, 0, []⟩ = s
      · have HO := Lib.hid (show O = some ⟨k, 0, 0, 0, []⟩ by rw [HPR.out, HG.out]; exact if_pos ⟨h0, h1⟩)
        have eT : ((bs (lineL ⟨k, 0, 0, 0, []⟩)).toList == (bs s).toList) = true := by rw [bs_beq]; exact decide_eq_true h1
        clear h0 h1
        generalize lineL ⟨k, 0, 0, 0, []⟩ = ll at *
        obtain ⟨d0, d1, d2, d3, d4⟩ := cells5 HCI.out
        go_wp2_with fail
        go_at_call 12
        refine HLI.out.mono ?_
        rintro e wz ⟨rfl, hb⟩
        have HBz := Lib.hid (HBR.out.trans (hb.mono HBR.out.size))
        have HZz := Lib.hid ((hb.block z (Array.getElem?_eq_some_iff.1 HZI.out).1).trans HZI.out)
        have HCz := Lib.hid ((hb.block cb HCL.out).trans HCI.out)
        have HSz := Lib.hid ((Batch.Sl.nil wr).below hb)
        clear hb d0 d1 d2 d3 d4
        obtain ⟨d0, d1, d2, d3, d4⟩ := cells5 HCz.out
        obtain ⟨z0, z1, z2, z3, z4⟩ := cells5 HZz.out
        have zf0 := free_of HZz.out 0
        have zf1 := free_of HZz.out 1
        have zf2 := free_of HZz.out 2
        have zf3 := free_of HZz.out 3
        have zf4 := free_of HZz.out 4
        have HR5 := Lib.hid (cells5 (heap_setCell_same _ z 4 _ _ (.slice none 0 0) (heap_setCell_same _ z 3 _ _ (.int .u64 0) (heap_setCell_same _ z 2 _ _ (.int .i64 0) (heap_setCell_same _ z 1 _ _ (.int .i64 0) (heap_setCell_same _ z 0 _ _ (.int .i64 k) HZz.out))))))
        go_wp2_with fail
        obtain ⟨r0, r1, r2, r3, r4⟩ := HR5.out
        have e := HO.out
        subst e
        exact bodyPost_ret (v := .tuple #[.agg #[.int .i64 k, .int .i64 0, .int .i64 0, .int .u64 0, .slice none 0 0], .bool true]) (by simp [results, Tryz.results7, go_sem, r0, r1, r2, r3, r4]) rfl ⟨_, rfl, Batch.Sl.nil _, (((((HBz.out).setCell (p := ⟨z, 0, none⟩) HLT.out.2.2.2.2.1 _).setCell (p := ⟨z, 1, none⟩) HLT.out.2.2.2.2.1 _).setCell (p := ⟨z, 2, none⟩) HLT.out.2.2.2.2.1 _).setCell (p := ⟨z, 3, none⟩) HLT.out.2.2.2.2.1 _).setCell (p := ⟨z, 4, none⟩) HLT.out.2.2.2.2.1 _⟩
      · have HO := Lib.hid (show O = none by rw [HPR.out, HG.out]; exact if_neg (fun e => h1 e.2))
        have eT : ((bs (lineL ⟨k, 0, 0, 0, []⟩)).toList == (bs s).toList) = false := by rw [bs_beq]; exact decide_eq_false h1
        clear h0 h1
        generalize lineL ⟨k, 0, 0, 0, []⟩ = ll at *
        obtain ⟨d0, d1, d2, d3, d4⟩ := cells5 HCI.out
        go_wp2_with fail
        go_at_call 12
        refine HLI.out.mono ?_
        rintro e wz ⟨rfl, hb⟩
        have HBz := Lib.hid (HBR.out.trans (hb.mono HBR.out.size))
        have HZz := Lib.hid ((hb.block z (Array.getElem?_eq_some_iff.1 HZI.out).1).trans HZI.out)
        have HCz := Lib.hid ((hb.block cb HCL.out).trans HCI.out)
        have HSz := Lib.hid ((Batch.Sl.nil wr).below hb)
        clear hb d0 d1 d2 d3 d4
        obtain ⟨z0, z1, z2, z3, z4⟩ := cells5 HZz.out
        have zf0 := free_of HZz.out 0
        have zf1 := free_of HZz.out 1
        have zf2 := free_of HZz.out 2
        have zf3 := free_of HZz.out 3
        have zf4 := free_of HZz.out 4
        have HR5 := Lib.hid (cells5 (heap_setCell_same _ z 4 _ _ (.slice none 0 0) (heap_setCell_same _ z 3 _ _ (.int .u64 0) (heap_setCell_same _ z 2 _ _ (.int .i64 0) (heap_setCell_same _ z 1 _ _ (.int .i64 0) (heap_setCell_same _ z 0 _ _ (.int .i64 0) HZz.out))))))
        go_wp2_with fail
        obtain ⟨r0, r1, r2, r3, r4⟩ := HR5.out
        have e := HO.out
        subst e
        exact bodyPost_ret (v := .tuple #[.agg #[.int .i64 0, .int .i64 0, .int .i64 0, .int .u64 0, .slice none 0 0], .bool false]) (by simp [results, Tryz.results7, go_sem, r0, r1, r2, r3, r4]) rfl ⟨_, rfl, Batch.Sl.nil _, (((((HBz.out).setCell (p := ⟨z, 0, none⟩) HLT.out.2.2.2.2.1 _).setCell (p := ⟨z, 1, none⟩) HLT.out.2.2.2.2.1 _).setCell (p := ⟨z, 2, none⟩) HLT.out.2.2.2.2.1 _).setCell (p := ⟨z, 3, none⟩) HLT.out.2.2.2.2.1 _).setCell (p := ⟨z, 4, none⟩) HLT.out.2.2.2.2.1 _⟩
end Go.Proofs.YtdbaacalfbbdiaaGreatDoor.Sc
