/-
  marchlandlaw18: ScriptLines. (gen/sclaw.py)
-/
import Derived.Test.YtdbaacalfbbdiaaGreatDoorScTold
import Derived.Test.YtdbaacalfbbdiaaGreatDoorScTo
import Derived.Test.YtdbaacalfbbdiaaGreatDoorJoined11
import Derived.Test.YtdbaacalfbbdiaaGreatDoorScRLine
import Derived.Test.YtdbaacalfbbdiaaGreatDoorScRParse
import Derived.Test.YtdbaacalfbbdiaaGreatDoorJoined3
namespace Go.Proofs.YtdbaacalfbbdiaaGreatDoor.Sc
open Go.RowKit
set_option linter.unusedVariables false
set_option linter.unusedSimpArgs false
theorem rdTake {w : World} {ao : Option Addr} {cap : Nat} {l : List Batch.Ch} (h : Batch.Rd w (.slice ao l.length cap) l) (k : Nat) (hk : k ≤ l.length) : Batch.Rd w (.slice ao k cap) (l.take k) := by
  obtain ⟨ao', cap', hv, h1, h2, h3, h4⟩ := h
  simp only [Value.slice.injEq] at hv
  obtain ⟨rfl, _, rfl⟩ := hv
  have hl : (l.take k).length = k := by rw [List.length_take]; omega
  refine ⟨ao, cap, by rw [hl], by omega, h2, fun x hx => h3 x (List.mem_of_mem_take hx), ?_⟩
  rcases h4 with rfl | ⟨b, off, ha, h4⟩
  · exact .inl (by simp)
  · refine .inr ⟨b, off, ha, fun i x hx => h4 i x ?_⟩
    have hi := (List.getElem?_eq_some_iff.1 hx).1
    rw [List.getElem?_take_of_lt (by omega)] at hx
    exact hx
theorem cmdSame_self {w : World} {v1 v2 : Value} (a : Cm) (r1 : Batch.Rd w v1 a.l) (r2 : Batch.Rd w v2 a.l) :
    Calls Tryz.prog 10 #[.agg #[.int .i64 a.k, .int .i64 a.h, .int .i64 a.p, .int .u64 a.t, v1], .agg #[.int .i64 a.k, .int .i64 a.h, .int .i64 a.p, .int .u64 a.t, v2]] w fun e w' => e = .returned (.bool true) ∧ Below w.heap.size w w' := by
  have q := cmdSame_any a a r1 r2
  rwa [sameV_self] at q
theorem lineL_len {c : Cm} (ht : Stamp.U c.t) (hl : ∀ x ∈ c.l, Stamp.U x.t) : (lineL c).length ≤ 10000 := by
  have hw := wdL_len c.k
  have hp := placeV_len c.h
  have hp2 := placeV_len c.p
  have h3 := timeL_len ht
  have h4 := chsP_len hl
  by_cases h0 : c.k = 0 ∨ c.k = 2
  · rw [← line_hand c h0]
    have := joinV_bound (sep := [32]) (M := 1072) [wdL c.k, placeV c.h] (by intro y hy; simp at hy; rcases hy with rfl | rfl <;> omega) (by simp)
    simp only [List.length_cons, List.length_nil] at this
    omega
  by_cases h1 : c.k = 1
  · rw [← line_time c h1]
    have := joinV_bound (sep := [32]) (M := 1072) [wdL c.k, placeV c.h, timeL c.t] (by intro y hy; simp at hy; rcases hy with rfl | rfl | rfl <;> omega) (by simp)
    simp only [List.length_cons, List.length_nil] at this
    omega
  by_cases h2 : c.k = 3
  · rw [← line_chs c h2]
    have := joinV_bound (sep := [32]) (M := 1072) [wdL c.k, chsP c.l] (by intro y hy; simp at hy; rcases hy with rfl | rfl <;> omega) (by simp)
    simp only [List.length_cons, List.length_nil] at this
    omega
  by_cases h5 : c.k = 5 ∨ c.k = 6
  · rw [← line_port c h5]
    have := joinV_bound (sep := [32]) (M := 1072) [wdL c.k, placeV c.p, timeL c.t] (by intro y hy; simp at hy; rcases hy with rfl | rfl | rfl <;> omega) (by simp)
    simp only [List.length_cons, List.length_nil] at this
    omega
  rw [← line_word c ⟨h0, h1, h2, h5⟩]
  omega
theorem parse_len (s : Bs) : ((parseP s).getD c0).l.length ≤ 17 := by
  have HLN : (guessP s).l.length ≤ 17 := by
    unfold guessP
    dsimp only
    split
    · simp
    · split
      · simp
      · split
        · rw [List.length_map]
          have := splitK_count [44] (min 17 ((Lib.cut s [32]).2.1.length + 1) - 1) (Lib.cut s [32]).2.1
          omega
        · split <;> simp
  unfold parseP
  split
  · exact HLN
  · exact Nat.zero_le _
theorem parse_U (s : Bs) : Stamp.U ((parseP s).getD c0).t := by
  unfold parseP
  split
  · exact (guessP_U s).1
  · exact ⟨by decide, by decide⟩
theorem load5 {w : World} {b : Nat} {T : TypeId} {v0 v1 v2 v3 v4 : Value} (h : w.heap[b]? = some (.cells #[v0, v1, v2, v3, v4] T (0, 0))) {w' : World} {n : Nat} (hb : Below n w w') (hn : b < n) : w'.heap[b]? = some (.cells #[v0, v1, v2, v3, v4] T (0, 0)) := (hb.block b hn).trans h
set_option maxRecDepth 1000000 in
set_option maxHeartbeats 16000000 in
theorem scriptLines_any (k h p t : Int) (s : Bs) {w : World} {l : List Batch.Ch} {al : Option Addr} {cl : Nat} (hv : Batch.Rd w (.slice al l.length cl) l) (ht : Stamp.U t) (hs : s.length ≤ 9223372036854775807) (hL : SV w) :
    Calls Tryz.prog 3 #[.agg #[.int .i64 k, .int .i64 h, .int .i64 p, .int .u64 t, .slice al l.length cl], .string (bs s)] w fun e w' => e = .returned (.bool true) ∧ Below w.heap.size w w' := by
  have hv0 := hv
  obtain ⟨ao', cap', e', hlc, hcm, _⟩ := hv0
  obtain ⟨rfl, _, rfl⟩ : al = ao' ∧ True ∧ cl = cap' := by simp only [Value.slice.injEq] at e'; exact ⟨e'.1, trivial, e'.2.2⟩
  clear e'
  have HT := Lib.hid (rdTake hv (min l.length 30) (Nat.min_le_left _ _))
  have hlen : l.length ≤ 9223372036854775807 := by omega
  have hlen2 : (l.take (min l.length 30)).length = min l.length 30 := by rw [List.length_take]; omega
  have hLl : (l.take (min l.length 30)).length ≤ 30 := by omega
  have hmin : min (l.length : Int) 30 = ((min l.length 30 : Nat) : Int) := by omega
  have hcn : min l.length 30 ≤ cl := by omega
  have HN := Lib.hid hlen2
  generalize l.take (min l.length 30) = L at HT hLl HN
  generalize min l.length 30 = n at HT hmin hcn HN
  have hn : n = L.length := HN.out.symm
  subst hn
  have hcc : (L.length : Int) ≤ (cl : Int) := by omega
  have h0 : (0 : Int) ≤ (L.length : Int) := by omega
  have hq3 : (cl : Int) ≤ 9223372036854775807 := by omega
  clear hv hlen2 hlc
  have HSL := Lib.hid (bs_size s)
  have HL := Lib.hid hL
  have HU := Lib.hid ht
  have HUL := Lib.hid (show ∀ x ∈ L, Stamp.U x.t from fun x hx => ⟨(HT.out.wf x hx).t0, (HT.out.wf x hx).t1⟩)
  have HLL := Lib.hid (show L.length ≤ 100000 by omega)
  clear hL ht hLl
  obtain ⟨w1, hw1⟩ : ∃ w1, w1 = w.alloc (.cells #[.int .i64 k, .int .i64 h, .int .i64 p, .int .u64 t, .slice al l.length cl] 25) := ⟨_, rfl⟩
  have hc1 : w1.heap[w.heap.size]? = some (.cells #[.int .i64 k, .int .i64 h, .int .i64 p, .int .u64 t, .slice al l.length cl] 25 (0, 0)) := by rw [hw1]; exact heap_alloc_new w _
  have HB1 := Lib.hid (show Below w.heap.size w w1 by rw [hw1]; exact (Below.refl _ _).alloc (Nat.le_refl _) _)
  go_enter Tryz.func3, Tryz.ntmps3
  go_upto_region 1 with fail
  rw [← hw1]
  clear hw1
  obtain ⟨z, hz⟩ : ∃ z, z = w.heap.size := ⟨_, rfl⟩
  rw [← hz] at hc1 ⊢
  have HZZ := Lib.hid hz
  obtain ⟨y0, y1, y2, y3, y4⟩ := cells5 hc1
  have zf4 := freeC hc1 4
  have HX1 := Lib.hid hc1
  clear hz hc1
  go_upto_region 2 with fail
  obtain ⟨w2, hw2⟩ : ∃ w2, w2 = w1.setCell ⟨z, 4, none⟩ (.slice al L.length cl) := ⟨_, rfl⟩
  have HX2 := Lib.hid (show w2.heap[z]? = some (.cells #[.int .i64 k, .int .i64 h, .int .i64 p, .int .u64 t, .slice al L.length cl] 25 (0, 0)) by rw [hw2]; exact heap_setCell_same _ z 4 _ _ _ HX1.out)
  have HB2 := Lib.hid (show Below w.heap.size w w2 by rw [hw2]; exact HB1.out.setCell (p := ⟨z, 4, none⟩) (Nat.le_of_eq HZZ.out.symm) _)
  rw [← hw2]
  clear hw2 y0 y1 y2 y3 y4 zf4 HX1 hmin hcc h0 hq3 hcn hcm hlen
  by_cases hS : (500 : Int) < ((bs s).size : Int)
  · have HTD := Lib.hid (scTold_any (HL.out.below HB2.out))
    go_wp2_with fail
    go_at_call 5
    refine HTD.out.mono ?_
    rintro e w3 ⟨rfl, hb⟩
    have HB3 := Lib.hid (HB2.out.trans (hb.mono HB2.out.size))
    clear hb
    go_wp2_with fail
    go_ret
    exact ⟨rfl, HB3.out⟩
  have HSS := Lib.hid (show s.length ≤ 10000 by have := HSL.out; omega)
  go_upto_region 4 with fail
  clear hS hs
  have HP1 := Lib.hid (scParse_any s HSS.out (HL.out.below HB2.out))
  have HP2 := Lib.hid (fun w' => parse_same s ▸ refParse_any s HSS.out w')
  have HPU := Lib.hid (parse_U s)
  have HPL := Lib.hid (parse_len s)
  have HPS := Lib.hid (fun c (e : parseP s = some c) => (parse_some e).2)
  generalize parseP s = O at *
  go_wp2_with fail
  go_at_call 6
  refine HP1.out.mono ?_
  rintro e w3 ⟨v3, rfl, hs3, hb⟩
  obtain ⟨va, vk, rfl, _⟩ := id hs3
  generalize hE : (if O.isSome = true then (0 : Int) else 13) = eo
  have HEO := Lib.hid hE
  clear hE
  have HB3 := Lib.hid (HB2.out.trans (hb.mono HB2.out.size))
  have HX3 := Lib.hid (load5 HX2.out hb (Array.getElem?_eq_some_iff.1 HX2.out).1)
  have HS3 := Lib.hid hs3.rd
  clear hs3 hb HP1
  go_upto_region 5 with fail
  obtain ⟨w4, hw4⟩ : ∃ w4, w4 = w3.alloc (.cells #[.int .i64 (O.getD c0).k, .int .i64 (O.getD c0).h, .int .i64 (O.getD c0).p, .int .u64 (O.getD c0).t, .slice va (O.getD c0).l.length vk] 29) := ⟨_, rfl⟩
  have hc4 : w4.heap[w3.heap.size]? = some (.cells #[.int .i64 (O.getD c0).k, .int .i64 (O.getD c0).h, .int .i64 (O.getD c0).p, .int .u64 (O.getD c0).t, .slice va (O.getD c0).l.length vk] 29 (0, 0)) := by rw [hw4]; exact heap_alloc_new w3 _
  have hb4 : Below w3.heap.size w3 w4 := by rw [hw4]; exact (Below.refl _ _).alloc (Nat.le_refl _) _
  rw [← hw4]
  obtain ⟨x, hx⟩ : ∃ x, x = w3.heap.size := ⟨_, rfl⟩
  rw [← hx] at hc4 ⊢
  have HB4 := Lib.hid (HB3.out.trans (hb4.mono HB3.out.size))
  have HX4 := Lib.hid (load5 HX3.out hb4 (Array.getElem?_eq_some_iff.1 HX3.out).1)
  have HY4 := Lib.hid hc4
  have HS4 := Lib.hid (HS3.out.below hb4)
  clear hw4 hb4 hx hc4
  go_wp2_with fail
  go_at_call 7
  refine (HP2.out w4).mono ?_
  rintro e w5 ⟨v5, rfl, hs5, hb⟩
  obtain ⟨ya, yk, rfl, _⟩ := id hs5
  have HB5 := Lib.hid (HB4.out.trans (hb.mono HB4.out.size))
  have HX5 := Lib.hid (load5 HX4.out hb (Array.getElem?_eq_some_iff.1 HX4.out).1)
  have HY5 := Lib.hid (load5 HY4.out hb (Array.getElem?_eq_some_iff.1 HY4.out).1)
  have HS5 := Lib.hid (HS4.out.below hb)
  have HR5 := Lib.hid hs5.rd
  clear hs5 hb HP2
  go_upto_region 6 with fail
  obtain ⟨w6, hw6⟩ : ∃ w6, w6 = w5.alloc (.cells #[.int .i64 (O.getD c0).k, .int .i64 (O.getD c0).h, .int .i64 (O.getD c0).p, .int .u64 (O.getD c0).t, .slice ya (O.getD c0).l.length yk] 25) := ⟨_, rfl⟩
  have hc6 : w6.heap[w5.heap.size]? = some (.cells #[.int .i64 (O.getD c0).k, .int .i64 (O.getD c0).h, .int .i64 (O.getD c0).p, .int .u64 (O.getD c0).t, .slice ya (O.getD c0).l.length yk] 25 (0, 0)) := by rw [hw6]; exact heap_alloc_new w5 _
  have hb6 : Below w5.heap.size w5 w6 := by rw [hw6]; exact (Below.refl _ _).alloc (Nat.le_refl _) _
  rw [← hw6]
  obtain ⟨y, hy⟩ : ∃ y, y = w5.heap.size := ⟨_, rfl⟩
  rw [← hy] at hc6 ⊢
  have HB6 := Lib.hid (HB5.out.trans (hb6.mono HB5.out.size))
  have HX6 := Lib.hid (load5 HX5.out hb6 (Array.getElem?_eq_some_iff.1 HX5.out).1)
  have HY6 := Lib.hid (load5 HY5.out hb6 (Array.getElem?_eq_some_iff.1 HY5.out).1)
  have HZ6 := Lib.hid hc6
  have HS6 := Lib.hid (HS5.out.below hb6)
  have HR6 := Lib.hid (HR5.out.below hb6)
  clear hw6 hb6 hy hc6
  have HTO := Lib.hid (cmdTo_any k h p t HLL.out (HT.out.below HB6.out))
  obtain ⟨y0, y1, y2, y3, y4⟩ := cells5 HX6.out
  go_wp2_with fail
  go_at_call 9
  refine HTO.out.mono ?_
  rintro e w7 ⟨la, lc, rfl, hs7, hb⟩
  have HB7 := Lib.hid (HB6.out.trans (hb.mono HB6.out.size))
  have HX7 := Lib.hid (load5 HX6.out hb (Array.getElem?_eq_some_iff.1 HX6.out).1)
  have HY7 := Lib.hid (load5 HY6.out hb (Array.getElem?_eq_some_iff.1 HY6.out).1)
  have HZ7 := Lib.hid (load5 HZ6.out hb (Array.getElem?_eq_some_iff.1 HZ6.out).1)
  have HS7 := Lib.hid (HS6.out.below hb)
  have HR7 := Lib.hid (HR6.out.below hb)
  have HLI := Lib.hid (scLine_any (k := k) (h := h) (p := p) hs7.rd HLL.out HU.out (HL.out.below HB7.out))
  clear hs7 hb y0 y1 y2 y3 y4 HTO
  go_wp2_with fail
  go_at_call 8
  refine HLI.out.mono ?_
  rintro e w8 ⟨rfl, hb⟩
  have HB8 := Lib.hid (HB7.out.trans (hb.mono HB7.out.size))
  have HX8 := Lib.hid (load5 HX7.out hb (Array.getElem?_eq_some_iff.1 HX7.out).1)
  have HY8 := Lib.hid (load5 HY7.out hb (Array.getElem?_eq_some_iff.1 HY7.out).1)
  have HZ8 := Lib.hid (load5 HZ7.out hb (Array.getElem?_eq_some_iff.1 HZ7.out).1)
  have HS8 := Lib.hid (HS7.out.below hb)
  have HR8 := Lib.hid (HR7.out.below hb)
  clear hb HLI
  have HP3 := Lib.hid (scParse_any (lineL ⟨k, h, p, t, L⟩) (lineL_len HU.out HUL.out) (HL.out.below HB8.out))
  have HQU := Lib.hid (parse_U (lineL ⟨k, h, p, t, L⟩))
  have HQL := Lib.hid (parse_len (lineL ⟨k, h, p, t, L⟩))
  have HQE := Lib.hid (fun e : lineL ⟨k, h, p, t, L⟩ = [] => (e ▸ parse_empty : parseP (lineL ⟨k, h, p, t, L⟩) = none))
  have HQS := Lib.hid (fun e : lineL ⟨k, h, p, t, L⟩ ≠ [] => (parse_line (c := ⟨k, h, p, t, L⟩) HU.out HUL.out e))
  have HNO := Lib.hid (lineL_norm ⟨k, h, p, t, L⟩)
  generalize parseP (lineL ⟨k, h, p, t, L⟩) = Q at *
  go_wp2_with fail
  go_at_call 6
  refine HP3.out.mono ?_
  rintro e w9 ⟨v9, rfl, hs9, hb⟩
  obtain ⟨ra, rk, rfl, _⟩ := id hs9
  generalize hE : (if Q.isSome = true then (0 : Int) else 13) = qo
  have HQO := Lib.hid hE
  clear hE
  have HB9 := Lib.hid (HB8.out.trans (hb.mono HB8.out.size))
  have HX9 := Lib.hid (load5 HX8.out hb (Array.getElem?_eq_some_iff.1 HX8.out).1)
  have HY9 := Lib.hid (load5 HY8.out hb (Array.getElem?_eq_some_iff.1 HY8.out).1)
  have HZ9 := Lib.hid (load5 HZ8.out hb (Array.getElem?_eq_some_iff.1 HZ8.out).1)
  have HS9 := Lib.hid (HS8.out.below hb)
  have HR9 := Lib.hid (HR8.out.below hb)
  have HW9 := Lib.hid hs9.rd
  clear hs9 hb HP3
  go_upto_region 8 with fail
  obtain ⟨w10, hw10⟩ : ∃ w10, w10 = w9.alloc (.cells #[.int .i64 (Q.getD c0).k, .int .i64 (Q.getD c0).h, .int .i64 (Q.getD c0).p, .int .u64 (Q.getD c0).t, .slice ra (Q.getD c0).l.length rk] 29) := ⟨_, rfl⟩
  have hc10 : w10.heap[w9.heap.size]? = some (.cells #[.int .i64 (Q.getD c0).k, .int .i64 (Q.getD c0).h, .int .i64 (Q.getD c0).p, .int .u64 (Q.getD c0).t, .slice ra (Q.getD c0).l.length rk] 29 (0, 0)) := by rw [hw10]; exact heap_alloc_new w9 _
  have hb10 : Below w9.heap.size w9 w10 := by rw [hw10]; exact (Below.refl _ _).alloc (Nat.le_refl _) _
  rw [← hw10]
  obtain ⟨q, hq⟩ : ∃ q, q = w9.heap.size := ⟨_, rfl⟩
  rw [← hq] at hc10 ⊢
  have HB10 := Lib.hid (HB9.out.trans (hb10.mono HB9.out.size))
  have HX10 := Lib.hid (load5 HX9.out hb10 (Array.getElem?_eq_some_iff.1 HX9.out).1)
  have HY10 := Lib.hid (load5 HY9.out hb10 (Array.getElem?_eq_some_iff.1 HY9.out).1)
  have HZ10 := Lib.hid (load5 HZ9.out hb10 (Array.getElem?_eq_some_iff.1 HZ9.out).1)
  have HQ10 := Lib.hid hc10
  have HS10 := Lib.hid (HS9.out.below hb10)
  have HR10 := Lib.hid (HR9.out.below hb10)
  have HW10 := Lib.hid (HW9.out.below hb10)
  clear hw10 hb10 hq hc10 HX2 HX3 HX4 HX5 HX6 HX7 HX8 HX9 HY4 HY5 HY6 HY7 HY8 HY9 HZ6 HZ7 HZ8 HZ9 HS3 HS4 HS5 HS6 HS7 HS8 HS9 HR5 HR6 HR7 HR8 HR9 HW9 HB1 HB2 HB3 HB4 HB5 HB6 HB7 HB8 HB9
  have HOS := Lib.hid (fun e : O.isSome = true => (by cases O with
    | none => cases e
    | some c => exact HPS.out c rfl : lineL (O.getD c0) = s))
  have HQ1 := Lib.hid (fun e : lineL ⟨k, h, p, t, L⟩ = [] => (by have := HQE.out e; have r := HQO.out; rw [this] at r; exact r.symm : qo = 13))
  have HQ2 := Lib.hid (fun e : lineL ⟨k, h, p, t, L⟩ ≠ [] => (by have := HQS.out e; have r := HQO.out; rw [this] at r; exact ⟨r.symm, by rw [this]; exact HNO.out⟩ : qo = 0 ∧ lineL (Q.getD c0) = lineL ⟨k, h, p, t, L⟩))
  have HRL := Lib.hid (fun w' (hb : Below w10.heap.size w10 w') => refLine_any (k := k) (h := h) (p := p) ((HT.out.below HB10.out).below hb) HLL.out HU.out)
  clear HPS HQE HQS HQO HNO
  generalize lineL ⟨k, h, p, t, L⟩ = ll at *
  generalize O.getD c0 = X at *
  generalize O.isSome = ob at *
  generalize Q.getD c0 = Z at *
  obtain ⟨xk, xh, xp, xt, xl⟩ := X
  obtain ⟨zk, zh, zp, zt, zl⟩ := Z
  dsimp only at *
  obtain ⟨a0, a1, a2, a3, a4⟩ := cells5 HY10.out
  obtain ⟨b0, b1, b2, b3, b4⟩ := cells5 HZ10.out
  obtain ⟨d0, d1, d2, d3, d4⟩ := cells5 HX10.out
  have LA := (Array.getElem?_eq_some_iff.1 HY10.out).1
  have LB := (Array.getElem?_eq_some_iff.1 HZ10.out).1
  have LD := (Array.getElem?_eq_some_iff.1 HX10.out).1
  have HXL := Lib.hid (Nat.le_trans HPL.out (by decide) : xl.length ≤ 100000)
  have HZL := Lib.hid (Nat.le_trans HQL.out (by decide) : zl.length ≤ 100000)
  have HSV := Lib.hid (fun w' (hb : Below w10.heap.size w10 w') => HL.out.below (HB10.out.trans (hb.mono HB10.out.size)))
  cases ob
  · have e0 := HEO.out
    simp only [Bool.false_eq_true, if_false, if_true, reduceIte] at e0
    subst e0
    clear HOS HEO
    by_cases hW : ll = []
    · have q0 := HQ1.out hW
      have eE : ((bs ll).toList == []) = true := by rw [Lib.toList_data, bs_data, hW]; rfl
      subst q0
      clear hW HQ1 HQ2
      refine wp_region_held_drew (S := fun w' => w'.cell? ⟨x, 0, none⟩ = some (.int .i64 xk) ∧ w'.cell? ⟨x, 1, none⟩ = some (.int .i64 xh) ∧ w'.cell? ⟨x, 2, none⟩ = some (.int .i64 xp) ∧ w'.cell? ⟨x, 3, none⟩ = some (.int .u64 xt) ∧ w'.cell? ⟨x, 4, none⟩ = some (.slice va xl.length vk) ∧ w'.cell? ⟨y, 0, none⟩ = some (.int .i64 xk) ∧ w'.cell? ⟨y, 1, none⟩ = some (.int .i64 xh) ∧ w'.cell? ⟨y, 2, none⟩ = some (.int .i64 xp) ∧ w'.cell? ⟨y, 3, none⟩ = some (.int .u64 xt) ∧ w'.cell? ⟨y, 4, none⟩ = some (.slice ya xl.length yk) ∧ w'.cell? ⟨z, 0, none⟩ = some (.int .i64 k) ∧ w'.cell? ⟨z, 1, none⟩ = some (.int .i64 h) ∧ w'.cell? ⟨z, 2, none⟩ = some (.int .i64 p) ∧ w'.cell? ⟨z, 3, none⟩ = some (.int .u64 t) ∧ w'.cell? ⟨z, 4, none⟩ = some (.slice al L.length cl)) (by kernel_rfl) ?_ (fun hHeld => ?_)
      · ((try dsimp only); exact ⟨a0, a1, a2, a3, a4, b0, b1, b2, b3, b4, d0, d1, d2, d3, d4⟩)
      have HB0 := Lib.hid (show Below w10.heap.size w10 w10.drew from below_drewN (Below.refl _ _) 1)
      refine Qr 0 fun K hK => ?_
      go_simp
      go_at_call 5
      refine (scTold_any (HSV.out _ HB0.out)).mono ?_
      rintro e w11 ⟨rfl, hb⟩
      have HBw11 := Lib.hid (HB0.out.trans (hb.mono HB0.out.size))
      try go_wp2_with fail
      refine hK.out _ _ ?_ (fun hHeld => ?_)
      · ((try dsimp only); exact ⟨Kc HBw11.out LA a0, Kc HBw11.out LA a1, Kc HBw11.out LA a2, Kc HBw11.out LA a3, Kc HBw11.out LA a4, Kc HBw11.out LB b0, Kc HBw11.out LB b1, Kc HBw11.out LB b2, Kc HBw11.out LB b3, Kc HBw11.out LB b4, Kc HBw11.out LD d0, Kc HBw11.out LD d1, Kc HBw11.out LD d2, Kc HBw11.out LD d3, Kc HBw11.out LD d4⟩)
      clear hK K
      try simp only [Act.put, Qa, Qb, Qc, Qd, Qe, Qf]
      refine Qt 1 (fun _ => ?_)
      refine Qt 2 (fun _ => ?_)
      refine Qt 3 (fun _ => ?_)
      refine Qt 5 (fun _ => ?_)
      refine Qr 4 fun K hK => ?_
      go_simp
      go_at_call 11
      refine (cmdFrom_any xk xh xp xt HXL.out (HS10.out.below HBw11.out)).mono ?_
      rintro e w12 ⟨fa, fc, rfl, hsf, hb⟩
      have HBw12 := Lib.hid (HBw11.out.trans (hb.mono HBw11.out.size))
      try go_wp2_with fail
      refine hK.out _ _ ?_ (fun hHeld => ?_)
      · ((try dsimp only); exact ⟨Kc HBw12.out LA a0, Kc HBw12.out LA a1, Kc HBw12.out LA a2, Kc HBw12.out LA a3, Kc HBw12.out LA a4, Kc HBw12.out LB b0, Kc HBw12.out LB b1, Kc HBw12.out LB b2, Kc HBw12.out LB b3, Kc HBw12.out LB b4, Kc HBw12.out LD d0, Kc HBw12.out LD d1, Kc HBw12.out LD d2, Kc HBw12.out LD d3, Kc HBw12.out LD d4⟩)
      clear hK K
      try simp only [Act.put, Qa, Qb, Qc, Qd, Qe, Qf]
      have HF12 := Lib.hid hsf.rd
      clear hsf
      refine Qr 6 fun K hK => ?_
      go_simp
      go_at_call 10
      refine (cmdSame_self ⟨xk, xh, xp, xt, xl⟩ HF12.out (HR10.out.below HBw12.out)).mono ?_
      rintro e w13 ⟨rfl, hb⟩
      have HBw13 := Lib.hid (HBw12.out.trans (hb.mono HBw12.out.size))
      try go_wp2_with fail
      refine hK.out _ _ ?_ (fun hHeld => ?_)
      · ((try dsimp only); exact ⟨Kc HBw13.out LA a0, Kc HBw13.out LA a1, Kc HBw13.out LA a2, Kc HBw13.out LA a3, Kc HBw13.out LA a4, Kc HBw13.out LB b0, Kc HBw13.out LB b1, Kc HBw13.out LB b2, Kc HBw13.out LB b3, Kc HBw13.out LB b4, Kc HBw13.out LD d0, Kc HBw13.out LD d1, Kc HBw13.out LD d2, Kc HBw13.out LD d3, Kc HBw13.out LD d4⟩)
      clear hK K
      try simp only [Act.put, Qa, Qb, Qc, Qd, Qe, Qf]
      refine Qt 7 (fun _ => ?_)
      refine Qt 8 (fun _ => ?_)
      refine Qt 9 (fun _ => ?_)
      refine Qt 10 (fun _ => ?_)
      refine Qt 11 (fun _ => ?_)
      refine Qt 12 (fun _ => ?_)
      refine Qt 13 (fun _ => ?_)
      refine Qt 14 (fun _ => ?_)
      refine Qt 15 (fun _ => ?_)
      refine Qt 16 (fun _ => ?_)
      refine Qt 17 (fun _ => ?_)
      refine Qt 18 (fun _ => ?_)
      refine Qt 19 (fun _ => ?_)
      refine Qt 20 (fun _ => ?_)
      refine Qt 21 (fun _ => ?_)
      refine Qt 22 (fun _ => ?_)
      refine Qt 23 (fun _ => ?_)
      refine Qt 24 (fun _ => ?_)
      refine Qt 25 (fun _ => ?_)
      refine wpAnyH_take (i := 26) (v := undef) rfl (by kernel_rfl) (by kernel_rfl) (by kernel_rfl) (fun _ _ _ h => h) (Or.inr ⟨by rfl, rfl⟩) (by assumption) ?_
      try simp only [Act.put, Qa, Qb, Qc, Qd, Qe, Qf]
      refine wpAnyH_take (i := 27) (v := undef) rfl (by kernel_rfl) (by kernel_rfl) (by kernel_rfl) (fun _ _ _ h => h) (Or.inr ⟨by rfl, rfl⟩) (by assumption) ?_
      try simp only [Act.put, Qa, Qb, Qc, Qd, Qe, Qf]
      refine wpAnyH_take (i := 28) (v := undef) rfl (by kernel_rfl) (by kernel_rfl) (by kernel_rfl) (fun _ _ _ h => h) (Or.inr ⟨by rfl, rfl⟩) (by assumption) ?_
      try simp only [Act.put, Qa, Qb, Qc, Qd, Qe, Qf]
      refine wpAnyH_take (i := 29) (v := undef) rfl (by kernel_rfl) (by kernel_rfl) (by kernel_rfl) (fun _ _ _ h => h) (Or.inr ⟨by rfl, rfl⟩) (by assumption) ?_
      try simp only [Act.put, Qa, Qb, Qc, Qd, Qe, Qf]
      refine Qt 30 (fun _ => ?_)
      refine Qt 31 (fun _ => ?_)
      refine Qt 32 (fun _ => ?_)
      refine Qt 33 (fun _ => ?_)
      refine Qt 34 (fun _ => ?_)
      refine Qr 35 fun K hK => ?_
      go_simp
      go_at_call 12
      refine (HRL.out _ HBw13.out).mono ?_
      rintro e w15 ⟨rfl, hb⟩
      have HBw15 := Lib.hid (HBw13.out.trans (hb.mono HBw13.out.size))
      try go_wp2_with fail
      refine hK.out _ _ ?_ (fun hHeld => ?_)
      · ((try dsimp only); exact ⟨Kc HBw15.out LA a0, Kc HBw15.out LA a1, Kc HBw15.out LA a2, Kc HBw15.out LA a3, Kc HBw15.out LA a4, Kc HBw15.out LB b0, Kc HBw15.out LB b1, Kc HBw15.out LB b2, Kc HBw15.out LB b3, Kc HBw15.out LB b4, Kc HBw15.out LD d0, Kc HBw15.out LD d1, Kc HBw15.out LD d2, Kc HBw15.out LD d3, Kc HBw15.out LD d4⟩)
      clear hK K
      try simp only [Act.put, Qa, Qb, Qc, Qd, Qe, Qf]
      refine Qt 36 (fun _ => ?_)
      refine Qt 37 (fun _ => ?_)
      refine Qt 38 (fun _ => ?_)
      refine Qt 39 (fun _ => ?_)
      refine Qt 40 (fun _ => ?_)
      refine Qt 41 (fun _ => ?_)
      refine Qt 42 (fun _ => ?_)
      refine Qt 43 (fun _ => ?_)
      refine Qt 44 (fun _ => ?_)
      refine wpAnyH_done (by kernel_rfl) ?_ _
      go_wp2_with fail
      go_ret
      exact ⟨rfl, HB10.out.trans (HBw15.out.mono HB10.out.size)⟩
    · obtain ⟨q0, hle⟩ := HQ2.out hW
      have HLE := Lib.hid hle
      clear hle
      have eE : ((bs ll).toList == []) = false := by rw [Lib.toList_data, bs_data, beq_eq_false_iff_ne]; exact hW
      subst q0
      clear hW HQ1 HQ2
      refine wp_region_held_drew (S := fun w' => w'.cell? ⟨x, 0, none⟩ = some (.int .i64 xk) ∧ w'.cell? ⟨x, 1, none⟩ = some (.int .i64 xh) ∧ w'.cell? ⟨x, 2, none⟩ = some (.int .i64 xp) ∧ w'.cell? ⟨x, 3, none⟩ = some (.int .u64 xt) ∧ w'.cell? ⟨x, 4, none⟩ = some (.slice va xl.length vk) ∧ w'.cell? ⟨y, 0, none⟩ = some (.int .i64 xk) ∧ w'.cell? ⟨y, 1, none⟩ = some (.int .i64 xh) ∧ w'.cell? ⟨y, 2, none⟩ = some (.int .i64 xp) ∧ w'.cell? ⟨y, 3, none⟩ = some (.int .u64 xt) ∧ w'.cell? ⟨y, 4, none⟩ = some (.slice ya xl.length yk) ∧ w'.cell? ⟨z, 0, none⟩ = some (.int .i64 k) ∧ w'.cell? ⟨z, 1, none⟩ = some (.int .i64 h) ∧ w'.cell? ⟨z, 2, none⟩ = some (.int .i64 p) ∧ w'.cell? ⟨z, 3, none⟩ = some (.int .u64 t) ∧ w'.cell? ⟨z, 4, none⟩ = some (.slice al L.length cl)) (by kernel_rfl) ?_ (fun hHeld => ?_)
      · ((try dsimp only); exact ⟨a0, a1, a2, a3, a4, b0, b1, b2, b3, b4, d0, d1, d2, d3, d4⟩)
      have HB0 := Lib.hid (show Below w10.heap.size w10 w10.drew from below_drewN (Below.refl _ _) 1)
      refine Qr 0 fun K hK => ?_
      go_simp
      go_at_call 5
      refine (scTold_any (HSV.out _ HB0.out)).mono ?_
      rintro e w11 ⟨rfl, hb⟩
      have HBw11 := Lib.hid (HB0.out.trans (hb.mono HB0.out.size))
      try go_wp2_with fail
      refine hK.out _ _ ?_ (fun hHeld => ?_)
      · ((try dsimp only); exact ⟨Kc HBw11.out LA a0, Kc HBw11.out LA a1, Kc HBw11.out LA a2, Kc HBw11.out LA a3, Kc HBw11.out LA a4, Kc HBw11.out LB b0, Kc HBw11.out LB b1, Kc HBw11.out LB b2, Kc HBw11.out LB b3, Kc HBw11.out LB b4, Kc HBw11.out LD d0, Kc HBw11.out LD d1, Kc HBw11.out LD d2, Kc HBw11.out LD d3, Kc HBw11.out LD d4⟩)
      clear hK K
      try simp only [Act.put, Qa, Qb, Qc, Qd, Qe, Qf]
      refine Qt 1 (fun _ => ?_)
      refine Qt 2 (fun _ => ?_)
      refine Qt 3 (fun _ => ?_)
      refine Qt 5 (fun _ => ?_)
      refine Qr 4 fun K hK => ?_
      go_simp
      go_at_call 11
      refine (cmdFrom_any xk xh xp xt HXL.out (HS10.out.below HBw11.out)).mono ?_
      rintro e w12 ⟨fa, fc, rfl, hsf, hb⟩
      have HBw12 := Lib.hid (HBw11.out.trans (hb.mono HBw11.out.size))
      try go_wp2_with fail
      refine hK.out _ _ ?_ (fun hHeld => ?_)
      · ((try dsimp only); exact ⟨Kc HBw12.out LA a0, Kc HBw12.out LA a1, Kc HBw12.out LA a2, Kc HBw12.out LA a3, Kc HBw12.out LA a4, Kc HBw12.out LB b0, Kc HBw12.out LB b1, Kc HBw12.out LB b2, Kc HBw12.out LB b3, Kc HBw12.out LB b4, Kc HBw12.out LD d0, Kc HBw12.out LD d1, Kc HBw12.out LD d2, Kc HBw12.out LD d3, Kc HBw12.out LD d4⟩)
      clear hK K
      try simp only [Act.put, Qa, Qb, Qc, Qd, Qe, Qf]
      have HF12 := Lib.hid hsf.rd
      clear hsf
      refine Qr 6 fun K hK => ?_
      go_simp
      go_at_call 10
      refine (cmdSame_self ⟨xk, xh, xp, xt, xl⟩ HF12.out (HR10.out.below HBw12.out)).mono ?_
      rintro e w13 ⟨rfl, hb⟩
      have HBw13 := Lib.hid (HBw12.out.trans (hb.mono HBw12.out.size))
      try go_wp2_with fail
      refine hK.out _ _ ?_ (fun hHeld => ?_)
      · ((try dsimp only); exact ⟨Kc HBw13.out LA a0, Kc HBw13.out LA a1, Kc HBw13.out LA a2, Kc HBw13.out LA a3, Kc HBw13.out LA a4, Kc HBw13.out LB b0, Kc HBw13.out LB b1, Kc HBw13.out LB b2, Kc HBw13.out LB b3, Kc HBw13.out LB b4, Kc HBw13.out LD d0, Kc HBw13.out LD d1, Kc HBw13.out LD d2, Kc HBw13.out LD d3, Kc HBw13.out LD d4⟩)
      clear hK K
      try simp only [Act.put, Qa, Qb, Qc, Qd, Qe, Qf]
      refine Qt 7 (fun _ => ?_)
      refine Qt 8 (fun _ => ?_)
      refine Qt 9 (fun _ => ?_)
      refine Qt 10 (fun _ => ?_)
      refine Qt 11 (fun _ => ?_)
      refine Qt 12 (fun _ => ?_)
      refine Qt 13 (fun _ => ?_)
      refine Qt 14 (fun _ => ?_)
      refine Qt 15 (fun _ => ?_)
      refine Qt 16 (fun _ => ?_)
      refine Qt 17 (fun _ => ?_)
      refine Qt 18 (fun _ => ?_)
      refine Qt 19 (fun _ => ?_)
      refine Qt 20 (fun _ => ?_)
      refine Qt 21 (fun _ => ?_)
      refine Qt 22 (fun _ => ?_)
      refine Qt 23 (fun _ => ?_)
      refine Qt 24 (fun _ => ?_)
      refine Qt 25 (fun _ => ?_)
      refine wpAnyH_take (i := 26) (v := undef) rfl (by kernel_rfl) (by kernel_rfl) (by kernel_rfl) (fun _ _ _ h => h) (Or.inr ⟨by rfl, rfl⟩) (by assumption) ?_
      try simp only [Act.put, Qa, Qb, Qc, Qd, Qe, Qf]
      refine wpAnyH_take (i := 27) (v := undef) rfl (by kernel_rfl) (by kernel_rfl) (by kernel_rfl) (fun _ _ _ h => h) (Or.inr ⟨by rfl, rfl⟩) (by assumption) ?_
      try simp only [Act.put, Qa, Qb, Qc, Qd, Qe, Qf]
      refine wpAnyH_take (i := 28) (v := undef) rfl (by kernel_rfl) (by kernel_rfl) (by kernel_rfl) (fun _ _ _ h => h) (Or.inr ⟨by rfl, rfl⟩) (by assumption) ?_
      try simp only [Act.put, Qa, Qb, Qc, Qd, Qe, Qf]
      refine wpAnyH_take (i := 29) (v := undef) rfl (by kernel_rfl) (by kernel_rfl) (by kernel_rfl) (fun _ _ _ h => h) (Or.inr ⟨by rfl, rfl⟩) (by assumption) ?_
      try simp only [Act.put, Qa, Qb, Qc, Qd, Qe, Qf]
      refine Qt 30 (fun _ => ?_)
      refine Qt 31 (fun _ => ?_)
      refine Qt 32 (fun _ => ?_)
      refine Qt 33 (fun _ => ?_)
      refine Qt 34 (fun _ => ?_)
      refine Qr 35 fun K hK => ?_
      go_simp
      go_at_call 12
      refine (HRL.out _ HBw13.out).mono ?_
      rintro e w15 ⟨rfl, hb⟩
      have HBw15 := Lib.hid (HBw13.out.trans (hb.mono HBw13.out.size))
      try go_wp2_with fail
      refine hK.out _ _ ?_ (fun hHeld => ?_)
      · ((try dsimp only); exact ⟨Kc HBw15.out LA a0, Kc HBw15.out LA a1, Kc HBw15.out LA a2, Kc HBw15.out LA a3, Kc HBw15.out LA a4, Kc HBw15.out LB b0, Kc HBw15.out LB b1, Kc HBw15.out LB b2, Kc HBw15.out LB b3, Kc HBw15.out LB b4, Kc HBw15.out LD d0, Kc HBw15.out LD d1, Kc HBw15.out LD d2, Kc HBw15.out LD d3, Kc HBw15.out LD d4⟩)
      clear hK K
      try simp only [Act.put, Qa, Qb, Qc, Qd, Qe, Qf]
      refine Qt 36 (fun _ => ?_)
      refine Qt 37 (fun _ => ?_)
      refine Qt 38 (fun _ => ?_)
      refine Qt 39 (fun _ => ?_)
      refine Qt 40 (fun _ => ?_)
      refine Qt 41 (fun _ => ?_)
      refine Qt 42 (fun _ => ?_)
      refine Qt 43 (fun _ => ?_)
      refine Qt 44 (fun _ => ?_)
      refine wpAnyH_done (by kernel_rfl) ?_ _
      have HB16 := Lib.hid (HB10.out.trans (HBw15.out.mono HB10.out.size))
      obtain ⟨e0, e1, e2, e3, e4⟩ := cells5 (load5 HQ10.out HBw15.out (Array.getElem?_eq_some_iff.1 HQ10.out).1)
      have HLZ := Lib.hid (scLine_any (k := zk) (h := zh) (p := zp) (HW10.out.below HBw15.out) HZL.out HQU.out (HSV.out _ HBw15.out))
      rw [HLE.out] at HLZ
      go_wp2_with fail
      go_at_call 8
      refine HLZ.out.mono ?_
      rintro e w17 ⟨rfl, hb⟩
      have HB17 := Lib.hid (HB16.out.trans (hb.mono HB16.out.size))
      clear hb
      go_wp2_with fail
      go_ret
      exact ⟨rfl, HB17.out⟩
  · have e0 := HEO.out
    simp only [Bool.false_eq_true, if_false, if_true, reduceIte] at e0
    subst e0
    have HLX := Lib.hid (fun w' (r : Batch.Rd w' (.slice va xl.length vk) xl) (sv : SV w') => (by have qq := scLine_any (k := xk) (h := xh) (p := xp) r HXL.out HPU.out sv; rw [HOS.out rfl] at qq; exact qq : Calls Tryz.prog 8 #[.agg #[.int .i64 xk, .int .i64 xh, .int .i64 xp, .int .u64 xt, .slice va xl.length vk]] w' fun e w'' => e = .returned (.string (bs s)) ∧ Below w'.heap.size w' w''))
    clear HOS HEO
    by_cases hW : ll = []
    · have q0 := HQ1.out hW
      have eE : ((bs ll).toList == []) = true := by rw [Lib.toList_data, bs_data, hW]; rfl
      subst q0
      clear hW HQ1 HQ2
      refine wp_region_held_drew (S := fun w' => w'.cell? ⟨x, 0, none⟩ = some (.int .i64 xk) ∧ w'.cell? ⟨x, 1, none⟩ = some (.int .i64 xh) ∧ w'.cell? ⟨x, 2, none⟩ = some (.int .i64 xp) ∧ w'.cell? ⟨x, 3, none⟩ = some (.int .u64 xt) ∧ w'.cell? ⟨x, 4, none⟩ = some (.slice va xl.length vk) ∧ w'.cell? ⟨y, 0, none⟩ = some (.int .i64 xk) ∧ w'.cell? ⟨y, 1, none⟩ = some (.int .i64 xh) ∧ w'.cell? ⟨y, 2, none⟩ = some (.int .i64 xp) ∧ w'.cell? ⟨y, 3, none⟩ = some (.int .u64 xt) ∧ w'.cell? ⟨y, 4, none⟩ = some (.slice ya xl.length yk) ∧ w'.cell? ⟨z, 0, none⟩ = some (.int .i64 k) ∧ w'.cell? ⟨z, 1, none⟩ = some (.int .i64 h) ∧ w'.cell? ⟨z, 2, none⟩ = some (.int .i64 p) ∧ w'.cell? ⟨z, 3, none⟩ = some (.int .u64 t) ∧ w'.cell? ⟨z, 4, none⟩ = some (.slice al L.length cl)) (by kernel_rfl) ?_ (fun hHeld => ?_)
      · ((try dsimp only); exact ⟨a0, a1, a2, a3, a4, b0, b1, b2, b3, b4, d0, d1, d2, d3, d4⟩)
      have HB0 := Lib.hid (show Below w10.heap.size w10 w10.drew from below_drewN (Below.refl _ _) 1)
      refine Qr 0 fun K hK => ?_
      go_simp
      go_at_call 5
      refine (scTold_any (HSV.out _ HB0.out)).mono ?_
      rintro e w11 ⟨rfl, hb⟩
      have HBw11 := Lib.hid (HB0.out.trans (hb.mono HB0.out.size))
      try go_wp2_with fail
      refine hK.out _ _ ?_ (fun hHeld => ?_)
      · ((try dsimp only); exact ⟨Kc HBw11.out LA a0, Kc HBw11.out LA a1, Kc HBw11.out LA a2, Kc HBw11.out LA a3, Kc HBw11.out LA a4, Kc HBw11.out LB b0, Kc HBw11.out LB b1, Kc HBw11.out LB b2, Kc HBw11.out LB b3, Kc HBw11.out LB b4, Kc HBw11.out LD d0, Kc HBw11.out LD d1, Kc HBw11.out LD d2, Kc HBw11.out LD d3, Kc HBw11.out LD d4⟩)
      clear hK K
      try simp only [Act.put, Qa, Qb, Qc, Qd, Qe, Qf]
      refine Qt 1 (fun _ => ?_)
      refine Qt 2 (fun _ => ?_)
      refine Qt 3 (fun _ => ?_)
      refine Qt 5 (fun _ => ?_)
      refine Qr 4 fun K hK => ?_
      go_simp
      go_at_call 11
      refine (cmdFrom_any xk xh xp xt HXL.out (HS10.out.below HBw11.out)).mono ?_
      rintro e w12 ⟨fa, fc, rfl, hsf, hb⟩
      have HBw12 := Lib.hid (HBw11.out.trans (hb.mono HBw11.out.size))
      try go_wp2_with fail
      refine hK.out _ _ ?_ (fun hHeld => ?_)
      · ((try dsimp only); exact ⟨Kc HBw12.out LA a0, Kc HBw12.out LA a1, Kc HBw12.out LA a2, Kc HBw12.out LA a3, Kc HBw12.out LA a4, Kc HBw12.out LB b0, Kc HBw12.out LB b1, Kc HBw12.out LB b2, Kc HBw12.out LB b3, Kc HBw12.out LB b4, Kc HBw12.out LD d0, Kc HBw12.out LD d1, Kc HBw12.out LD d2, Kc HBw12.out LD d3, Kc HBw12.out LD d4⟩)
      clear hK K
      try simp only [Act.put, Qa, Qb, Qc, Qd, Qe, Qf]
      have HF12 := Lib.hid hsf.rd
      clear hsf
      refine Qr 6 fun K hK => ?_
      go_simp
      go_at_call 10
      refine (cmdSame_self ⟨xk, xh, xp, xt, xl⟩ HF12.out (HR10.out.below HBw12.out)).mono ?_
      rintro e w13 ⟨rfl, hb⟩
      have HBw13 := Lib.hid (HBw12.out.trans (hb.mono HBw12.out.size))
      try go_wp2_with fail
      refine hK.out _ _ ?_ (fun hHeld => ?_)
      · ((try dsimp only); exact ⟨Kc HBw13.out LA a0, Kc HBw13.out LA a1, Kc HBw13.out LA a2, Kc HBw13.out LA a3, Kc HBw13.out LA a4, Kc HBw13.out LB b0, Kc HBw13.out LB b1, Kc HBw13.out LB b2, Kc HBw13.out LB b3, Kc HBw13.out LB b4, Kc HBw13.out LD d0, Kc HBw13.out LD d1, Kc HBw13.out LD d2, Kc HBw13.out LD d3, Kc HBw13.out LD d4⟩)
      clear hK K
      try simp only [Act.put, Qa, Qb, Qc, Qd, Qe, Qf]
      refine Qt 7 (fun _ => ?_)
      refine Qt 8 (fun _ => ?_)
      refine Qt 9 (fun _ => ?_)
      refine Qt 10 (fun _ => ?_)
      refine Qt 11 (fun _ => ?_)
      refine Qt 12 (fun _ => ?_)
      refine Qt 13 (fun _ => ?_)
      refine Qt 14 (fun _ => ?_)
      refine Qt 15 (fun _ => ?_)
      refine Qt 16 (fun _ => ?_)
      refine Qt 17 (fun _ => ?_)
      refine Qt 18 (fun _ => ?_)
      refine wpAnyH_take (i := 19) (v := undef) rfl (by kernel_rfl) (by kernel_rfl) (by kernel_rfl) (fun _ _ _ h => h) (Or.inr ⟨by rfl, rfl⟩) (by assumption) ?_
      try simp only [Act.put, Qa, Qb, Qc, Qd, Qe, Qf]
      refine wpAnyH_take (i := 20) (v := undef) rfl (by kernel_rfl) (by kernel_rfl) (by kernel_rfl) (fun _ _ _ h => h) (Or.inr ⟨by rfl, rfl⟩) (by assumption) ?_
      try simp only [Act.put, Qa, Qb, Qc, Qd, Qe, Qf]
      refine Qt 21 (fun _ => ?_)
      refine Qt 22 (fun _ => ?_)
      refine Qt 23 (fun _ => ?_)
      refine Qt 24 (fun _ => ?_)
      refine Qt 25 (fun _ => ?_)
      refine Qt 26 (fun _ => ?_)
      refine Qt 28 (fun _ => ?_)
      refine Qr 27 fun K hK => ?_
      go_simp
      go_at_call 8
      refine (HLX.out _ (HS10.out.below HBw13.out) (HSV.out _ HBw13.out)).mono ?_
      rintro e w14 ⟨rfl, hb⟩
      have HBw14 := Lib.hid (HBw13.out.trans (hb.mono HBw13.out.size))
      try go_wp2_with fail
      refine hK.out _ _ ?_ (fun hHeld => ?_)
      · ((try dsimp only); exact ⟨Kc HBw14.out LA a0, Kc HBw14.out LA a1, Kc HBw14.out LA a2, Kc HBw14.out LA a3, Kc HBw14.out LA a4, Kc HBw14.out LB b0, Kc HBw14.out LB b1, Kc HBw14.out LB b2, Kc HBw14.out LB b3, Kc HBw14.out LB b4, Kc HBw14.out LD d0, Kc HBw14.out LD d1, Kc HBw14.out LD d2, Kc HBw14.out LD d3, Kc HBw14.out LD d4⟩)
      clear hK K
      try simp only [Act.put, Qa, Qb, Qc, Qd, Qe, Qf]
      refine Qt 29 (fun _ => ?_)
      refine Qt 30 (fun _ => ?_)
      refine Qt 31 (fun _ => ?_)
      refine Qt 32 (fun _ => ?_)
      refine Qt 33 (fun _ => ?_)
      refine Qt 34 (fun _ => ?_)
      refine Qr 35 fun K hK => ?_
      go_simp
      go_at_call 12
      refine (HRL.out _ HBw14.out).mono ?_
      rintro e w15 ⟨rfl, hb⟩
      have HBw15 := Lib.hid (HBw14.out.trans (hb.mono HBw14.out.size))
      try go_wp2_with fail
      refine hK.out _ _ ?_ (fun hHeld => ?_)
      · ((try dsimp only); exact ⟨Kc HBw15.out LA a0, Kc HBw15.out LA a1, Kc HBw15.out LA a2, Kc HBw15.out LA a3, Kc HBw15.out LA a4, Kc HBw15.out LB b0, Kc HBw15.out LB b1, Kc HBw15.out LB b2, Kc HBw15.out LB b3, Kc HBw15.out LB b4, Kc HBw15.out LD d0, Kc HBw15.out LD d1, Kc HBw15.out LD d2, Kc HBw15.out LD d3, Kc HBw15.out LD d4⟩)
      clear hK K
      try simp only [Act.put, Qa, Qb, Qc, Qd, Qe, Qf]
      refine Qt 36 (fun _ => ?_)
      refine Qt 37 (fun _ => ?_)
      refine Qt 38 (fun _ => ?_)
      refine Qt 39 (fun _ => ?_)
      refine Qt 40 (fun _ => ?_)
      refine Qt 41 (fun _ => ?_)
      refine Qt 42 (fun _ => ?_)
      refine Qt 43 (fun _ => ?_)
      refine Qt 44 (fun _ => ?_)
      refine wpAnyH_done (by kernel_rfl) ?_ _
      go_wp2_with fail
      go_ret
      exact ⟨rfl, HB10.out.trans (HBw15.out.mono HB10.out.size)⟩
    · obtain ⟨q0, hle⟩ := HQ2.out hW
      have HLE := Lib.hid hle
      clear hle
      have eE : ((bs ll).toList == []) = false := by rw [Lib.toList_data, bs_data, beq_eq_false_iff_ne]; exact hW
      subst q0
      clear hW HQ1 HQ2
      refine wp_region_held_drew (S := fun w' => w'.cell? ⟨x, 0, none⟩ = some (.int .i64 xk) ∧ w'.cell? ⟨x, 1, none⟩ = some (.int .i64 xh) ∧ w'.cell? ⟨x, 2, none⟩ = some (.int .i64 xp) ∧ w'.cell? ⟨x, 3, none⟩ = some (.int .u64 xt) ∧ w'.cell? ⟨x, 4, none⟩ = some (.slice va xl.length vk) ∧ w'.cell? ⟨y, 0, none⟩ = some (.int .i64 xk) ∧ w'.cell? ⟨y, 1, none⟩ = some (.int .i64 xh) ∧ w'.cell? ⟨y, 2, none⟩ = some (.int .i64 xp) ∧ w'.cell? ⟨y, 3, none⟩ = some (.int .u64 xt) ∧ w'.cell? ⟨y, 4, none⟩ = some (.slice ya xl.length yk) ∧ w'.cell? ⟨z, 0, none⟩ = some (.int .i64 k) ∧ w'.cell? ⟨z, 1, none⟩ = some (.int .i64 h) ∧ w'.cell? ⟨z, 2, none⟩ = some (.int .i64 p) ∧ w'.cell? ⟨z, 3, none⟩ = some (.int .u64 t) ∧ w'.cell? ⟨z, 4, none⟩ = some (.slice al L.length cl)) (by kernel_rfl) ?_ (fun hHeld => ?_)
      · ((try dsimp only); exact ⟨a0, a1, a2, a3, a4, b0, b1, b2, b3, b4, d0, d1, d2, d3, d4⟩)
      have HB0 := Lib.hid (show Below w10.heap.size w10 w10.drew from below_drewN (Below.refl _ _) 1)
      refine Qr 0 fun K hK => ?_
      go_simp
      go_at_call 5
      refine (scTold_any (HSV.out _ HB0.out)).mono ?_
      rintro e w11 ⟨rfl, hb⟩
      have HBw11 := Lib.hid (HB0.out.trans (hb.mono HB0.out.size))
      try go_wp2_with fail
      refine hK.out _ _ ?_ (fun hHeld => ?_)
      · ((try dsimp only); exact ⟨Kc HBw11.out LA a0, Kc HBw11.out LA a1, Kc HBw11.out LA a2, Kc HBw11.out LA a3, Kc HBw11.out LA a4, Kc HBw11.out LB b0, Kc HBw11.out LB b1, Kc HBw11.out LB b2, Kc HBw11.out LB b3, Kc HBw11.out LB b4, Kc HBw11.out LD d0, Kc HBw11.out LD d1, Kc HBw11.out LD d2, Kc HBw11.out LD d3, Kc HBw11.out LD d4⟩)
      clear hK K
      try simp only [Act.put, Qa, Qb, Qc, Qd, Qe, Qf]
      refine Qt 1 (fun _ => ?_)
      refine Qt 2 (fun _ => ?_)
      refine Qt 3 (fun _ => ?_)
      refine Qt 5 (fun _ => ?_)
      refine Qr 4 fun K hK => ?_
      go_simp
      go_at_call 11
      refine (cmdFrom_any xk xh xp xt HXL.out (HS10.out.below HBw11.out)).mono ?_
      rintro e w12 ⟨fa, fc, rfl, hsf, hb⟩
      have HBw12 := Lib.hid (HBw11.out.trans (hb.mono HBw11.out.size))
      try go_wp2_with fail
      refine hK.out _ _ ?_ (fun hHeld => ?_)
      · ((try dsimp only); exact ⟨Kc HBw12.out LA a0, Kc HBw12.out LA a1, Kc HBw12.out LA a2, Kc HBw12.out LA a3, Kc HBw12.out LA a4, Kc HBw12.out LB b0, Kc HBw12.out LB b1, Kc HBw12.out LB b2, Kc HBw12.out LB b3, Kc HBw12.out LB b4, Kc HBw12.out LD d0, Kc HBw12.out LD d1, Kc HBw12.out LD d2, Kc HBw12.out LD d3, Kc HBw12.out LD d4⟩)
      clear hK K
      try simp only [Act.put, Qa, Qb, Qc, Qd, Qe, Qf]
      have HF12 := Lib.hid hsf.rd
      clear hsf
      refine Qr 6 fun K hK => ?_
      go_simp
      go_at_call 10
      refine (cmdSame_self ⟨xk, xh, xp, xt, xl⟩ HF12.out (HR10.out.below HBw12.out)).mono ?_
      rintro e w13 ⟨rfl, hb⟩
      have HBw13 := Lib.hid (HBw12.out.trans (hb.mono HBw12.out.size))
      try go_wp2_with fail
      refine hK.out _ _ ?_ (fun hHeld => ?_)
      · ((try dsimp only); exact ⟨Kc HBw13.out LA a0, Kc HBw13.out LA a1, Kc HBw13.out LA a2, Kc HBw13.out LA a3, Kc HBw13.out LA a4, Kc HBw13.out LB b0, Kc HBw13.out LB b1, Kc HBw13.out LB b2, Kc HBw13.out LB b3, Kc HBw13.out LB b4, Kc HBw13.out LD d0, Kc HBw13.out LD d1, Kc HBw13.out LD d2, Kc HBw13.out LD d3, Kc HBw13.out LD d4⟩)
      clear hK K
      try simp only [Act.put, Qa, Qb, Qc, Qd, Qe, Qf]
      refine Qt 7 (fun _ => ?_)
      refine Qt 8 (fun _ => ?_)
      refine Qt 9 (fun _ => ?_)
      refine Qt 10 (fun _ => ?_)
      refine Qt 11 (fun _ => ?_)
      refine Qt 12 (fun _ => ?_)
      refine Qt 13 (fun _ => ?_)
      refine Qt 14 (fun _ => ?_)
      refine Qt 15 (fun _ => ?_)
      refine Qt 16 (fun _ => ?_)
      refine Qt 17 (fun _ => ?_)
      refine Qt 18 (fun _ => ?_)
      refine wpAnyH_take (i := 19) (v := undef) rfl (by kernel_rfl) (by kernel_rfl) (by kernel_rfl) (fun _ _ _ h => h) (Or.inr ⟨by rfl, rfl⟩) (by assumption) ?_
      try simp only [Act.put, Qa, Qb, Qc, Qd, Qe, Qf]
      refine wpAnyH_take (i := 20) (v := undef) rfl (by kernel_rfl) (by kernel_rfl) (by kernel_rfl) (fun _ _ _ h => h) (Or.inr ⟨by rfl, rfl⟩) (by assumption) ?_
      try simp only [Act.put, Qa, Qb, Qc, Qd, Qe, Qf]
      refine Qt 21 (fun _ => ?_)
      refine Qt 22 (fun _ => ?_)
      refine Qt 23 (fun _ => ?_)
      refine Qt 24 (fun _ => ?_)
      refine Qt 25 (fun _ => ?_)
      refine Qt 26 (fun _ => ?_)
      refine Qt 28 (fun _ => ?_)
      refine Qr 27 fun K hK => ?_
      go_simp
      go_at_call 8
      refine (HLX.out _ (HS10.out.below HBw13.out) (HSV.out _ HBw13.out)).mono ?_
      rintro e w14 ⟨rfl, hb⟩
      have HBw14 := Lib.hid (HBw13.out.trans (hb.mono HBw13.out.size))
      try go_wp2_with fail
      refine hK.out _ _ ?_ (fun hHeld => ?_)
      · ((try dsimp only); exact ⟨Kc HBw14.out LA a0, Kc HBw14.out LA a1, Kc HBw14.out LA a2, Kc HBw14.out LA a3, Kc HBw14.out LA a4, Kc HBw14.out LB b0, Kc HBw14.out LB b1, Kc HBw14.out LB b2, Kc HBw14.out LB b3, Kc HBw14.out LB b4, Kc HBw14.out LD d0, Kc HBw14.out LD d1, Kc HBw14.out LD d2, Kc HBw14.out LD d3, Kc HBw14.out LD d4⟩)
      clear hK K
      try simp only [Act.put, Qa, Qb, Qc, Qd, Qe, Qf]
      refine Qt 29 (fun _ => ?_)
      refine Qt 30 (fun _ => ?_)
      refine Qt 31 (fun _ => ?_)
      refine Qt 32 (fun _ => ?_)
      refine Qt 33 (fun _ => ?_)
      refine Qt 34 (fun _ => ?_)
      refine Qr 35 fun K hK => ?_
      go_simp
      go_at_call 12
      refine (HRL.out _ HBw14.out).mono ?_
      rintro e w15 ⟨rfl, hb⟩
      have HBw15 := Lib.hid (HBw14.out.trans (hb.mono HBw14.out.size))
      try go_wp2_with fail
      refine hK.out _ _ ?_ (fun hHeld => ?_)
      · ((try dsimp only); exact ⟨Kc HBw15.out LA a0, Kc HBw15.out LA a1, Kc HBw15.out LA a2, Kc HBw15.out LA a3, Kc HBw15.out LA a4, Kc HBw15.out LB b0, Kc HBw15.out LB b1, Kc HBw15.out LB b2, Kc HBw15.out LB b3, Kc HBw15.out LB b4, Kc HBw15.out LD d0, Kc HBw15.out LD d1, Kc HBw15.out LD d2, Kc HBw15.out LD d3, Kc HBw15.out LD d4⟩)
      clear hK K
      try simp only [Act.put, Qa, Qb, Qc, Qd, Qe, Qf]
      refine Qt 36 (fun _ => ?_)
      refine Qt 37 (fun _ => ?_)
      refine Qt 38 (fun _ => ?_)
      refine Qt 39 (fun _ => ?_)
      refine Qt 40 (fun _ => ?_)
      refine Qt 41 (fun _ => ?_)
      refine Qt 42 (fun _ => ?_)
      refine Qt 43 (fun _ => ?_)
      refine Qt 44 (fun _ => ?_)
      refine wpAnyH_done (by kernel_rfl) ?_ _
      have HB16 := Lib.hid (HB10.out.trans (HBw15.out.mono HB10.out.size))
      obtain ⟨e0, e1, e2, e3, e4⟩ := cells5 (load5 HQ10.out HBw15.out (Array.getElem?_eq_some_iff.1 HQ10.out).1)
      have HLZ := Lib.hid (scLine_any (k := zk) (h := zh) (p := zp) (HW10.out.below HBw15.out) HZL.out HQU.out (HSV.out _ HBw15.out))
      rw [HLE.out] at HLZ
      go_wp2_with fail
      go_at_call 8
      refine HLZ.out.mono ?_
      rintro e w17 ⟨rfl, hb⟩
      have HB17 := Lib.hid (HB16.out.trans (hb.mono HB16.out.size))
      clear hb
      go_wp2_with fail
      go_ret
      exact ⟨rfl, HB17.out⟩
end Go.Proofs.YtdbaacalfbbdiaaGreatDoor.Sc
