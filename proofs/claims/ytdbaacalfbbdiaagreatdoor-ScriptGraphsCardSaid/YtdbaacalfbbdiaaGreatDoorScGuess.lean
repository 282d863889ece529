/-
  PACKAGE script: guessCmd: what is made of any text. (gen/scguess.py)
-/
import Derived.Test.YtdbaacalfbbdiaaGreatDoorScApp
import Derived.Deep.DeepCutAuto
namespace Go.Proofs.YtdbaacalfbbdiaaGreatDoor.Sc
open Go.RowKit
set_option linter.unusedVariables false
set_option linter.unusedSimpArgs false
def GcP (w : World) (g : Cm) (e : Ending) (w' : World) : Prop := ∃ v, e = .returned (.agg #[.int .i64 g.k, .int .i64 g.h, .int .i64 g.p, .int .u64 g.t, v]) ∧ Batch.Sl w' v g.l ∧ (∀ g n k, v = .slice (some g) n k → w.heap.size ≤ g.block) ∧ Below w.heap.size w w'
def gPK (k : Int) (x2 y1 y2 : Bs) : Cm :=
  if k = 0 ∨ k = 2 then ⟨k, atoiV x2, 0, 0, []⟩
  else if k = 1 then ⟨k, atoiV y1, 0, timeV y2, []⟩
  else if k = 3 then ⟨k, 0, 0, 0, (Lib.splitK [44] 0 (min 17 (x2.length + 1) - 1) x2).map (chPV atoiV)⟩
  else if k = 5 ∨ k = 6 then ⟨k, 0, atoiV y1, timeV y2, []⟩
  else ⟨k, 0, 0, 0, []⟩
theorem guessP_eq (s : Bs) : guessP s = gPK (kindOf (Lib.cut s [32]).1) (Lib.cut s [32]).2.1 (Lib.cut (Lib.cut s [32]).2.1 [32]).1 (Lib.cut (Lib.cut s [32]).2.1 [32]).2.1 := rfl
theorem infoCh2 : (Tryz.prog.info? 68).map (fun i => (i.zero, i.size, i.bytes)) = some (some (.agg #[.int .i64 0, .int .u64 0, .int .i64 0]), 3, 24) := by kernel_rfl
theorem ownSet5 {w : World} {base : Nat} {T : TypeId} {v : Value} {l : List Batch.Ch} {b : Nat} (h : Batch.Own w base T v l) (hb : b < base) (u0 u1 u2 u3 u4 : Value) : Batch.Own (((((w.setCell ⟨b, 0, none⟩ u0).setCell ⟨b, 1, none⟩ u1).setCell ⟨b, 2, none⟩ u2).setCell ⟨b, 3, none⟩ u3).setCell ⟨b, 4, none⟩ u4) base T v l := by
  have hb' : ¬ (v.ownBlock = some b) := fun e => by have := (World.ownsRow.lt h _ e).1; omega
  exact ownsRow_setCell_other (ownsRow_setCell_other (ownsRow_setCell_other (ownsRow_setCell_other (ownsRow_setCell_other h (fun e => hb' e) _) (fun e => hb' e) _) (fun e => hb' e) _) (fun e => hb' e) _) (fun e => hb' e) _
theorem chPV_wf (q : Bs) : (chPV atoiV q).Wf := by
  unfold chPV
  have a := atoiV_bd (Lib.cut q [47]).1
  have b := atoiV_bd (Lib.cut (Lib.cut q [47]).2.1 [47]).2.1
  have c := timeV_U (Lib.cut (Lib.cut q [47]).2.1 [47]).1
  exact ⟨a.1, a.2, c.1, c.2, b.1, b.2⟩
set_option maxRecDepth 1000000 in
set_option maxHeartbeats 16000000 in
theorem guessCmd_any (s : Bs) (hs : s.length ≤ 10000) {w : World} (hL : SV w) :
    Calls Tryz.prog 24 #[.string (bs s)] w (GcP w (guessP s)) := by
  have HL := Lib.hid hL
  have l1 := cut_len s 32
  have l2 := cut_len (Lib.cut s [32]).2.1 32
  have H1 := Lib.hid (fun w' (hb : Below w.heap.size w w') => cutS_any s 32 (by omega) (hL.below hb))
  have H2 := Lib.hid (fun w' (hb : Below w.heap.size w w') => cutS_any (Lib.cut s [32]).2.1 32 (by omega) (hL.below hb))
  have HG0 := Lib.hid (guessP_eq s)
  have HLN := Lib.hid (show (Lib.cut s [32]).2.1.length ≤ 10000 ∧ (Lib.cut (Lib.cut s [32]).2.1 [32]).1.length ≤ 10000 ∧ (Lib.cut (Lib.cut s [32]).2.1 [32]).2.1.length ≤ 10000 by omega)
  generalize (Lib.cut s [32]).1 = x1 at *
  generalize (Lib.cut s [32]).2.1 = x2 at *
  generalize (Lib.cut x2 [32]).1 = y1 at *
  generalize (Lib.cut x2 [32]).2.1 = y2 at *
  generalize guessP s = G at *
  have HK := Lib.hid (fun w' (hb : Below w.heap.size w w') => kind_any x1 (hL.below hb))
  generalize kindOf x1 = k at *
  clear l1 l2 hL
  obtain ⟨w1, hw1⟩ : ∃ w1, w1 = w.alloc (.cells #[.int .i64 0, .int .i64 0, .int .i64 0, .int .u64 0, .slice none 0 0] 29) := ⟨_, rfl⟩
  have HZ1 := Lib.hid (show w1.heap[w.heap.size]? = some (.cells #[.int .i64 0, .int .i64 0, .int .i64 0, .int .u64 0, .slice none 0 0] 29 (0, 0)) by rw [hw1]; exact heap_alloc_new w _)
  have HB1 := Lib.hid (show Below w.heap.size w w1 by rw [hw1]; exact (Below.refl _ _).alloc (Nat.le_refl _) _)
  obtain ⟨z, hz⟩ : ∃ z, z = w.heap.size := ⟨_, rfl⟩
  rw [← hz] at HZ1
  have HZZ := Lib.hid hz
  go_enter Tryz.func24, Tryz.ntmps24
  go_upto_region 1 with fail
  rw [← hw1, ← hz]
  clear hw1 hz
  go_wp2_with fail
  go_at_call 54
  refine (H1.out _ HB1.out).mono ?_
  rintro e w2 ⟨⟨b1, rfl⟩, hb⟩
  have HB12 := Lib.hid hb
  have HB2 := Lib.hid (HB1.out.trans (hb.mono HB1.out.size))
  clear hb
  go_wp2_with fail
  go_at_call 54
  refine (H2.out _ HB2.out).mono ?_
  rintro e w3 ⟨⟨b2, rfl⟩, hb⟩
  have HB13 := Lib.hid (HB12.out.trans (hb.mono HB12.out.size))
  have HB3 := Lib.hid (HB2.out.trans (hb.mono HB2.out.size))
  clear hb
  go_wp2_with fail
  go_at_call 55
  refine (HK.out _ HB3.out).mono ?_
  rintro e w4 ⟨rfl, hb⟩
  have HB14 := Lib.hid (HB13.out.trans (hb.mono HB13.out.size))
  have HB4 := Lib.hid (HB3.out.trans (hb.mono HB3.out.size))
  clear hb
  go_upto_region 4 with fail
  obtain ⟨w5, hw5⟩ : ∃ w5, w5 = w4.alloc (.cells #[.int .i64 k, .int .i64 0, .int .i64 0, .int .u64 0, .slice none 0 0] 29) := ⟨_, rfl⟩
  have hc5 : w5.heap[w4.heap.size]? = some (.cells #[.int .i64 k, .int .i64 0, .int .i64 0, .int .u64 0, .slice none 0 0] 29 (0, 0)) := by rw [hw5]; exact heap_alloc_new w4 _
  have hb45 : Below w4.heap.size w4 w5 := by rw [hw5]; exact (Below.refl _ _).alloc (Nat.le_refl _) _
  rw [← hw5]
  have hb15 := HB14.out.trans (hb45.mono HB14.out.size)
  have HB5 := Lib.hid (HB4.out.trans (hb45.mono HB4.out.size))
  have HZ5 := Lib.hid ((hb15.block z (Array.getElem?_eq_some_iff.1 HZ1.out).1).trans HZ1.out)
  obtain ⟨cb, hcb⟩ : ∃ c, c = w4.heap.size := ⟨_, rfl⟩
  rw [← hcb] at hc5 ⊢
  have HC5 := Lib.hid hc5
  have HZC := Lib.hid (show z < cb ∧ w.heap.size ≤ z ∧ w.heap.size ≤ cb by
    have h1 := (Array.getElem?_eq_some_iff.1 HZ1.out).1
    have h2 := HB14.out.size
    have h3 := HZZ.out
    omega)
  clear hw5 hb45 hb15 hcb hc5
  by_cases h0 : k = 0 ∨ k = 2
  · have HR := Lib.hid (show G = ⟨k, atoiV x2, 0, 0, []⟩ by rw [HG0.out]; exact if_pos h0)
    have HKK := Lib.hid h0
    clear h0
    obtain ⟨c0, c1, c2, c3, c4⟩ := cells5 HC5.out
    rcases HKK.out with rfl | rfl
    · clear HKK
      go_wp2_with fail
      go_at_call 56
      refine (number_any x2 (by have := HLN.out; omega) (HL.out.below HB5.out)).mono ?_
      rintro e w6 ⟨rfl, hb⟩
      have HB6 := Lib.hid (HB5.out.trans (hb.mono HB5.out.size))
      have HZ6 := Lib.hid ((hb.block z (Array.getElem?_eq_some_iff.1 HZ5.out).1).trans HZ5.out)
      have HC6 := Lib.hid ((hb.block cb (Array.getElem?_eq_some_iff.1 HC5.out).1).trans HC5.out)
      clear hb
      clear c0 c1 c2 c3 c4
      have cf1 := free_of HC6.out 1
      obtain ⟨e0, e1, e2, e3, e4⟩ := cells5 HC6.out
      go_upto_region 20 with fail
      clear cf1 e0 e1 e2 e3 e4
      obtain ⟨W, hW⟩ : ∃ W, W = (w6.setCell ⟨cb, 1, none⟩ (.int .i64 (atoiV x2))) := ⟨_, rfl⟩
      rw [← hW]
      have HCW := Lib.hid (show W.heap[cb]? = _ from hW ▸ (heap_setCell_same _ cb 1 _ _ (.int .i64 (atoiV x2)) HC6.out))
      have HZW := Lib.hid (show W.heap[z]? = _ from hW ▸ ((heap_setCell_other _ _ _ _ (show z ≠ cb by have := HZC.out; omega)).trans HZ6.out))
      have HBW := Lib.hid (show Below w.heap.size w W from hW ▸ ((HB6.out).setCell (p := ⟨cb, 1, none⟩) HZC.out.2.2 _))
      clear hW
      obtain ⟨d0, d1, d2, d3, d4⟩ := cells5 HCW.out
      obtain ⟨z0, z1, z2, z3, z4⟩ := cells5 HZW.out
      have zf0 := free_of HZW.out 0
      have zf1 := free_of HZW.out 1
      have zf2 := free_of HZW.out 2
      have zf3 := free_of HZW.out 3
      have zf4 := free_of HZW.out 4
      have HR5 := Lib.hid (cells5 (heap_setCell_same _ z 4 _ _ (.slice none 0 0) (heap_setCell_same _ z 3 _ _ (.int .u64 0) (heap_setCell_same _ z 2 _ _ (.int .i64 0) (heap_setCell_same _ z 1 _ _ (.int .i64 (atoiV x2)) (heap_setCell_same _ z 0 _ _ (.int .i64 0) HZW.out))))))
      go_wp2_with fail
      obtain ⟨r0, r1, r2, r3, r4⟩ := HR5.out
      have e := HR.out
      subst e
      exact bodyPost_ret (v := .agg #[.int .i64 0, .int .i64 (atoiV x2), .int .i64 0, .int .u64 0, .slice none 0 0]) (by simp [results, Tryz.results24, go_sem, r0, r1, r2, r3, r4]) rfl ⟨_, rfl, Batch.Sl.nil _, fun g n k e => by simp at e, (((((HBW.out).setCell (p := ⟨z, 0, none⟩) HZC.out.2.1 _).setCell (p := ⟨z, 1, none⟩) HZC.out.2.1 _).setCell (p := ⟨z, 2, none⟩) HZC.out.2.1 _).setCell (p := ⟨z, 3, none⟩) HZC.out.2.1 _).setCell (p := ⟨z, 4, none⟩) HZC.out.2.1 _⟩
    · clear HKK
      go_wp2_with fail
      go_at_call 56
      refine (number_any x2 (by have := HLN.out; omega) (HL.out.below HB5.out)).mono ?_
      rintro e w6 ⟨rfl, hb⟩
      have HB6 := Lib.hid (HB5.out.trans (hb.mono HB5.out.size))
      have HZ6 := Lib.hid ((hb.block z (Array.getElem?_eq_some_iff.1 HZ5.out).1).trans HZ5.out)
      have HC6 := Lib.hid ((hb.block cb (Array.getElem?_eq_some_iff.1 HC5.out).1).trans HC5.out)
      clear hb
      clear c0 c1 c2 c3 c4
      have cf1 := free_of HC6.out 1
      obtain ⟨e0, e1, e2, e3, e4⟩ := cells5 HC6.out
      go_upto_region 20 with fail
      clear cf1 e0 e1 e2 e3 e4
      obtain ⟨W, hW⟩ : ∃ W, W = (w6.setCell ⟨cb, 1, none⟩ (.int .i64 (atoiV x2))) := ⟨_, rfl⟩
      rw [← hW]
      have HCW := Lib.hid (show W.heap[cb]? = _ from hW ▸ (heap_setCell_same _ cb 1 _ _ (.int .i64 (atoiV x2)) HC6.out))
      have HZW := Lib.hid (show W.heap[z]? = _ from hW ▸ ((heap_setCell_other _ _ _ _ (show z ≠ cb by have := HZC.out; omega)).trans HZ6.out))
      have HBW := Lib.hid (show Below w.heap.size w W from hW ▸ ((HB6.out).setCell (p := ⟨cb, 1, none⟩) HZC.out.2.2 _))
      clear hW
      obtain ⟨d0, d1, d2, d3, d4⟩ := cells5 HCW.out
      obtain ⟨z0, z1, z2, z3, z4⟩ := cells5 HZW.out
      have zf0 := free_of HZW.out 0
      have zf1 := free_of HZW.out 1
      have zf2 := free_of HZW.out 2
      have zf3 := free_of HZW.out 3
      have zf4 := free_of HZW.out 4
      have HR5 := Lib.hid (cells5 (heap_setCell_same _ z 4 _ _ (.slice none 0 0) (heap_setCell_same _ z 3 _ _ (.int .u64 0) (heap_setCell_same _ z 2 _ _ (.int .i64 0) (heap_setCell_same _ z 1 _ _ (.int .i64 (atoiV x2)) (heap_setCell_same _ z 0 _ _ (.int .i64 2) HZW.out))))))
      go_wp2_with fail
      obtain ⟨r0, r1, r2, r3, r4⟩ := HR5.out
      have e := HR.out
      subst e
      exact bodyPost_ret (v := .agg #[.int .i64 2, .int .i64 (atoiV x2), .int .i64 0, .int .u64 0, .slice none 0 0]) (by simp [results, Tryz.results24, go_sem, r0, r1, r2, r3, r4]) rfl ⟨_, rfl, Batch.Sl.nil _, fun g n k e => by simp at e, (((((HBW.out).setCell (p := ⟨z, 0, none⟩) HZC.out.2.1 _).setCell (p := ⟨z, 1, none⟩) HZC.out.2.1 _).setCell (p := ⟨z, 2, none⟩) HZC.out.2.1 _).setCell (p := ⟨z, 3, none⟩) HZC.out.2.1 _).setCell (p := ⟨z, 4, none⟩) HZC.out.2.1 _⟩
  by_cases h1 : k = 1
  · have HR := Lib.hid (show G = ⟨k, atoiV y1, 0, timeV y2, []⟩ by rw [HG0.out]; unfold gPK; rw [if_neg h0, if_pos h1])
    have HKK := Lib.hid h1
    clear h0 h1
    obtain ⟨c0, c1, c2, c3, c4⟩ := cells5 HC5.out
    obtain rfl := HKK.out
    clear HKK
    go_wp2_with fail
    go_at_call 56
    refine (number_any y1 (by have := HLN.out; omega) (HL.out.below HB5.out)).mono ?_
    rintro e w6 ⟨rfl, hb⟩
    have HB6 := Lib.hid (HB5.out.trans (hb.mono HB5.out.size))
    have HZ6 := Lib.hid ((hb.block z (Array.getElem?_eq_some_iff.1 HZ5.out).1).trans HZ5.out)
    have HC6 := Lib.hid ((hb.block cb (Array.getElem?_eq_some_iff.1 HC5.out).1).trans HC5.out)
    clear hb
    clear c0 c1 c2 c3 c4
    obtain ⟨e0, e1, e2, e3, e4⟩ := cells5 HC6.out
    go_wp2_with fail
    go_at_call 57
    refine (guessTime_any y2 (by have := HLN.out; omega) (HL.out.below HB6.out)).mono ?_
    rintro e w7 ⟨rfl, hb⟩
    have HB7 := Lib.hid (HB6.out.trans (hb.mono HB6.out.size))
    have HZ7 := Lib.hid ((hb.block z (Array.getElem?_eq_some_iff.1 HZ6.out).1).trans HZ6.out)
    have HC7 := Lib.hid ((hb.block cb (Array.getElem?_eq_some_iff.1 HC6.out).1).trans HC6.out)
    clear hb
    clear e0 e1 e2 e3 e4
    have cf1 := free_of HC7.out 1
    have cf3 := free_of HC7.out 3
    obtain ⟨e0, e1, e2, e3, e4⟩ := cells5 HC7.out
    go_upto_region 20 with fail
    clear cf1 cf3 e0 e1 e2 e3 e4
    obtain ⟨W, hW⟩ : ∃ W, W = ((w7.setCell ⟨cb, 1, none⟩ (.int .i64 (atoiV y1))).setCell ⟨cb, 3, none⟩ (.int .u64 (timeV y2))) := ⟨_, rfl⟩
    rw [← hW]
    have HCW := Lib.hid (show W.heap[cb]? = _ from hW ▸ (heap_setCell_same _ cb 3 _ _ (.int .u64 (timeV y2)) (heap_setCell_same _ cb 1 _ _ (.int .i64 (atoiV y1)) HC7.out)))
    have HZW := Lib.hid (show W.heap[z]? = _ from hW ▸ ((heap_setCell_other _ _ _ _ (show z ≠ cb by have := HZC.out; omega)).trans ((heap_setCell_other _ _ _ _ (show z ≠ cb by have := HZC.out; omega)).trans HZ7.out)))
    have HBW := Lib.hid (show Below w.heap.size w W from hW ▸ ((((HB7.out).setCell (p := ⟨cb, 1, none⟩) HZC.out.2.2 _)).setCell (p := ⟨cb, 3, none⟩) HZC.out.2.2 _))
    clear hW
    obtain ⟨d0, d1, d2, d3, d4⟩ := cells5 HCW.out
    obtain ⟨z0, z1, z2, z3, z4⟩ := cells5 HZW.out
    have zf0 := free_of HZW.out 0
    have zf1 := free_of HZW.out 1
    have zf2 := free_of HZW.out 2
    have zf3 := free_of HZW.out 3
    have zf4 := free_of HZW.out 4
    have HR5 := Lib.hid (cells5 (heap_setCell_same _ z 4 _ _ (.slice none 0 0) (heap_setCell_same _ z 3 _ _ (.int .u64 (timeV y2)) (heap_setCell_same _ z 2 _ _ (.int .i64 0) (heap_setCell_same _ z 1 _ _ (.int .i64 (atoiV y1)) (heap_setCell_same _ z 0 _ _ (.int .i64 1) HZW.out))))))
    go_wp2_with fail
    obtain ⟨r0, r1, r2, r3, r4⟩ := HR5.out
    have e := HR.out
    subst e
    exact bodyPost_ret (v := .agg #[.int .i64 1, .int .i64 (atoiV y1), .int .i64 0, .int .u64 (timeV y2), .slice none 0 0]) (by simp [results, Tryz.results24, go_sem, r0, r1, r2, r3, r4]) rfl ⟨_, rfl, Batch.Sl.nil _, fun g n k e => by simp at e, (((((HBW.out).setCell (p := ⟨z, 0, none⟩) HZC.out.2.1 _).setCell (p := ⟨z, 1, none⟩) HZC.out.2.1 _).setCell (p := ⟨z, 2, none⟩) HZC.out.2.1 _).setCell (p := ⟨z, 3, none⟩) HZC.out.2.1 _).setCell (p := ⟨z, 4, none⟩) HZC.out.2.1 _⟩
  by_cases h3 : k = 3
  · have HR := Lib.hid (show G = ⟨k, 0, 0, 0, (Lib.splitK [44] 0 (min 17 (x2.length + 1) - 1) x2).map (chPV atoiV)⟩ by rw [HG0.out]; unfold gPK; rw [if_neg h0, if_neg h1, if_pos h3])
    have HKK := Lib.hid h3
    clear h0 h1 h3
    obtain ⟨c0, c1, c2, c3, c4⟩ := cells5 HC5.out
    obtain rfl := HKK.out
    clear HKK
    have HSP := Lib.hid (fun w' (hb : Below w.heap.size w w') => splitS_any x2 17 (by have := HLN.out; omega) (by omega) (HL.out.below hb))
    go_wp2_with fail
    go_at_call 58
    refine (HSP.out _ HB5.out).mono ?_
    rintro e w6 ⟨vs, rfl, hrs, hgn, hb⟩
    have HSB := Lib.hid (Array.getElem?_eq_some_iff.1 HC5.out).1
    have HB6 := Lib.hid (HB5.out.trans (hb.mono HB5.out.size))
    have HZ6 := Lib.hid ((hb.block z (Array.getElem?_eq_some_iff.1 HZ5.out).1).trans HZ5.out)
    have HC6 := Lib.hid ((hb.block cb (Array.getElem?_eq_some_iff.1 HC5.out).1).trans HC5.out)
    clear hb
    have hXL := splitK_len [44] (min 17 (x2.length + 1) - 1) x2
    have hXC := splitK_count [44] (min 17 (x2.length + 1) - 1) x2
    generalize Lib.splitK [44] 0 (min 17 (x2.length + 1) - 1) x2 = X at *
    obtain ⟨gs, os, ks, rfl, hks, hgs, hcs⟩ := id hrs
    have hnew : gs ≠ cb := fun e => by subst e; have h1 := HSB.out; have h2 : w5.heap.size ≤ gs := hgn _ _ _ rfl; omega
    have hX17 : X.length ≤ 17 := by omega
    have HX := Lib.hid (And.intro hXL hX17)
    have HRS := Lib.hid hrs
    have HLN2 := Lib.hid (show ∀ x ∈ X, x.length ≤ 10000 from fun x hx => by have := hXL x hx; have := HLN.out; omega)
    have HGS := Lib.hid (show gs < w6.heap.size from hgs)
    obtain ⟨N, hN⟩ : ∃ N, N = X.length := ⟨_, rfl⟩
    rw [← hN]
    have HN := Lib.hid hN
    have HXN := Lib.hid (show N ≤ 17 by omega)
    have HNE := Lib.hid (show gs ≠ cb from fun e => hnew e)
    clear hXL hXC hks hgs hcs hX17 hN c0 c1 c2 c3 c4 hrs
    go_wp2_with fail
    obtain ⟨Bq, hBq⟩ : ∃ B, B = w6.heap.size := ⟨_, rfl⟩
    have HBQ := Lib.hid hBq
    clear hBq
    obtain ⟨i0, hi, hy0, hy1, hy2⟩ := Gr.info_parts infoCh2
    go_loopg [51] (N + 1) (fun k t wr => ∃ (i : Nat) (v : Value), i + k = N + 1 ∧ i ≤ N ∧ t = .int .i64 i ∧ Hid (wr.heap[cb]? = some (.cells #[.int .i64 3, .int .i64 0, .int .i64 0, .int .u64 0, v] 29 (0, 0))) ∧ Batch.Own wr Bq 68 v ((X.take i).map (chPV atoiV)) ∧ Ex cb w6 wr ∧ Below w.heap.size w wr)
    case atStart => exact ⟨0, .slice none 0 0, by omega, by omega, rfl, HC6, Batch.Own.nil _ _ _, Ex.refl _ _, HB6.out⟩
    case round =>
      obtain ⟨i, v, hik, hil, rfl, HCI, hown, hex, hbw⟩ := hrel
      have HIK := Lib.hid hik
      have HOW := Lib.hid hown
      have HEX := Lib.hid hex
      have HBR := Lib.hid hbw
      have hi0 : (0 : Int) ≤ (i : Int) := Int.natCast_nonneg _
      clear hik hown hex hbw
      by_cases hlt : i < N
      · have hi1 : (i : Int) < (N : Int) := by omega
        obtain ⟨q, hq⟩ : ∃ q, X[i]? = some q := ⟨_, List.getElem?_eq_getElem (by rw [← HN.out]; exact hlt)⟩
        have HQ := Lib.hid hq
        have HQL := Lib.hid (HLN2.out q (List.mem_of_getElem? hq))
        have hrd := HEX.out.rd HRS.out HNE.out
        obtain ⟨gs2, os2, ks2, e9, _, _, hcs⟩ := hrd
        simp only [Value.slice.injEq, Option.some.injEq, Addr.mk.injEq, and_true] at e9
        obtain ⟨⟨rfl, rfl⟩, _, rfl⟩ := e9
        have cq := hcs i q hq
        clear hq hcs
        obtain ⟨c0, c1, c2, c3, c4⟩ := cells5 HCI.out
        go_wp2_with fail
        go_at_call 59
        refine (three_any q (by have := HQL.out; omega) (HL.out.below HBR.out)).mono ?_
        rintro e w7 ⟨rfl, hb7⟩
        have hl3 := cut_len q 47
        have hl4 := cut_len (Lib.cut q [47]).2.1 47
        have HL3 := Lib.hid (show (Lib.cut q [47]).1.length ≤ 10000 ∧ (Lib.cut (Lib.cut q [47]).2.1 [47]).1.length ≤ 10000 ∧ (Lib.cut (Lib.cut q [47]).2.1 [47]).2.1.length ≤ 10000 by have := HQL.out; omega)
        have HCH := Lib.hid (show chPV atoiV q = ⟨atoiV (Lib.cut q [47]).1, timeV (Lib.cut (Lib.cut q [47]).2.1 [47]).1, atoiV (Lib.cut (Lib.cut q [47]).2.1 [47]).2.1⟩ from rfl)
        clear hl3 hl4 cq
        generalize (Lib.cut q [47]).1 = p1 at *
        generalize (Lib.cut (Lib.cut q [47]).2.1 [47]).1 = p2 at *
        generalize (Lib.cut (Lib.cut q [47]).2.1 [47]).2.1 = p3 at *
        have HB7 := Lib.hid (HBR.out.trans (hb7.mono HBR.out.size))
        have HC7 := Lib.hid ((hb7.block cb (Array.getElem?_eq_some_iff.1 HCI.out).1).trans HCI.out)
        have HE7 := Lib.hid (HEX.out.below hb7)
        have HO7 := Lib.hid (HOW.out.below hb7)
        clear hb7 c0 c1 c2 c3 c4
        obtain ⟨e0, e1, e2, e3, e4⟩ := cells5 HC7.out
        have HCL := Lib.hid (Array.getElem?_eq_some_iff.1 HC7.out).1
        go_upto_region 15 with fail
        refine wp_region_held_drew (S := fun w' => True) (by kernel_rfl) ?_ (fun hHeld => ?_)
        · trivial
        have HB07 := Lib.hid (show Below w7.heap.size w7 w7.drew from below_drewN (Below.refl _ _) 1)
        refine Qt 0 (fun _ => ?_)
        refine Qt 2 (fun _ => ?_)
        refine Qt 4 (fun _ => ?_)
        refine Qt 6 (fun _ => ?_)
        refine wpAnyH_ready (rs := [1, 3]) (by kernel_rfl) (by simp) ?_
        refine AllReadyH.cons rfl (fun K hK => ?_) (AllReadyH.cons rfl (fun K hK => ?_) AllReadyH.nil)
        · go_simp
          have ek := Kc HB07.out HCL.out e4
          try go_simp
          refine hK.out _ _ ?_ (fun hHeld => ?_)
          · trivial
          clear hK K
          try simp only [Act.put, Qa, Qb, Qc, Qd, Qe, Qf]
          clear ek
          refine Qr 3 fun K hK => ?_
          go_simp
          go_at_call 56
          refine (number_any p1 (by have := HL3.out; omega) (HL.out.below (HB7.out.trans (HB07.out.mono HB7.out.size)))).mono ?_
          rintro e w8 ⟨rfl, hb⟩
          have HBw8 := Lib.hid (HB07.out.trans (hb.mono HB07.out.size))
          clear hb
          try go_wp2_with fail
          refine hK.out _ _ ?_ (fun hHeld => ?_)
          · trivial
          clear hK K
          try simp only [Act.put, Qa, Qb, Qc, Qd, Qe, Qf]
          refine Qr 5 fun K hK => ?_
          go_simp
          go_at_call 57
          refine (guessTime_any p2 (by have := HL3.out; omega) (HL.out.below (HB7.out.trans (HBw8.out.mono HB7.out.size)))).mono ?_
          rintro e w9 ⟨rfl, hb⟩
          have HBw9 := Lib.hid (HBw8.out.trans (hb.mono HBw8.out.size))
          clear hb
          try go_wp2_with fail
          refine hK.out _ _ ?_ (fun hHeld => ?_)
          · trivial
          clear hK K
          try simp only [Act.put, Qa, Qb, Qc, Qd, Qe, Qf]
          refine Qr 7 fun K hK => ?_
          go_simp
          go_at_call 56
          refine (number_any p3 (by have := HL3.out; omega) (HL.out.below (HB7.out.trans (HBw9.out.mono HB7.out.size)))).mono ?_
          rintro e wa ⟨rfl, hb⟩
          have HBwa := Lib.hid (HBw9.out.trans (hb.mono HBw9.out.size))
          clear hb
          try go_wp2_with fail
          refine hK.out _ _ ?_ (fun hHeld => ?_)
          · trivial
          clear hK K
          try simp only [Act.put, Qa, Qb, Qc, Qd, Qe, Qf]
          refine Qt 8 (fun _ => ?_)
          refine Qr 9 fun K hK => ?_
          go_simp
          have HBwb := Lib.hid (HBwa.out.alloc HBwa.out.size (.cells #[.int .i64 (atoiV p1), .int .u64 (timeV p2), .int .i64 (atoiV p3)] 68))
          refine hK.out _ _ ?_ (fun hHeld => ?_)
          · trivial
          clear hK K
          try simp only [Act.put, Qa, Qb, Qc, Qd, Qe, Qf]
          have HOb := Lib.hid (HO7.out.below HBwb.out)
          have HBB := Lib.hid (show Bq ≤ w7.heap.size by rw [HBQ.out]; exact HE7.out.1)
          refine Qr 10 fun K hK => ?_
          refine app1 _ (by rfl) _ _ 27 (by rfl) Bq 68 i0 _ 3 24 Tryz.underlying27 hi hy0 hy1 hy2 (by kernel_rfl) (by decide) v ((X.take i).map (chPV atoiV)).length (Batch.cellsL ((X.take i).map (chPV atoiV))) (by rfl) HOb.out wa.heap.size [.int .i64 (atoiV p1), .int .u64 (timeV p2), .int .i64 (atoiV p3)] 68 (by rfl) (heap_alloc_new wa _) rfl (by intro u hu; simp at hu; rcases hu with rfl | rfl | rfl <;> rfl) (by have := HXN.out; unfold maxLen; simp; omega) (by have := HXN.out; simp; omega) (Nat.le_trans HBB.out HBwb.out.size) ?_
          intro v2 w10 hA hbA _
          obtain ⟨va, vn, vk, rfl⟩ : ∃ a n k, v2 = .slice a n k := by rcases hA.2 with ⟨hv, h0⟩ | ⟨g, c, _, hv, _⟩; exact ⟨_, _, _, hv⟩; exact ⟨_, _, _, hv⟩
          have HA := Lib.hid hA
          have HBA := Lib.hid hbA
          clear hA hbA
          have HC10 := Lib.hid ((HBA.out.block cb (show cb < Bq by rw [HBQ.out]; exact (Array.getElem?_eq_some_iff.1 HC6.out).1)).trans ((HBwb.out.block cb HCL.out).trans HC7.out))
          refine hK.out _ _ ?_ (fun hHeld => ?_)
          · trivial
          clear hK K
          try simp only [Act.put, Qa, Qb, Qc, Qd, Qe, Qf]
          refine Qt 11 (fun _ => ?_)
          have cf4 := free_of HC10.out 4
          have e44 := (cells5 HC10.out).2.2.2.2
          refine Qr 12 fun K hK => ?_
          go_simp
          have HC11 := Lib.hid (heap_setCell_same _ cb 4 _ _ (.slice va vn vk) HC10.out)
          refine hK.out _ _ ?_ (fun hHeld => ?_)
          · trivial
          clear hK K
          try simp only [Act.put, Qa, Qb, Qc, Qd, Qe, Qf]
          refine wpAnyH_done (by kernel_rfl) ?_ _
          have HE11 := Lib.hid (((HE7.out.below HBwb.out).base (by rw [HBQ.out]; exact Nat.le_refl _) HBA.out).set 4 (.slice va vn vk))
          have HB11 := Lib.hid ((((HB7.out.trans (HBwb.out.mono HB7.out.size))).trans (HBA.out.mono (by rw [HBQ.out]; exact HB6.out.size))).setCell (p := ⟨cb, 4, none⟩) HZC.out.2.2 (.slice va vn vk))
          have HO11 := Lib.hid (show Batch.Own (w10.setCell ⟨cb, 4, none⟩ (.slice va vn vk)) Bq 68 (.slice va vn vk) ((X.take (i + 1)).map (chPV atoiV)) by
            have e : (X.take (i + 1)).map (chPV atoiV) = (X.take i).map (chPV atoiV) ++ [⟨atoiV p1, timeV p2, atoiV p3⟩] := by rw [List.take_add_one, HQ.out, List.map_append]; simp only [Option.toList, List.map_cons, List.map_nil]; rw [HCH.out]
            unfold Batch.Own
            rw [e, Batch.cellsL_snoc, List.length_append]
            refine ownsRow_setCell_other HA.out (fun e => ?_) _
            have h1 := (HA.out.lt _ e).1
            have h2 : cb < Bq := by rw [HBQ.out]; exact (Array.getElem?_eq_some_iff.1 HC6.out).1
            exact absurd h2 (Nat.not_lt.2 h1))
          clear e0 e1 e2 e3 e4 cf4 e44
          have hN17 := HXN.out
          go_wp2_with fail
          go_roundg (N - i)
          case measure => have := HIK.out; omega
          case rel => exact ⟨i + 1, _, by have := HIK.out; omega, by omega, by go_num, HC11, HO11.out, HE11.out, HB11.out⟩
        · go_simp
          go_at_call 56
          refine (number_any p1 (by have := HL3.out; omega) (HL.out.below (HB7.out.trans (HB07.out.mono HB7.out.size)))).mono ?_
          rintro e w8 ⟨rfl, hb⟩
          have HBw8 := Lib.hid (HB07.out.trans (hb.mono HB07.out.size))
          clear hb
          try go_wp2_with fail
          refine hK.out _ _ ?_ (fun hHeld => ?_)
          · trivial
          clear hK K
          try simp only [Act.put, Qa, Qb, Qc, Qd, Qe, Qf]
          refine wpAnyH_ready (rs := [1, 5]) (by kernel_rfl) (by simp) ?_
          refine AllReadyH.cons rfl (fun K hK => ?_) (AllReadyH.cons rfl (fun K hK => ?_) AllReadyH.nil)
          · go_simp
            have ek := Kc HBw8.out HCL.out e4
            try go_simp
            refine hK.out _ _ ?_ (fun hHeld => ?_)
            · trivial
            clear hK K
            try simp only [Act.put, Qa, Qb, Qc, Qd, Qe, Qf]
            clear ek
            refine Qr 5 fun K hK => ?_
            go_simp
            go_at_call 57
            refine (guessTime_any p2 (by have := HL3.out; omega) (HL.out.below (HB7.out.trans (HBw8.out.mono HB7.out.size)))).mono ?_
            rintro e w9 ⟨rfl, hb⟩
            have HBw9 := Lib.hid (HBw8.out.trans (hb.mono HBw8.out.size))
            clear hb
            try go_wp2_with fail
            refine hK.out _ _ ?_ (fun hHeld => ?_)
            · trivial
            clear hK K
            try simp only [Act.put, Qa, Qb, Qc, Qd, Qe, Qf]
            refine Qr 7 fun K hK => ?_
            go_simp
            go_at_call 56
            refine (number_any p3 (by have := HL3.out; omega) (HL.out.below (HB7.out.trans (HBw9.out.mono HB7.out.size)))).mono ?_
            rintro e wa ⟨rfl, hb⟩
            have HBwa := Lib.hid (HBw9.out.trans (hb.mono HBw9.out.size))
            clear hb
            try go_wp2_with fail
            refine hK.out _ _ ?_ (fun hHeld => ?_)
            · trivial
            clear hK K
            try simp only [Act.put, Qa, Qb, Qc, Qd, Qe, Qf]
            refine Qt 8 (fun _ => ?_)
            refine Qr 9 fun K hK => ?_
            go_simp
            have HBwb := Lib.hid (HBwa.out.alloc HBwa.out.size (.cells #[.int .i64 (atoiV p1), .int .u64 (timeV p2), .int .i64 (atoiV p3)] 68))
            refine hK.out _ _ ?_ (fun hHeld => ?_)
            · trivial
            clear hK K
            try simp only [Act.put, Qa, Qb, Qc, Qd, Qe, Qf]
            have HOb := Lib.hid (HO7.out.below HBwb.out)
            have HBB := Lib.hid (show Bq ≤ w7.heap.size by rw [HBQ.out]; exact HE7.out.1)
            refine Qr 10 fun K hK => ?_
            refine app1 _ (by rfl) _ _ 27 (by rfl) Bq 68 i0 _ 3 24 Tryz.underlying27 hi hy0 hy1 hy2 (by kernel_rfl) (by decide) v ((X.take i).map (chPV atoiV)).length (Batch.cellsL ((X.take i).map (chPV atoiV))) (by rfl) HOb.out wa.heap.size [.int .i64 (atoiV p1), .int .u64 (timeV p2), .int .i64 (atoiV p3)] 68 (by rfl) (heap_alloc_new wa _) rfl (by intro u hu; simp at hu; rcases hu with rfl | rfl | rfl <;> rfl) (by have := HXN.out; unfold maxLen; simp; omega) (by have := HXN.out; simp; omega) (Nat.le_trans HBB.out HBwb.out.size) ?_
            intro v2 w10 hA hbA _
            obtain ⟨va, vn, vk, rfl⟩ : ∃ a n k, v2 = .slice a n k := by rcases hA.2 with ⟨hv, h0⟩ | ⟨g, c, _, hv, _⟩; exact ⟨_, _, _, hv⟩; exact ⟨_, _, _, hv⟩
            have HA := Lib.hid hA
            have HBA := Lib.hid hbA
            clear hA hbA
            have HC10 := Lib.hid ((HBA.out.block cb (show cb < Bq by rw [HBQ.out]; exact (Array.getElem?_eq_some_iff.1 HC6.out).1)).trans ((HBwb.out.block cb HCL.out).trans HC7.out))
            refine hK.out _ _ ?_ (fun hHeld => ?_)
            · trivial
            clear hK K
            try simp only [Act.put, Qa, Qb, Qc, Qd, Qe, Qf]
            refine Qt 11 (fun _ => ?_)
            have cf4 := free_of HC10.out 4
            have e44 := (cells5 HC10.out).2.2.2.2
            refine Qr 12 fun K hK => ?_
            go_simp
            have HC11 := Lib.hid (heap_setCell_same _ cb 4 _ _ (.slice va vn vk) HC10.out)
            refine hK.out _ _ ?_ (fun hHeld => ?_)
            · trivial
            clear hK K
            try simp only [Act.put, Qa, Qb, Qc, Qd, Qe, Qf]
            refine wpAnyH_done (by kernel_rfl) ?_ _
            have HE11 := Lib.hid (((HE7.out.below HBwb.out).base (by rw [HBQ.out]; exact Nat.le_refl _) HBA.out).set 4 (.slice va vn vk))
            have HB11 := Lib.hid ((((HB7.out.trans (HBwb.out.mono HB7.out.size))).trans (HBA.out.mono (by rw [HBQ.out]; exact HB6.out.size))).setCell (p := ⟨cb, 4, none⟩) HZC.out.2.2 (.slice va vn vk))
            have HO11 := Lib.hid (show Batch.Own (w10.setCell ⟨cb, 4, none⟩ (.slice va vn vk)) Bq 68 (.slice va vn vk) ((X.take (i + 1)).map (chPV atoiV)) by
              have e : (X.take (i + 1)).map (chPV atoiV) = (X.take i).map (chPV atoiV) ++ [⟨atoiV p1, timeV p2, atoiV p3⟩] := by rw [List.take_add_one, HQ.out, List.map_append]; simp only [Option.toList, List.map_cons, List.map_nil]; rw [HCH.out]
              unfold Batch.Own
              rw [e, Batch.cellsL_snoc, List.length_append]
              refine ownsRow_setCell_other HA.out (fun e => ?_) _
              have h1 := (HA.out.lt _ e).1
              have h2 : cb < Bq := by rw [HBQ.out]; exact (Array.getElem?_eq_some_iff.1 HC6.out).1
              exact absurd h2 (Nat.not_lt.2 h1))
            clear e0 e1 e2 e3 e4 cf4 e44
            have hN17 := HXN.out
            go_wp2_with fail
            go_roundg (N - i)
            case measure => have := HIK.out; omega
            case rel => exact ⟨i + 1, _, by have := HIK.out; omega, by omega, by go_num, HC11, HO11.out, HE11.out, HB11.out⟩
          · go_simp
            go_at_call 57
            refine (guessTime_any p2 (by have := HL3.out; omega) (HL.out.below (HB7.out.trans (HBw8.out.mono HB7.out.size)))).mono ?_
            rintro e w9 ⟨rfl, hb⟩
            have HBw9 := Lib.hid (HBw8.out.trans (hb.mono HBw8.out.size))
            clear hb
            try go_wp2_with fail
            refine hK.out _ _ ?_ (fun hHeld => ?_)
            · trivial
            clear hK K
            try simp only [Act.put, Qa, Qb, Qc, Qd, Qe, Qf]
            refine wpAnyH_ready (rs := [1, 7]) (by kernel_rfl) (by simp) ?_
            refine AllReadyH.cons rfl (fun K hK => ?_) (AllReadyH.cons rfl (fun K hK => ?_) AllReadyH.nil)
            · go_simp
              have ek := Kc HBw9.out HCL.out e4
              try go_simp
              refine hK.out _ _ ?_ (fun hHeld => ?_)
              · trivial
              clear hK K
              try simp only [Act.put, Qa, Qb, Qc, Qd, Qe, Qf]
              clear ek
              refine Qr 7 fun K hK => ?_
              go_simp
              go_at_call 56
              refine (number_any p3 (by have := HL3.out; omega) (HL.out.below (HB7.out.trans (HBw9.out.mono HB7.out.size)))).mono ?_
              rintro e wa ⟨rfl, hb⟩
              have HBwa := Lib.hid (HBw9.out.trans (hb.mono HBw9.out.size))
              clear hb
              try go_wp2_with fail
              refine hK.out _ _ ?_ (fun hHeld => ?_)
              · trivial
              clear hK K
              try simp only [Act.put, Qa, Qb, Qc, Qd, Qe, Qf]
              refine Qt 8 (fun _ => ?_)
              refine Qr 9 fun K hK => ?_
              go_simp
              have HBwb := Lib.hid (HBwa.out.alloc HBwa.out.size (.cells #[.int .i64 (atoiV p1), .int .u64 (timeV p2), .int .i64 (atoiV p3)] 68))
              refine hK.out _ _ ?_ (fun hHeld => ?_)
              · trivial
              clear hK K
              try simp only [Act.put, Qa, Qb, Qc, Qd, Qe, Qf]
              have HOb := Lib.hid (HO7.out.below HBwb.out)
              have HBB := Lib.hid (show Bq ≤ w7.heap.size by rw [HBQ.out]; exact HE7.out.1)
              refine Qr 10 fun K hK => ?_
              refine app1 _ (by rfl) _ _ 27 (by rfl) Bq 68 i0 _ 3 24 Tryz.underlying27 hi hy0 hy1 hy2 (by kernel_rfl) (by decide) v ((X.take i).map (chPV atoiV)).length (Batch.cellsL ((X.take i).map (chPV atoiV))) (by rfl) HOb.out wa.heap.size [.int .i64 (atoiV p1), .int .u64 (timeV p2), .int .i64 (atoiV p3)] 68 (by rfl) (heap_alloc_new wa _) rfl (by intro u hu; simp at hu; rcases hu with rfl | rfl | rfl <;> rfl) (by have := HXN.out; unfold maxLen; simp; omega) (by have := HXN.out; simp; omega) (Nat.le_trans HBB.out HBwb.out.size) ?_
              intro v2 w10 hA hbA _
              obtain ⟨va, vn, vk, rfl⟩ : ∃ a n k, v2 = .slice a n k := by rcases hA.2 with ⟨hv, h0⟩ | ⟨g, c, _, hv, _⟩; exact ⟨_, _, _, hv⟩; exact ⟨_, _, _, hv⟩
              have HA := Lib.hid hA
              have HBA := Lib.hid hbA
              clear hA hbA
              have HC10 := Lib.hid ((HBA.out.block cb (show cb < Bq by rw [HBQ.out]; exact (Array.getElem?_eq_some_iff.1 HC6.out).1)).trans ((HBwb.out.block cb HCL.out).trans HC7.out))
              refine hK.out _ _ ?_ (fun hHeld => ?_)
              · trivial
              clear hK K
              try simp only [Act.put, Qa, Qb, Qc, Qd, Qe, Qf]
              refine Qt 11 (fun _ => ?_)
              have cf4 := free_of HC10.out 4
              have e44 := (cells5 HC10.out).2.2.2.2
              refine Qr 12 fun K hK => ?_
              go_simp
              have HC11 := Lib.hid (heap_setCell_same _ cb 4 _ _ (.slice va vn vk) HC10.out)
              refine hK.out _ _ ?_ (fun hHeld => ?_)
              · trivial
              clear hK K
              try simp only [Act.put, Qa, Qb, Qc, Qd, Qe, Qf]
              refine wpAnyH_done (by kernel_rfl) ?_ _
              have HE11 := Lib.hid (((HE7.out.below HBwb.out).base (by rw [HBQ.out]; exact Nat.le_refl _) HBA.out).set 4 (.slice va vn vk))
              have HB11 := Lib.hid ((((HB7.out.trans (HBwb.out.mono HB7.out.size))).trans (HBA.out.mono (by rw [HBQ.out]; exact HB6.out.size))).setCell (p := ⟨cb, 4, none⟩) HZC.out.2.2 (.slice va vn vk))
              have HO11 := Lib.hid (show Batch.Own (w10.setCell ⟨cb, 4, none⟩ (.slice va vn vk)) Bq 68 (.slice va vn vk) ((X.take (i + 1)).map (chPV atoiV)) by
                have e : (X.take (i + 1)).map (chPV atoiV) = (X.take i).map (chPV atoiV) ++ [⟨atoiV p1, timeV p2, atoiV p3⟩] := by rw [List.take_add_one, HQ.out, List.map_append]; simp only [Option.toList, List.map_cons, List.map_nil]; rw [HCH.out]
                unfold Batch.Own
                rw [e, Batch.cellsL_snoc, List.length_append]
                refine ownsRow_setCell_other HA.out (fun e => ?_) _
                have h1 := (HA.out.lt _ e).1
                have h2 : cb < Bq := by rw [HBQ.out]; exact (Array.getElem?_eq_some_iff.1 HC6.out).1
                exact absurd h2 (Nat.not_lt.2 h1))
              clear e0 e1 e2 e3 e4 cf4 e44
              have hN17 := HXN.out
              go_wp2_with fail
              go_roundg (N - i)
              case measure => have := HIK.out; omega
              case rel => exact ⟨i + 1, _, by have := HIK.out; omega, by omega, by go_num, HC11, HO11.out, HE11.out, HB11.out⟩
            · go_simp
              go_at_call 56
              refine (number_any p3 (by have := HL3.out; omega) (HL.out.below (HB7.out.trans (HBw9.out.mono HB7.out.size)))).mono ?_
              rintro e wa ⟨rfl, hb⟩
              have HBwa := Lib.hid (HBw9.out.trans (hb.mono HBw9.out.size))
              clear hb
              try go_wp2_with fail
              refine hK.out _ _ ?_ (fun hHeld => ?_)
              · trivial
              clear hK K
              try simp only [Act.put, Qa, Qb, Qc, Qd, Qe, Qf]
              refine Qt 8 (fun _ => ?_)
              refine wpAnyH_ready (rs := [1, 9]) (by kernel_rfl) (by simp) ?_
              refine AllReadyH.cons rfl (fun K hK => ?_) (AllReadyH.cons rfl (fun K hK => ?_) AllReadyH.nil)
              · go_simp
                have ek := Kc HBwa.out HCL.out e4
                try go_simp
                refine hK.out _ _ ?_ (fun hHeld => ?_)
                · trivial
                clear hK K
                try simp only [Act.put, Qa, Qb, Qc, Qd, Qe, Qf]
                clear ek
                refine Qr 9 fun K hK => ?_
                go_simp
                have HBwb := Lib.hid (HBwa.out.alloc HBwa.out.size (.cells #[.int .i64 (atoiV p1), .int .u64 (timeV p2), .int .i64 (atoiV p3)] 68))
                refine hK.out _ _ ?_ (fun hHeld => ?_)
                · trivial
                clear hK K
                try simp only [Act.put, Qa, Qb, Qc, Qd, Qe, Qf]
                have HOb := Lib.hid (HO7.out.below HBwb.out)
                have HBB := Lib.hid (show Bq ≤ w7.heap.size by rw [HBQ.out]; exact HE7.out.1)
                refine Qr 10 fun K hK => ?_
                refine app1 _ (by rfl) _ _ 27 (by rfl) Bq 68 i0 _ 3 24 Tryz.underlying27 hi hy0 hy1 hy2 (by kernel_rfl) (by decide) v ((X.take i).map (chPV atoiV)).length (Batch.cellsL ((X.take i).map (chPV atoiV))) (by rfl) HOb.out wa.heap.size [.int .i64 (atoiV p1), .int .u64 (timeV p2), .int .i64 (atoiV p3)] 68 (by rfl) (heap_alloc_new wa _) rfl (by intro u hu; simp at hu; rcases hu with rfl | rfl | rfl <;> rfl) (by have := HXN.out; unfold maxLen; simp; omega) (by have := HXN.out; simp; omega) (Nat.le_trans HBB.out HBwb.out.size) ?_
                intro v2 w10 hA hbA _
                obtain ⟨va, vn, vk, rfl⟩ : ∃ a n k, v2 = .slice a n k := by rcases hA.2 with ⟨hv, h0⟩ | ⟨g, c, _, hv, _⟩; exact ⟨_, _, _, hv⟩; exact ⟨_, _, _, hv⟩
                have HA := Lib.hid hA
                have HBA := Lib.hid hbA
                clear hA hbA
                have HC10 := Lib.hid ((HBA.out.block cb (show cb < Bq by rw [HBQ.out]; exact (Array.getElem?_eq_some_iff.1 HC6.out).1)).trans ((HBwb.out.block cb HCL.out).trans HC7.out))
                refine hK.out _ _ ?_ (fun hHeld => ?_)
                · trivial
                clear hK K
                try simp only [Act.put, Qa, Qb, Qc, Qd, Qe, Qf]
                refine Qt 11 (fun _ => ?_)
                have cf4 := free_of HC10.out 4
                have e44 := (cells5 HC10.out).2.2.2.2
                refine Qr 12 fun K hK => ?_
                go_simp
                have HC11 := Lib.hid (heap_setCell_same _ cb 4 _ _ (.slice va vn vk) HC10.out)
                refine hK.out _ _ ?_ (fun hHeld => ?_)
                · trivial
                clear hK K
                try simp only [Act.put, Qa, Qb, Qc, Qd, Qe, Qf]
                refine wpAnyH_done (by kernel_rfl) ?_ _
                have HE11 := Lib.hid (((HE7.out.below HBwb.out).base (by rw [HBQ.out]; exact Nat.le_refl _) HBA.out).set 4 (.slice va vn vk))
                have HB11 := Lib.hid ((((HB7.out.trans (HBwb.out.mono HB7.out.size))).trans (HBA.out.mono (by rw [HBQ.out]; exact HB6.out.size))).setCell (p := ⟨cb, 4, none⟩) HZC.out.2.2 (.slice va vn vk))
                have HO11 := Lib.hid (show Batch.Own (w10.setCell ⟨cb, 4, none⟩ (.slice va vn vk)) Bq 68 (.slice va vn vk) ((X.take (i + 1)).map (chPV atoiV)) by
                  have e : (X.take (i + 1)).map (chPV atoiV) = (X.take i).map (chPV atoiV) ++ [⟨atoiV p1, timeV p2, atoiV p3⟩] := by rw [List.take_add_one, HQ.out, List.map_append]; simp only [Option.toList, List.map_cons, List.map_nil]; rw [HCH.out]
                  unfold Batch.Own
                  rw [e, Batch.cellsL_snoc, List.length_append]
                  refine ownsRow_setCell_other HA.out (fun e => ?_) _
                  have h1 := (HA.out.lt _ e).1
                  have h2 : cb < Bq := by rw [HBQ.out]; exact (Array.getElem?_eq_some_iff.1 HC6.out).1
                  exact absurd h2 (Nat.not_lt.2 h1))
                clear e0 e1 e2 e3 e4 cf4 e44
                have hN17 := HXN.out
                go_wp2_with fail
                go_roundg (N - i)
                case measure => have := HIK.out; omega
                case rel => exact ⟨i + 1, _, by have := HIK.out; omega, by omega, by go_num, HC11, HO11.out, HE11.out, HB11.out⟩
              · go_simp
                have HBwb := Lib.hid (HBwa.out.alloc HBwa.out.size (.cells #[.int .i64 (atoiV p1), .int .u64 (timeV p2), .int .i64 (atoiV p3)] 68))
                refine hK.out _ _ ?_ (fun hHeld => ?_)
                · trivial
                clear hK K
                try simp only [Act.put, Qa, Qb, Qc, Qd, Qe, Qf]
                refine Qr 1 fun K hK => ?_
                go_simp
                have ek := Kc HBwb.out HCL.out e4
                try go_simp
                refine hK.out _ _ ?_ (fun hHeld => ?_)
                · trivial
                clear hK K
                try simp only [Act.put, Qa, Qb, Qc, Qd, Qe, Qf]
                clear ek
                have HOb := Lib.hid (HO7.out.below HBwb.out)
                have HBB := Lib.hid (show Bq ≤ w7.heap.size by rw [HBQ.out]; exact HE7.out.1)
                refine Qr 10 fun K hK => ?_
                refine app1 _ (by rfl) _ _ 27 (by rfl) Bq 68 i0 _ 3 24 Tryz.underlying27 hi hy0 hy1 hy2 (by kernel_rfl) (by decide) v ((X.take i).map (chPV atoiV)).length (Batch.cellsL ((X.take i).map (chPV atoiV))) (by rfl) HOb.out wa.heap.size [.int .i64 (atoiV p1), .int .u64 (timeV p2), .int .i64 (atoiV p3)] 68 (by rfl) (heap_alloc_new wa _) rfl (by intro u hu; simp at hu; rcases hu with rfl | rfl | rfl <;> rfl) (by have := HXN.out; unfold maxLen; simp; omega) (by have := HXN.out; simp; omega) (Nat.le_trans HBB.out HBwb.out.size) ?_
                intro v2 w10 hA hbA _
                obtain ⟨va, vn, vk, rfl⟩ : ∃ a n k, v2 = .slice a n k := by rcases hA.2 with ⟨hv, h0⟩ | ⟨g, c, _, hv, _⟩; exact ⟨_, _, _, hv⟩; exact ⟨_, _, _, hv⟩
                have HA := Lib.hid hA
                have HBA := Lib.hid hbA
                clear hA hbA
                have HC10 := Lib.hid ((HBA.out.block cb (show cb < Bq by rw [HBQ.out]; exact (Array.getElem?_eq_some_iff.1 HC6.out).1)).trans ((HBwb.out.block cb HCL.out).trans HC7.out))
                refine hK.out _ _ ?_ (fun hHeld => ?_)
                · trivial
                clear hK K
                try simp only [Act.put, Qa, Qb, Qc, Qd, Qe, Qf]
                refine Qt 11 (fun _ => ?_)
                have cf4 := free_of HC10.out 4
                have e44 := (cells5 HC10.out).2.2.2.2
                refine Qr 12 fun K hK => ?_
                go_simp
                have HC11 := Lib.hid (heap_setCell_same _ cb 4 _ _ (.slice va vn vk) HC10.out)
                refine hK.out _ _ ?_ (fun hHeld => ?_)
                · trivial
                clear hK K
                try simp only [Act.put, Qa, Qb, Qc, Qd, Qe, Qf]
                refine wpAnyH_done (by kernel_rfl) ?_ _
                have HE11 := Lib.hid (((HE7.out.below HBwb.out).base (by rw [HBQ.out]; exact Nat.le_refl _) HBA.out).set 4 (.slice va vn vk))
                have HB11 := Lib.hid ((((HB7.out.trans (HBwb.out.mono HB7.out.size))).trans (HBA.out.mono (by rw [HBQ.out]; exact HB6.out.size))).setCell (p := ⟨cb, 4, none⟩) HZC.out.2.2 (.slice va vn vk))
                have HO11 := Lib.hid (show Batch.Own (w10.setCell ⟨cb, 4, none⟩ (.slice va vn vk)) Bq 68 (.slice va vn vk) ((X.take (i + 1)).map (chPV atoiV)) by
                  have e : (X.take (i + 1)).map (chPV atoiV) = (X.take i).map (chPV atoiV) ++ [⟨atoiV p1, timeV p2, atoiV p3⟩] := by rw [List.take_add_one, HQ.out, List.map_append]; simp only [Option.toList, List.map_cons, List.map_nil]; rw [HCH.out]
                  unfold Batch.Own
                  rw [e, Batch.cellsL_snoc, List.length_append]
                  refine ownsRow_setCell_other HA.out (fun e => ?_) _
                  have h1 := (HA.out.lt _ e).1
                  have h2 : cb < Bq := by rw [HBQ.out]; exact (Array.getElem?_eq_some_iff.1 HC6.out).1
                  exact absurd h2 (Nat.not_lt.2 h1))
                clear e0 e1 e2 e3 e4 cf4 e44
                have hN17 := HXN.out
                go_wp2_with fail
                go_roundg (N - i)
                case measure => have := HIK.out; omega
                case rel => exact ⟨i + 1, _, by have := HIK.out; omega, by omega, by go_num, HC11, HO11.out, HE11.out, HB11.out⟩
      · have hin : i = N := by omega
        subst hin
        have e : (X.take i).map (chPV atoiV) = X.map (chPV atoiV) := by rw [List.take_of_length_le (by rw [← HN.out]; exact Nat.le_refl _)]
        have HO := Lib.hid (e ▸ HOW.out)
        have HZI := Lib.hid ((HEX.out.2 z (Array.getElem?_eq_some_iff.1 HZ6.out).1 (by have := HZC.out; omega)).trans HZ6.out)
        clear e
        obtain ⟨va, vn, vk, rfl⟩ : ∃ a n k, v = .slice a n k := by rcases HO.out.2 with ⟨hv, h0⟩ | ⟨g, c, _, hv, _⟩; exact ⟨_, _, _, hv⟩; exact ⟨_, _, _, hv⟩
        go_upto_region 20 with fail
        obtain ⟨d0, d1, d2, d3, d4⟩ := cells5 HCI.out
        obtain ⟨z0, z1, z2, z3, z4⟩ := cells5 HZI.out
        have zf0 := free_of HZI.out 0
        have zf1 := free_of HZI.out 1
        have zf2 := free_of HZI.out 2
        have zf3 := free_of HZI.out 3
        have zf4 := free_of HZI.out 4
        have HR5 := Lib.hid (cells5 (heap_setCell_same _ z 4 _ _ (.slice va vn vk) (heap_setCell_same _ z 3 _ _ (.int .u64 0) (heap_setCell_same _ z 2 _ _ (.int .i64 0) (heap_setCell_same _ z 1 _ _ (.int .i64 0) (heap_setCell_same _ z 0 _ _ (.int .i64 3) HZI.out))))))
        go_wp2_with fail
        obtain ⟨r0, r1, r2, r3, r4⟩ := HR5.out
        have e := HR.out
        subst e
        exact bodyPost_ret (v := .agg #[.int .i64 3, .int .i64 0, .int .i64 0, .int .u64 0, .slice va vn vk]) (by simp [results, Tryz.results24, go_sem, r0, r1, r2, r3, r4]) rfl ⟨_, rfl, Batch.Own.sl (T := 68) (base := Bq) (ownSet5 HO.out (by rw [HBQ.out]; exact (Array.getElem?_eq_some_iff.1 HZ6.out).1) _ _ _ _ _) (by intro x hx; obtain ⟨q, _, rfl⟩ := List.mem_map.1 hx; exact chPV_wf q), fun g n k e => by have h1 := (World.ownsRow.lt HO.out g.block (by simp only [Value.slice.injEq] at e; obtain ⟨rfl, _, _⟩ := e; rfl)).1; have h2 := HBQ.out; have h3 := HB6.out.size; omega, (((((HBR.out).setCell (p := ⟨z, 0, none⟩) HZC.out.2.1 _).setCell (p := ⟨z, 1, none⟩) HZC.out.2.1 _).setCell (p := ⟨z, 2, none⟩) HZC.out.2.1 _).setCell (p := ⟨z, 3, none⟩) HZC.out.2.1 _).setCell (p := ⟨z, 4, none⟩) HZC.out.2.1 _⟩
  by_cases h5 : k = 5 ∨ k = 6
  · have HR := Lib.hid (show G = ⟨k, 0, atoiV y1, timeV y2, []⟩ by rw [HG0.out]; unfold gPK; rw [if_neg h0, if_neg h1, if_neg h3, if_pos h5])
    have HKK := Lib.hid h5
    clear h0 h1 h3 h5
    obtain ⟨c0, c1, c2, c3, c4⟩ := cells5 HC5.out
    rcases HKK.out with rfl | rfl
    · clear HKK
      go_wp2_with fail
      go_at_call 56
      refine (number_any y1 (by have := HLN.out; omega) (HL.out.below HB5.out)).mono ?_
      rintro e w6 ⟨rfl, hb⟩
      have HB6 := Lib.hid (HB5.out.trans (hb.mono HB5.out.size))
      have HZ6 := Lib.hid ((hb.block z (Array.getElem?_eq_some_iff.1 HZ5.out).1).trans HZ5.out)
      have HC6 := Lib.hid ((hb.block cb (Array.getElem?_eq_some_iff.1 HC5.out).1).trans HC5.out)
      clear hb
      clear c0 c1 c2 c3 c4
      obtain ⟨e0, e1, e2, e3, e4⟩ := cells5 HC6.out
      go_wp2_with fail
      go_at_call 57
      refine (guessTime_any y2 (by have := HLN.out; omega) (HL.out.below HB6.out)).mono ?_
      rintro e w7 ⟨rfl, hb⟩
      have HB7 := Lib.hid (HB6.out.trans (hb.mono HB6.out.size))
      have HZ7 := Lib.hid ((hb.block z (Array.getElem?_eq_some_iff.1 HZ6.out).1).trans HZ6.out)
      have HC7 := Lib.hid ((hb.block cb (Array.getElem?_eq_some_iff.1 HC6.out).1).trans HC6.out)
      clear hb
      clear e0 e1 e2 e3 e4
      have cf2 := free_of HC7.out 2
      have cf3 := free_of HC7.out 3
      obtain ⟨e0, e1, e2, e3, e4⟩ := cells5 HC7.out
      go_upto_region 20 with fail
      clear cf2 cf3 e0 e1 e2 e3 e4
      obtain ⟨W, hW⟩ : ∃ W, W = ((w7.setCell ⟨cb, 2, none⟩ (.int .i64 (atoiV y1))).setCell ⟨cb, 3, none⟩ (.int .u64 (timeV y2))) := ⟨_, rfl⟩
      rw [← hW]
      have HCW := Lib.hid (show W.heap[cb]? = _ from hW ▸ (heap_setCell_same _ cb 3 _ _ (.int .u64 (timeV y2)) (heap_setCell_same _ cb 2 _ _ (.int .i64 (atoiV y1)) HC7.out)))
      have HZW := Lib.hid (show W.heap[z]? = _ from hW ▸ ((heap_setCell_other _ _ _ _ (show z ≠ cb by have := HZC.out; omega)).trans ((heap_setCell_other _ _ _ _ (show z ≠ cb by have := HZC.out; omega)).trans HZ7.out)))
      have HBW := Lib.hid (show Below w.heap.size w W from hW ▸ ((((HB7.out).setCell (p := ⟨cb, 2, none⟩) HZC.out.2.2 _)).setCell (p := ⟨cb, 3, none⟩) HZC.out.2.2 _))
      clear hW
      obtain ⟨d0, d1, d2, d3, d4⟩ := cells5 HCW.out
      obtain ⟨z0, z1, z2, z3, z4⟩ := cells5 HZW.out
      have zf0 := free_of HZW.out 0
      have zf1 := free_of HZW.out 1
      have zf2 := free_of HZW.out 2
      have zf3 := free_of HZW.out 3
      have zf4 := free_of HZW.out 4
      have HR5 := Lib.hid (cells5 (heap_setCell_same _ z 4 _ _ (.slice none 0 0) (heap_setCell_same _ z 3 _ _ (.int .u64 (timeV y2)) (heap_setCell_same _ z 2 _ _ (.int .i64 (atoiV y1)) (heap_setCell_same _ z 1 _ _ (.int .i64 0) (heap_setCell_same _ z 0 _ _ (.int .i64 5) HZW.out))))))
      go_wp2_with fail
      obtain ⟨r0, r1, r2, r3, r4⟩ := HR5.out
      have e := HR.out
      subst e
      exact bodyPost_ret (v := .agg #[.int .i64 5, .int .i64 0, .int .i64 (atoiV y1), .int .u64 (timeV y2), .slice none 0 0]) (by simp [results, Tryz.results24, go_sem, r0, r1, r2, r3, r4]) rfl ⟨_, rfl, Batch.Sl.nil _, fun g n k e => by simp at e, (((((HBW.out).setCell (p := ⟨z, 0, none⟩) HZC.out.2.1 _).setCell (p := ⟨z, 1, none⟩) HZC.out.2.1 _).setCell (p := ⟨z, 2, none⟩) HZC.out.2.1 _).setCell (p := ⟨z, 3, none⟩) HZC.out.2.1 _).setCell (p := ⟨z, 4, none⟩) HZC.out.2.1 _⟩
    · clear HKK
      go_wp2_with fail
      go_at_call 56
      refine (number_any y1 (by have := HLN.out; omega) (HL.out.below HB5.out)).mono ?_
      rintro e w6 ⟨rfl, hb⟩
      have HB6 := Lib.hid (HB5.out.trans (hb.mono HB5.out.size))
      have HZ6 := Lib.hid ((hb.block z (Array.getElem?_eq_some_iff.1 HZ5.out).1).trans HZ5.out)
      have HC6 := Lib.hid ((hb.block cb (Array.getElem?_eq_some_iff.1 HC5.out).1).trans HC5.out)
      clear hb
      clear c0 c1 c2 c3 c4
      obtain ⟨e0, e1, e2, e3, e4⟩ := cells5 HC6.out
      go_wp2_with fail
      go_at_call 57
      refine (guessTime_any y2 (by have := HLN.out; omega) (HL.out.below HB6.out)).mono ?_
      rintro e w7 ⟨rfl, hb⟩
      have HB7 := Lib.hid (HB6.out.trans (hb.mono HB6.out.size))
      have HZ7 := Lib.hid ((hb.block z (Array.getElem?_eq_some_iff.1 HZ6.out).1).trans HZ6.out)
      have HC7 := Lib.hid ((hb.block cb (Array.getElem?_eq_some_iff.1 HC6.out).1).trans HC6.out)
      clear hb
      clear e0 e1 e2 e3 e4
      have cf2 := free_of HC7.out 2
      have cf3 := free_of HC7.out 3
      obtain ⟨e0, e1, e2, e3, e4⟩ := cells5 HC7.out
      go_upto_region 20 with fail
      clear cf2 cf3 e0 e1 e2 e3 e4
      obtain ⟨W, hW⟩ : ∃ W, W = ((w7.setCell ⟨cb, 2, none⟩ (.int .i64 (atoiV y1))).setCell ⟨cb, 3, none⟩ (.int .u64 (timeV y2))) := ⟨_, rfl⟩
      rw [← hW]
      have HCW := Lib.hid (show W.heap[cb]? = _ from hW ▸ (heap_setCell_same _ cb 3 _ _ (.int .u64 (timeV y2)) (heap_setCell_same _ cb 2 _ _ (.int .i64 (atoiV y1)) HC7.out)))
      have HZW := Lib.hid (show W.heap[z]? = _ from hW ▸ ((heap_setCell_other _ _ _ _ (show z ≠ cb by have := HZC.out; omega)).trans ((heap_setCell_other _ _ _ _ (show z ≠ cb by have := HZC.out; omega)).trans HZ7.out)))
      have HBW := Lib.hid (show Below w.heap.size w W from hW ▸ ((((HB7.out).setCell (p := ⟨cb, 2, none⟩) HZC.out.2.2 _)).setCell (p := ⟨cb, 3, none⟩) HZC.out.2.2 _))
      clear hW
      obtain ⟨d0, d1, d2, d3, d4⟩ := cells5 HCW.out
      obtain ⟨z0, z1, z2, z3, z4⟩ := cells5 HZW.out
      have zf0 := free_of HZW.out 0
      have zf1 := free_of HZW.out 1
      have zf2 := free_of HZW.out 2
      have zf3 := free_of HZW.out 3
      have zf4 := free_of HZW.out 4
      have HR5 := Lib.hid (cells5 (heap_setCell_same _ z 4 _ _ (.slice none 0 0) (heap_setCell_same _ z 3 _ _ (.int .u64 (timeV y2)) (heap_setCell_same _ z 2 _ _ (.int .i64 (atoiV y1)) (heap_setCell_same _ z 1 _ _ (.int .i64 0) (heap_setCell_same _ z 0 _ _ (.int .i64 6) HZW.out))))))
      go_wp2_with fail
      obtain ⟨r0, r1, r2, r3, r4⟩ := HR5.out
      have e := HR.out
      subst e
      exact bodyPost_ret (v := .agg #[.int .i64 6, .int .i64 0, .int .i64 (atoiV y1), .int .u64 (timeV y2), .slice none 0 0]) (by simp [results, Tryz.results24, go_sem, r0, r1, r2, r3, r4]) rfl ⟨_, rfl, Batch.Sl.nil _, fun g n k e => by simp at e, (((((HBW.out).setCell (p := ⟨z, 0, none⟩) HZC.out.2.1 _).setCell (p := ⟨z, 1, none⟩) HZC.out.2.1 _).setCell (p := ⟨z, 2, none⟩) HZC.out.2.1 _).setCell (p := ⟨z, 3, none⟩) HZC.out.2.1 _).setCell (p := ⟨z, 4, none⟩) HZC.out.2.1 _⟩
  · have HR := Lib.hid (show G = ⟨k, 0, 0, 0, []⟩ by rw [HG0.out]; unfold gPK; rw [if_neg h0, if_neg h1, if_neg h3, if_neg h5])
    have k0 : (k == 0) = false := by rw [beq_eq_false_iff_ne]; omega
    have k1 : (k == 1) = false := by rw [beq_eq_false_iff_ne]; omega
    have k2 : (k == 2) = false := by rw [beq_eq_false_iff_ne]; omega
    have k3 : (k == 3) = false := by rw [beq_eq_false_iff_ne]; omega
    have k5 : (k == 5) = false := by rw [beq_eq_false_iff_ne]; omega
    have k6 : (k == 6) = false := by rw [beq_eq_false_iff_ne]; omega
    clear h0 h1 h3 h5
    obtain ⟨c0, c1, c2, c3, c4⟩ := cells5 HC5.out
    go_upto_region 20 with fail
    clear k0 k1 k2 k3 k5 k6
    obtain ⟨z0, z1, z2, z3, z4⟩ := cells5 HZ5.out
    have zf0 := free_of HZ5.out 0
    have zf1 := free_of HZ5.out 1
    have zf2 := free_of HZ5.out 2
    have zf3 := free_of HZ5.out 3
    have zf4 := free_of HZ5.out 4
    have HR5 := Lib.hid (cells5 (heap_setCell_same _ z 4 _ _ (.slice none 0 0) (heap_setCell_same _ z 3 _ _ (.int .u64 0) (heap_setCell_same _ z 2 _ _ (.int .i64 0) (heap_setCell_same _ z 1 _ _ (.int .i64 0) (heap_setCell_same _ z 0 _ _ (.int .i64 k) HZ5.out))))))
    go_wp2_with fail
    obtain ⟨r0, r1, r2, r3, r4⟩ := HR5.out
    have e := HR.out
    subst e
    exact bodyPost_ret (v := .agg #[.int .i64 k, .int .i64 0, .int .i64 0, .int .u64 0, .slice none 0 0]) (by simp [results, Tryz.results24, go_sem, r0, r1, r2, r3, r4]) rfl ⟨_, rfl, Batch.Sl.nil _, fun g n k e => by simp at e, (((((HB5.out).setCell (p := ⟨z, 0, none⟩) HZC.out.2.1 _).setCell (p := ⟨z, 1, none⟩) HZC.out.2.1 _).setCell (p := ⟨z, 2, none⟩) HZC.out.2.1 _).setCell (p := ⟨z, 3, none⟩) HZC.out.2.1 _).setCell (p := ⟨z, 4, none⟩) HZC.out.2.1 _⟩
end Go.Proofs.YtdbaacalfbbdiaaGreatDoor.Sc
