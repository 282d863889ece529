/-
  PACKAGE script: guessGraph: what is made of any text. (gen/scgguess.py)
-/
import Derived.Test.YtdbaacalfbbdiaaGreatDoorScGText
import Derived.Test.YtdbaacalfbbdiaaGreatDoorScGuess
import Derived.Test.YtdbaacalfbbdiaaGreatDoorGTo
namespace Go.Proofs.YtdbaacalfbbdiaaGreatDoor.Sc
open Go.RowKit
set_option linter.unusedVariables false
set_option linter.unusedSimpArgs false
def NewV (w : World) (v : Value) : Prop := ∀ g n k, v = .slice (some g) n k → w.heap.size ≤ g.block
def GgP (w : World) (g : Gm) (e : Ending) (w' : World) : Prop := ∃ ae ce ai ci, e = .returned (.agg #[.int .i64 g.n, .slice ae g.E.length ce, .slice ai g.I.length ci]) ∧ Gr.Rd w' (.slice ae g.E.length ce) g.E ∧ Gr.RdI w' (.slice ai g.I.length ci) g.I ∧ NewV w (.slice ae g.E.length ce) ∧ NewV w (.slice ai g.I.length ci) ∧ Below w.heap.size w w'
theorem edV_wf (q : Bs) : (edV atoiV q).Wf := by
  unfold edV
  have a := atoiV_bd (Lib.cut q [47]).1
  have b := atoiV_bd (Lib.cut (Lib.cut q [47]).2.1 [47]).1
  have c := timeV_U (Lib.cut (Lib.cut q [47]).2.1 [47]).2.1
  exact ⟨a.1, a.2, b.1, b.2, c.1, c.2⟩
theorem row_ex {c base size n : Nat} {e : TypeId} {w w1 : World} {v : Value} {xs : List Value} (h : w.ownsRow base e size v n xs) (hx : Ex c w w1) (hne : v.ownBlock ≠ some c) : w1.ownsRow base e size v n xs := by
  refine ⟨h.1, ?_⟩
  rcases h.2 with h2 | ⟨g, cap, cur, rfl, hb, hg, rest⟩
  · exact .inl h2
  · exact .inr ⟨g, cap, cur, rfl, hb, (hx.2 g (Array.getElem?_eq_some_iff.1 hg).1 fun e => hne (by rw [e]; rfl)).trans hg, rest⟩
theorem row_set3 {w : World} {base size n : Nat} {T : TypeId} {v : Value} {xs : List Value} {b : Nat} (h : w.ownsRow base T size v n xs) (hb : b < base) (u0 u1 u2 : Value) : (((w.setCell ⟨b, 0, none⟩ u0).setCell ⟨b, 1, none⟩ u1).setCell ⟨b, 2, none⟩ u2).ownsRow base T size v n xs := by
  have hb' : ¬ (v.ownBlock = some b) := fun e => by have := (World.ownsRow.lt h _ e).1; omega
  exact ownsRow_setCell_other (ownsRow_setCell_other (ownsRow_setCell_other h (fun e => hb' e) _) (fun e => hb' e) _) (fun e => hb' e) _
theorem row_new {w W : World} {base size n : Nat} {T : TypeId} {v : Value} {xs : List Value} (h : W.ownsRow base T size v n xs) (hb : w.heap.size ≤ base) : NewV w v := fun g n k e => Nat.le_trans hb (World.ownsRow.lt h g.block (by rw [e]; rfl)).1
theorem _root_.Go.World.ownsRow.below0 {w w' : World} {base size n : Nat} {T : TypeId} {v : Value} {xs : List Value} (h : w.ownsRow base T size v n xs) (hw : Below w.heap.size w w') : w'.ownsRow base T size v n xs := by
  refine ⟨h.1, ?_⟩
  rcases h.2 with h2 | ⟨g, cap, cur, rfl, hb, hg, rest⟩
  · exact .inl h2
  · exact .inr ⟨g, cap, cur, rfl, hb, (hw.block g (Array.getElem?_eq_some_iff.1 hg).1).trans hg, rest⟩
theorem slice_inj0 {g o n c g' o' n' c' : Nat} (h : Value.slice (some ⟨g, o, none⟩) n c = .slice (some ⟨g', o', none⟩) n' c') : g = g' ∧ o = o' ∧ c = c' := by
  simp only [Value.slice.injEq, Option.some.injEq, Addr.mk.injEq] at h
  exact ⟨h.1.1, h.1.2.1, h.2.2⟩
theorem row_form {W : World} {base size n : Nat} {T : TypeId} {v : Value} {xs : List Value} (h : W.ownsRow base T size v n xs) : ∃ a k, v = .slice a n k := by
  rcases h.2 with ⟨hv, h0⟩ | ⟨g, c, _, hv, _⟩
  · exact ⟨none, 0, by rw [hv, h0]⟩
  · exact ⟨_, _, hv⟩
def gPE (x2 : Bs) : List Gr.Ed := if x2 = [45] then [] else (Lib.splitK [44] 0 (min 257 (x2.length + 1) - 1) x2).map (edV atoiV)
def gPI (x3 : Bs) : List Int := (Lib.splitK [44] 0 (min 9 (x3.length + 1) - 1) x3).map atoiV
theorem guessGP_eq (s : Bs) : guessGP s = ⟨atoiV (Lib.cut s [32]).1, gPE (Lib.cut (Lib.cut s [32]).2.1 [32]).1, gPI (Lib.cut (Lib.cut s [32]).2.1 [32]).2.1⟩ := rfl
set_option maxRecDepth 1000000 in
set_option maxHeartbeats 32000000 in
theorem guessGraph_any (s : Bs) (hs : s.length ≤ 10000) {w : World} (hL : SV w) :
    Calls Tryz.prog 41 #[.string (bs s)] w (GgP w (guessGP s)) := by
  have HL := Lib.hid hL
  have l1 := cut_len s 32
  have l2 := cut_len (Lib.cut s [32]).2.1 32
  have H1 := Lib.hid (fun w' (hb : Below w.heap.size w w') => cutS_any s 32 (by omega) (hL.below hb))
  have H2 := Lib.hid (fun w' (hb : Below w.heap.size w w') => cutS_any (Lib.cut s [32]).2.1 32 (by omega) (hL.below hb))
  have HG0 := Lib.hid (guessGP_eq s)
  have HLN := Lib.hid (show (Lib.cut s [32]).1.length ≤ 10000 ∧ (Lib.cut (Lib.cut s [32]).2.1 [32]).1.length ≤ 10000 ∧ (Lib.cut (Lib.cut s [32]).2.1 [32]).2.1.length ≤ 10000 by omega)
  generalize (Lib.cut s [32]).1 = x1 at *
  generalize (Lib.cut s [32]).2.1 = r1 at *
  generalize (Lib.cut r1 [32]).1 = x2 at *
  generalize (Lib.cut r1 [32]).2.1 = x3 at *
  generalize guessGP s = GG at *
  have HNU := Lib.hid (fun w' (hb : Below w.heap.size w w') => number_any x1 (by have := HLN.out; omega) (hL.below hb))
  generalize atoiV x1 = n at *
  clear l1 l2 hL
  obtain ⟨w1, hw1⟩ : ∃ w1, w1 = w.alloc (.cells #[.int .i64 0, .slice none 0 0, .slice none 0 0] 47) := ⟨_, rfl⟩
  have HZ1 := Lib.hid (show w1.heap[w.heap.size]? = some (.cells #[.int .i64 0, .slice none 0 0, .slice none 0 0] 47 (0, 0)) by rw [hw1]; exact heap_alloc_new w _)
  have HB1 := Lib.hid (show Below w.heap.size w w1 by rw [hw1]; exact (Below.refl _ _).alloc (Nat.le_refl _) _)
  obtain ⟨z, hz⟩ : ∃ z, z = w.heap.size := ⟨_, rfl⟩
  rw [← hz] at HZ1
  have HZZ := Lib.hid hz
  go_enter Tryz.func41, Tryz.ntmps41
  go_upto_region 1 with fail
  rw [← hw1, ← hz]
  clear hw1 hz
  go_wp2_with fail
  go_at_call 54
  refine (H1.out _ HB1.out).mono ?_
  rintro e w2 ⟨⟨b1, rfl⟩, hb⟩
  have HB12 := Lib.hid hb
  have HB2 := Lib.hid (HB1.out.trans (hb.mono HB1.out.size))
  clear hb
  go_wp2_with fail
  go_at_call 54
  refine (H2.out _ HB2.out).mono ?_
  rintro e w3 ⟨⟨b2, rfl⟩, hb⟩
  have HB13 := Lib.hid (HB12.out.trans (hb.mono HB12.out.size))
  have HB3 := Lib.hid (HB2.out.trans (hb.mono HB2.out.size))
  clear hb
  go_wp2_with fail
  go_at_call 56
  refine (HNU.out _ HB3.out).mono ?_
  rintro e w4 ⟨rfl, hb⟩
  have HB14 := Lib.hid (HB13.out.trans (hb.mono HB13.out.size))
  have HB4 := Lib.hid (HB3.out.trans (hb.mono HB3.out.size))
  clear hb
  go_upto_region 4 with fail
  obtain ⟨w5, hw5⟩ : ∃ w5, w5 = w4.alloc (.cells #[.int .i64 n, .slice none 0 0, .slice none 0 0] 47) := ⟨_, rfl⟩
  have hc5 : w5.heap[w4.heap.size]? = some (.cells #[.int .i64 n, .slice none 0 0, .slice none 0 0] 47 (0, 0)) := by rw [hw5]; exact heap_alloc_new w4 _
  have hb45 : Below w4.heap.size w4 w5 := by rw [hw5]; exact (Below.refl _ _).alloc (Nat.le_refl _) _
  rw [← hw5]
  have hb15 := HB14.out.trans (hb45.mono HB14.out.size)
  have HB5 := Lib.hid (HB4.out.trans (hb45.mono HB4.out.size))
  have HZ5 := Lib.hid ((hb15.block z (Array.getElem?_eq_some_iff.1 HZ1.out).1).trans HZ1.out)
  obtain ⟨cb, hcb⟩ : ∃ c, c = w4.heap.size := ⟨_, rfl⟩
  rw [← hcb] at hc5 ⊢
  have HC5 := Lib.hid hc5
  have HZC := Lib.hid (show z < cb ∧ w.heap.size ≤ z ∧ w.heap.size ≤ cb by
    have h1 := (Array.getElem?_eq_some_iff.1 HZ1.out).1
    have h2 := HB14.out.size
    have h3 := HZZ.out
    omega)
  obtain ⟨i0, hi, hy0, hy1, hy2⟩ := Gr.info_parts Gr.infoEd
  obtain ⟨j0, hj, hu0, hu1, hu2⟩ := Gr.info_parts Gr.infoInt
  have HSE := Lib.hid (fun w' (hb : Below w.heap.size w w') => splitS_any x2 257 (by have := HLN.out; omega) (by omega) (HL.out.below hb))
  have HSI := Lib.hid (fun w' (hb : Below w.heap.size w w') => splitS_any x3 9 (by have := HLN.out; omega) (by omega) (HL.out.below hb))
  have HPI := Lib.hid (show gPI x3 = (Lib.splitK [44] 0 (min 9 (x3.length + 1) - 1) x3).map atoiV from rfl)
  clear hw5 hb45 hb15 hcb hc5
  by_cases hm : x2 = [45]
  · have HE0 := Lib.hid (show gPE x2 = [] from if_pos hm)
    have eE : ((bs x2).toList == [45]) = true := by rw [Lib.toList_data, bs_data, hm]; rfl
    clear hm
    have HRE := Lib.hid (Gr.Own.nil w5 w5.heap.size 70)
    have HWE := Lib.hid (show ∀ x ∈ gPE x2, x.Wf by rw [HE0.out]; simp)
    obtain ⟨Be, hBe⟩ : ∃ B, B = w5.heap.size := ⟨_, rfl⟩
    rw [← hBe] at HRE
    have HBb := Lib.hid (show w.heap.size ≤ Be ∧ z < Be ∧ cb < Be by rw [hBe]; exact ⟨HB5.out.size, (Array.getElem?_eq_some_iff.1 HZ5.out).1, (Array.getElem?_eq_some_iff.1 HC5.out).1⟩)
    obtain ⟨va, hva⟩ : ∃ a : Option Addr, a = none := ⟨_, rfl⟩
    obtain ⟨vk, hvk⟩ : ∃ k : Nat, k = 0 := ⟨_, rfl⟩
    obtain ⟨ne, hne⟩ : ∃ k : Nat, (gPE x2).length = k := ⟨_, rfl⟩
    have hn0 : ne = 0 := by rw [← hne, HE0.out]; rfl
    have HOE := Lib.hid (show Gr.Own w5 Be 70 (.slice va ne vk) (gPE x2) by rw [HE0.out, hva, hvk, hn0]; exact HRE.out)
    have HC5 := Lib.hid (show w5.heap[cb]? = some (.cells #[.int .i64 n, .slice va ne vk, .slice none 0 0] 47 (0, 0)) by rw [hva, hvk, hn0]; exact HC5.out)
    have HNL := Lib.hid hne
    clear hBe HRE hva hvk hn0 hne
    obtain ⟨c0, c1, c2⟩ := cells3 HC5.out
    go_wp2_with fail
    go_at_call 58
    have HSBi := Lib.hid (Array.getElem?_eq_some_iff.1 HC5.out).1
    refine (HSI.out _ HB5.out).mono ?_
    rintro e wb6 ⟨vs, rfl, hrs, hgn, hb⟩
    have HBb6 := Lib.hid (HB5.out.trans (hb.mono HB5.out.size))
    have HZb6 := Lib.hid ((hb.block z (Array.getElem?_eq_some_iff.1 HZ5.out).1).trans HZ5.out)
    have HCb6 := Lib.hid ((hb.block cb (Array.getElem?_eq_some_iff.1 HC5.out).1).trans HC5.out)
    have HBSi := Lib.hid hb
    have hXL := splitK_len [44] (min 9 (x3.length + 1) - 1) x3
    have hXC := splitK_count [44] (min 9 (x3.length + 1) - 1) x3
    generalize Lib.splitK [44] 0 (min 9 (x3.length + 1) - 1) x3 = Xi at *
    obtain ⟨gsi, osi, ksi, rfl, hks, hgs, hcs⟩ := id hrs
    have HNEi := Lib.hid (show gsi ≠ cb from fun e => by subst e; have h1 := HSBi.out; have h2 : w5.heap.size ≤ gsi := hgn _ _ _ rfl; omega)
    have HRSi := Lib.hid hrs
    have HXLi := Lib.hid (show ∀ x ∈ Xi, x.length ≤ 10000 from fun x hx => by have := hXL x hx; have := HLN.out; omega)
    obtain ⟨Ni, hN⟩ : ∃ N, N = Xi.length := ⟨_, rfl⟩
    have HXNi := Lib.hid (show Ni ≤ 9 by rw [hN]; omega)
    rw [← hN]
    have HNi := Lib.hid hN
    obtain ⟨Bi, hBq⟩ : ∃ B, B = wb6.heap.size := ⟨_, rfl⟩
    have HBQi := Lib.hid hBq
    clear hXL hXC hks hgs hcs hN hrs hgn hb hBq
    go_wp2_with fail
    clear c0 c1 c2
    have HOE6 := Lib.hid (World.ownsRow.below0 HOE.out HBSi.out)
    go_loopg [63] (Ni + 1) (fun k t wr => ∃ (i : Nat) (v : Value), i + k = Ni + 1 ∧ i ≤ Ni ∧ t = .int .i64 i ∧ Hid (wr.heap[cb]? = some (.cells #[.int .i64 n, .slice va ne vk, v] 47 (0, 0))) ∧ Gr.OwnI wr Bi 3 v ((Xi.take i).map atoiV) ∧ Ex cb wb6 wr ∧ Below w.heap.size w wr)
    case atStart => exact ⟨0, .slice none 0 0, by omega, by omega, rfl, HCb6, World.ownsRow_nil _ _ _ _, Ex.refl _ _, HBb6.out⟩
    case round =>
      obtain ⟨i, v, hik, hil, rfl, HCI, hown, hex, hbw⟩ := hrel
      have HIK := Lib.hid hik
      have HOW := Lib.hid hown
      have HEX := Lib.hid hex
      have HBR := Lib.hid hbw
      have hi0 : (0 : Int) ≤ (i : Int) := Int.natCast_nonneg _
      clear hik hown hex hbw
      by_cases hlt : i < Ni
      · have hi1 : (i : Int) < (Ni : Int) := by omega
        obtain ⟨q, hq⟩ : ∃ q, Xi[i]? = some q := ⟨_, List.getElem?_eq_getElem (by rw [← HNi.out]; exact hlt)⟩
        have HQ := Lib.hid hq
        have HQL := Lib.hid (HXLi.out q (List.mem_of_getElem? hq))
        obtain ⟨gs2, os2, ks2, e9, _, _, hcs⟩ := HEX.out.rd HRSi.out HNEi.out
        rw [← HNi.out] at e9
        obtain ⟨rfl, rfl, rfl⟩ := slice_inj0 e9
        have cq := hcs i q hq
        clear hq hcs e9
        obtain ⟨c0, c1, c2⟩ := cells3 HCI.out
        have HO7 := HOW
        have HCL := Lib.hid (Array.getElem?_eq_some_iff.1 HCI.out).1
        go_upto_region 14 with fail
        clear cq
        refine wp_region_held_drew (S := fun w' => True) (by kernel_rfl) ?_ (fun hHeld => ?_)
        · trivial
        have HB07 := Lib.hid (show Below wr.heap.size wr wr.drew from below_drewN (Below.refl _ _) 1)
        refine Qt 0 (fun _ => ?_)
        refine Qt 2 (fun _ => ?_)
        refine wpAnyH_ready (rs := [1, 3]) (by kernel_rfl) (by simp) ?_
        refine AllReadyH.cons rfl (fun K hK => ?_) (AllReadyH.cons rfl (fun K hK => ?_) AllReadyH.nil)
        · go_simp
          have ek := Kc HB07.out HCL.out c2
          try go_simp
          refine hK.out _ _ ?_ (fun hHeld => ?_)
          · trivial
          clear hK K
          try simp only [Act.put, Qa, Qb, Qc, Qd, Qe, Qf]
          clear ek
          refine Qr 3 fun K hK => ?_
          go_simp
          go_at_call 56
          refine (number_any q (by have := HQL.out; omega) (HL.out.below (HBR.out.trans (HB07.out.mono HBR.out.size)))).mono ?_
          rintro e wa ⟨rfl, hb⟩
          have HBwa := Lib.hid (HB07.out.trans (hb.mono HB07.out.size))
          clear hb
          try go_wp2_with fail
          refine hK.out _ _ ?_ (fun hHeld => ?_)
          · trivial
          clear hK K
          try simp only [Act.put, Qa, Qb, Qc, Qd, Qe, Qf]
          refine Qr 4 fun K hK => ?_
          go_simp
          have HBwb := Lib.hid (HBwa.out.alloc HBwa.out.size (.cells #[.int .i64 (atoiV q)] 3))
          refine hK.out _ _ ?_ (fun hHeld => ?_)
          · trivial
          clear hK K
          try simp only [Act.put, Qa, Qb, Qc, Qd, Qe, Qf]
          have HOb := Lib.hid (HOW.out.below HBwb.out)
          have HBB := Lib.hid (show Bi ≤ wr.heap.size by rw [HBQi.out]; exact HEX.out.1)
          refine Qr 5 fun K hK => ?_
          refine app1 _ (by rfl) _ _ 42 (by rfl) Bi 3 j0 _ 1 8 Tryz.underlying42 hj hu0 hu1 hu2 (by kernel_rfl) (by decide) v ((Xi.take i).map atoiV).length (Gr.intsL ((Xi.take i).map atoiV)) (by rfl) HOb.out wa.heap.size [.int .i64 (atoiV q)] 3 (by rfl) (heap_alloc_new wa _) rfl (by intro u hu; simp at hu; subst hu; rfl) (by have := HXNi.out; unfold maxLen; simp; omega) (by have := HXNi.out; simp; omega) (Nat.le_trans HBB.out HBwb.out.size) ?_
          intro v2 w10 hA hbA _
          obtain ⟨ua, uk, rfl⟩ := row_form hA
          generalize hvn : ((Xi.take i).map atoiV).length + 1 = vn at *
          have HA := Lib.hid hA
          have HVN := Lib.hid hvn
          have HBA := Lib.hid hbA
          clear hA hbA hvn
          have HC10 := Lib.hid ((HBA.out.block cb (show cb < Bi by rw [HBQi.out]; exact (Array.getElem?_eq_some_iff.1 HCb6.out).1)).trans ((HBwb.out.block cb HCL.out).trans HCI.out))
          refine hK.out _ _ ?_ (fun hHeld => ?_)
          · trivial
          clear hK K
          try simp only [Act.put, Qa, Qb, Qc, Qd, Qe, Qf]
          refine Qt 6 (fun _ => ?_)
          have cf4 := free_of HC10.out 2
          have e44 := (cells3 HC10.out).2.2
          refine Qr 7 fun K hK => ?_
          go_simp
          have HC11 := Lib.hid (heap_setCell_same _ cb 2 _ _ (.slice ua vn uk) HC10.out)
          refine hK.out _ _ ?_ (fun hHeld => ?_)
          · trivial
          clear hK K
          try simp only [Act.put, Qa, Qb, Qc, Qd, Qe, Qf]
          refine wpAnyH_done (by kernel_rfl) ?_ _
          have HE11 := Lib.hid (((HEX.out.below HBwb.out).base (by rw [HBQi.out]; exact Nat.le_refl _) HBA.out).set 2 (.slice ua vn uk))
          have HB11 := Lib.hid ((((HBR.out.trans (HBwb.out.mono HBR.out.size))).trans (HBA.out.mono (by rw [HBQi.out]; exact HBb6.out.size))).setCell (p := ⟨cb, 2, none⟩) HZC.out.2.2 (.slice ua vn uk))
          have HO11 := Lib.hid (show Gr.OwnI (w10.setCell ⟨cb, 2, none⟩ (.slice ua vn uk)) Bi 3 (.slice ua vn uk) ((Xi.take (i + 1)).map atoiV) by
            have e : (Xi.take (i + 1)).map atoiV = (Xi.take i).map atoiV ++ [atoiV q] := by rw [List.take_add_one, HQ.out, List.map_append]; rfl
            unfold Gr.OwnI
            have e2 : Gr.intsL ((Xi.take i).map atoiV ++ [atoiV q]) = Gr.intsL ((Xi.take i).map atoiV) ++ [.int .i64 (atoiV q)] := by unfold Gr.intsL; rw [List.map_append]; rfl
            rw [e, e2, List.length_append]
            have hvn : ((Xi.take i).map atoiV).length + [atoiV q].length = vn := HVN.out
            rw [hvn]
            refine ownsRow_setCell_other HA.out (fun e => ?_) _
            have h1 := (World.ownsRow.lt HA.out _ e).1
            have h2 : cb < Bi := by rw [HBQi.out]; exact (Array.getElem?_eq_some_iff.1 HCb6.out).1
            exact absurd h2 (Nat.not_lt.2 h1))
          clear c0 c1 c2 cf4 e44
          have hN17 := HXNi.out
          go_wp2_with fail
          go_roundg (Ni - i)
          case measure => have := HIK.out; omega
          case rel => exact ⟨i + 1, _, by have := HIK.out; omega, by omega, by go_num, HC11, HO11.out, HE11.out, HB11.out⟩
        · go_simp
          go_at_call 56
          refine (number_any q (by have := HQL.out; omega) (HL.out.below (HBR.out.trans (HB07.out.mono HBR.out.size)))).mono ?_
          rintro e wa ⟨rfl, hb⟩
          have HBwa := Lib.hid (HB07.out.trans (hb.mono HB07.out.size))
          clear hb
          try go_wp2_with fail
          refine hK.out _ _ ?_ (fun hHeld => ?_)
          · trivial
          clear hK K
          try simp only [Act.put, Qa, Qb, Qc, Qd, Qe, Qf]
          refine wpAnyH_ready (rs := [1, 4]) (by kernel_rfl) (by simp) ?_
          refine AllReadyH.cons rfl (fun K hK => ?_) (AllReadyH.cons rfl (fun K hK => ?_) AllReadyH.nil)
          · go_simp
            have ek := Kc HBwa.out HCL.out c2
            try go_simp
            refine hK.out _ _ ?_ (fun hHeld => ?_)
            · trivial
            clear hK K
            try simp only [Act.put, Qa, Qb, Qc, Qd, Qe, Qf]
            clear ek
            refine Qr 4 fun K hK => ?_
            go_simp
            have HBwb := Lib.hid (HBwa.out.alloc HBwa.out.size (.cells #[.int .i64 (atoiV q)] 3))
            refine hK.out _ _ ?_ (fun hHeld => ?_)
            · trivial
            clear hK K
            try simp only [Act.put, Qa, Qb, Qc, Qd, Qe, Qf]
            have HOb := Lib.hid (HOW.out.below HBwb.out)
            have HBB := Lib.hid (show Bi ≤ wr.heap.size by rw [HBQi.out]; exact HEX.out.1)
            refine Qr 5 fun K hK => ?_
            refine app1 _ (by rfl) _ _ 42 (by rfl) Bi 3 j0 _ 1 8 Tryz.underlying42 hj hu0 hu1 hu2 (by kernel_rfl) (by decide) v ((Xi.take i).map atoiV).length (Gr.intsL ((Xi.take i).map atoiV)) (by rfl) HOb.out wa.heap.size [.int .i64 (atoiV q)] 3 (by rfl) (heap_alloc_new wa _) rfl (by intro u hu; simp at hu; subst hu; rfl) (by have := HXNi.out; unfold maxLen; simp; omega) (by have := HXNi.out; simp; omega) (Nat.le_trans HBB.out HBwb.out.size) ?_
            intro v2 w10 hA hbA _
            obtain ⟨ua, uk, rfl⟩ := row_form hA
            generalize hvn : ((Xi.take i).map atoiV).length + 1 = vn at *
            have HA := Lib.hid hA
            have HVN := Lib.hid hvn
            have HBA := Lib.hid hbA
            clear hA hbA hvn
            have HC10 := Lib.hid ((HBA.out.block cb (show cb < Bi by rw [HBQi.out]; exact (Array.getElem?_eq_some_iff.1 HCb6.out).1)).trans ((HBwb.out.block cb HCL.out).trans HCI.out))
            refine hK.out _ _ ?_ (fun hHeld => ?_)
            · trivial
            clear hK K
            try simp only [Act.put, Qa, Qb, Qc, Qd, Qe, Qf]
            refine Qt 6 (fun _ => ?_)
            have cf4 := free_of HC10.out 2
            have e44 := (cells3 HC10.out).2.2
            refine Qr 7 fun K hK => ?_
            go_simp
            have HC11 := Lib.hid (heap_setCell_same _ cb 2 _ _ (.slice ua vn uk) HC10.out)
            refine hK.out _ _ ?_ (fun hHeld => ?_)
            · trivial
            clear hK K
            try simp only [Act.put, Qa, Qb, Qc, Qd, Qe, Qf]
            refine wpAnyH_done (by kernel_rfl) ?_ _
            have HE11 := Lib.hid (((HEX.out.below HBwb.out).base (by rw [HBQi.out]; exact Nat.le_refl _) HBA.out).set 2 (.slice ua vn uk))
            have HB11 := Lib.hid ((((HBR.out.trans (HBwb.out.mono HBR.out.size))).trans (HBA.out.mono (by rw [HBQi.out]; exact HBb6.out.size))).setCell (p := ⟨cb, 2, none⟩) HZC.out.2.2 (.slice ua vn uk))
            have HO11 := Lib.hid (show Gr.OwnI (w10.setCell ⟨cb, 2, none⟩ (.slice ua vn uk)) Bi 3 (.slice ua vn uk) ((Xi.take (i + 1)).map atoiV) by
              have e : (Xi.take (i + 1)).map atoiV = (Xi.take i).map atoiV ++ [atoiV q] := by rw [List.take_add_one, HQ.out, List.map_append]; rfl
              unfold Gr.OwnI
              have e2 : Gr.intsL ((Xi.take i).map atoiV ++ [atoiV q]) = Gr.intsL ((Xi.take i).map atoiV) ++ [.int .i64 (atoiV q)] := by unfold Gr.intsL; rw [List.map_append]; rfl
              rw [e, e2, List.length_append]
              have hvn : ((Xi.take i).map atoiV).length + [atoiV q].length = vn := HVN.out
              rw [hvn]
              refine ownsRow_setCell_other HA.out (fun e => ?_) _
              have h1 := (World.ownsRow.lt HA.out _ e).1
              have h2 : cb < Bi := by rw [HBQi.out]; exact (Array.getElem?_eq_some_iff.1 HCb6.out).1
              exact absurd h2 (Nat.not_lt.2 h1))
            clear c0 c1 c2 cf4 e44
            have hN17 := HXNi.out
            go_wp2_with fail
            go_roundg (Ni - i)
            case measure => have := HIK.out; omega
            case rel => exact ⟨i + 1, _, by have := HIK.out; omega, by omega, by go_num, HC11, HO11.out, HE11.out, HB11.out⟩
          · go_simp
            have HBwb := Lib.hid (HBwa.out.alloc HBwa.out.size (.cells #[.int .i64 (atoiV q)] 3))
            refine hK.out _ _ ?_ (fun hHeld => ?_)
            · trivial
            clear hK K
            try simp only [Act.put, Qa, Qb, Qc, Qd, Qe, Qf]
            refine Qr 1 fun K hK => ?_
            go_simp
            have ek := Kc HBwb.out HCL.out c2
            try go_simp
            refine hK.out _ _ ?_ (fun hHeld => ?_)
            · trivial
            clear hK K
            try simp only [Act.put, Qa, Qb, Qc, Qd, Qe, Qf]
            clear ek
            have HOb := Lib.hid (HOW.out.below HBwb.out)
            have HBB := Lib.hid (show Bi ≤ wr.heap.size by rw [HBQi.out]; exact HEX.out.1)
            refine Qr 5 fun K hK => ?_
            refine app1 _ (by rfl) _ _ 42 (by rfl) Bi 3 j0 _ 1 8 Tryz.underlying42 hj hu0 hu1 hu2 (by kernel_rfl) (by decide) v ((Xi.take i).map atoiV).length (Gr.intsL ((Xi.take i).map atoiV)) (by rfl) HOb.out wa.heap.size [.int .i64 (atoiV q)] 3 (by rfl) (heap_alloc_new wa _) rfl (by intro u hu; simp at hu; subst hu; rfl) (by have := HXNi.out; unfold maxLen; simp; omega) (by have := HXNi.out; simp; omega) (Nat.le_trans HBB.out HBwb.out.size) ?_
            intro v2 w10 hA hbA _
            obtain ⟨ua, uk, rfl⟩ := row_form hA
            generalize hvn : ((Xi.take i).map atoiV).length + 1 = vn at *
            have HA := Lib.hid hA
            have HVN := Lib.hid hvn
            have HBA := Lib.hid hbA
            clear hA hbA hvn
            have HC10 := Lib.hid ((HBA.out.block cb (show cb < Bi by rw [HBQi.out]; exact (Array.getElem?_eq_some_iff.1 HCb6.out).1)).trans ((HBwb.out.block cb HCL.out).trans HCI.out))
            refine hK.out _ _ ?_ (fun hHeld => ?_)
            · trivial
            clear hK K
            try simp only [Act.put, Qa, Qb, Qc, Qd, Qe, Qf]
            refine Qt 6 (fun _ => ?_)
            have cf4 := free_of HC10.out 2
            have e44 := (cells3 HC10.out).2.2
            refine Qr 7 fun K hK => ?_
            go_simp
            have HC11 := Lib.hid (heap_setCell_same _ cb 2 _ _ (.slice ua vn uk) HC10.out)
            refine hK.out _ _ ?_ (fun hHeld => ?_)
            · trivial
            clear hK K
            try simp only [Act.put, Qa, Qb, Qc, Qd, Qe, Qf]
            refine wpAnyH_done (by kernel_rfl) ?_ _
            have HE11 := Lib.hid (((HEX.out.below HBwb.out).base (by rw [HBQi.out]; exact Nat.le_refl _) HBA.out).set 2 (.slice ua vn uk))
            have HB11 := Lib.hid ((((HBR.out.trans (HBwb.out.mono HBR.out.size))).trans (HBA.out.mono (by rw [HBQi.out]; exact HBb6.out.size))).setCell (p := ⟨cb, 2, none⟩) HZC.out.2.2 (.slice ua vn uk))
            have HO11 := Lib.hid (show Gr.OwnI (w10.setCell ⟨cb, 2, none⟩ (.slice ua vn uk)) Bi 3 (.slice ua vn uk) ((Xi.take (i + 1)).map atoiV) by
              have e : (Xi.take (i + 1)).map atoiV = (Xi.take i).map atoiV ++ [atoiV q] := by rw [List.take_add_one, HQ.out, List.map_append]; rfl
              unfold Gr.OwnI
              have e2 : Gr.intsL ((Xi.take i).map atoiV ++ [atoiV q]) = Gr.intsL ((Xi.take i).map atoiV) ++ [.int .i64 (atoiV q)] := by unfold Gr.intsL; rw [List.map_append]; rfl
              rw [e, e2, List.length_append]
              have hvn : ((Xi.take i).map atoiV).length + [atoiV q].length = vn := HVN.out
              rw [hvn]
              refine ownsRow_setCell_other HA.out (fun e => ?_) _
              have h1 := (World.ownsRow.lt HA.out _ e).1
              have h2 : cb < Bi := by rw [HBQi.out]; exact (Array.getElem?_eq_some_iff.1 HCb6.out).1
              exact absurd h2 (Nat.not_lt.2 h1))
            clear c0 c1 c2 cf4 e44
            have hN17 := HXNi.out
            go_wp2_with fail
            go_roundg (Ni - i)
            case measure => have := HIK.out; omega
            case rel => exact ⟨i + 1, _, by have := HIK.out; omega, by omega, by go_num, HC11, HO11.out, HE11.out, HB11.out⟩
      · have hin : i = Ni := by omega
        subst hin
        have e : (Xi.take i).map atoiV = gPI x3 := by rw [List.take_of_length_le (by rw [← HNi.out]; exact Nat.le_refl _)]; exact HPI.out.symm
        have HOI := Lib.hid (e ▸ HOW.out)
        have HOEI := Lib.hid (row_ex HOE6.out HEX.out (fun e => by have h1 := (World.ownsRow.lt HOE.out _ e).1; have h2 := HBb.out; omega))
        have HZI := Lib.hid ((HEX.out.2 z (Array.getElem?_eq_some_iff.1 HZb6.out).1 (by have := HZC.out; omega)).trans HZb6.out)
        have HBI := Lib.hid (show z < Bi ∧ w.heap.size ≤ Bi by rw [HBQi.out]; exact ⟨(Array.getElem?_eq_some_iff.1 HZb6.out).1, HBb6.out.size⟩)
        clear e
        obtain ⟨ua, uk, rfl⟩ := row_form HOI.out
        generalize hni : (gPI x3).length = ni at *
        go_upto_region 16 with fail
        obtain ⟨d0, d1, d2⟩ := cells3 HCI.out
        obtain ⟨z0, z1, z2⟩ := cells3 HZI.out
        have zf0 := free_of HZI.out 0
        have zf1 := free_of HZI.out 1
        have zf2 := free_of HZI.out 2
        have HR5 := Lib.hid (cells3 (heap_setCell_same _ z 2 _ _ (.slice ua ni uk) (heap_setCell_same _ z 1 _ _ (.slice va ne vk) (heap_setCell_same _ z 0 _ _ (.int .i64 n) HZI.out))))
        have HNI := Lib.hid hni
        clear hni
        go_wp2_with fail
        obtain ⟨r0, r1, r2⟩ := HR5.out
        have e := HG0.out
        subst e
        have hni := HNI.out
        have hne := HNL.out
        subst hni hne
        exact bodyPost_ret (v := .agg #[.int .i64 n, .slice va (gPE x2).length vk, .slice ua (gPI x3).length uk]) (by simp [results, Tryz.results41, go_sem, r0, r1, r2]) rfl ⟨va, vk, ua, uk, rfl, Gr.Own.rd (base := Be) (T := 70) (row_set3 HOEI.out HBb.out.2.1 _ _ _) HWE.out, Gr.OwnI.rd (base := Bi) (T := 3) (row_set3 HOI.out HBI.out.1 _ _ _) (by intro x hx; obtain ⟨q, _, rfl⟩ := List.mem_map.1 hx; exact atoiV_bd q), row_new HOE.out HBb.out.1, row_new HOI.out HBI.out.2, (((HBR.out).setCell (p := ⟨z, 0, none⟩) HZC.out.2.1 _).setCell (p := ⟨z, 1, none⟩) HZC.out.2.1 _).setCell (p := ⟨z, 2, none⟩) HZC.out.2.1 _⟩
  · have HE0 := Lib.hid (show gPE x2 = (Lib.splitK [44] 0 (min 257 (x2.length + 1) - 1) x2).map (edV atoiV) from if_neg hm)
    have eE : ((bs x2).toList == [45]) = false := by rw [Lib.toList_data, bs_data, beq_eq_false_iff_ne]; exact hm
    clear hm
    go_wp2_with fail
    go_at_call 58
    have HSBe := Lib.hid (Array.getElem?_eq_some_iff.1 HC5.out).1
    refine (HSE.out _ HB5.out).mono ?_
    rintro e w6 ⟨vs, rfl, hrs, hgn, hb⟩
    have HB6 := Lib.hid (HB5.out.trans (hb.mono HB5.out.size))
    have HZ6 := Lib.hid ((hb.block z (Array.getElem?_eq_some_iff.1 HZ5.out).1).trans HZ5.out)
    have HC6 := Lib.hid ((hb.block cb (Array.getElem?_eq_some_iff.1 HC5.out).1).trans HC5.out)
    have HBSe := Lib.hid hb
    have hXL := splitK_len [44] (min 257 (x2.length + 1) - 1) x2
    have hXC := splitK_count [44] (min 257 (x2.length + 1) - 1) x2
    generalize Lib.splitK [44] 0 (min 257 (x2.length + 1) - 1) x2 = Xe at *
    obtain ⟨gse, ose, kse, rfl, hks, hgs, hcs⟩ := id hrs
    have HNEe := Lib.hid (show gse ≠ cb from fun e => by subst e; have h1 := HSBe.out; have h2 : w5.heap.size ≤ gse := hgn _ _ _ rfl; omega)
    have HRSe := Lib.hid hrs
    have HXLe := Lib.hid (show ∀ x ∈ Xe, x.length ≤ 10000 from fun x hx => by have := hXL x hx; have := HLN.out; omega)
    obtain ⟨Ne, hN⟩ : ∃ N, N = Xe.length := ⟨_, rfl⟩
    have HXNe := Lib.hid (show Ne ≤ 257 by rw [hN]; omega)
    rw [← hN]
    have HNe := Lib.hid hN
    obtain ⟨Be, hBq⟩ : ∃ B, B = w6.heap.size := ⟨_, rfl⟩
    have HBQe := Lib.hid hBq
    clear hXL hXC hks hgs hcs hN hrs hgn hb hBq
    go_wp2_with fail
    go_loopg [37] (Ne + 1) (fun k t wr => ∃ (i : Nat) (v : Value), i + k = Ne + 1 ∧ i ≤ Ne ∧ t = .int .i64 i ∧ Hid (wr.heap[cb]? = some (.cells #[.int .i64 n, v, .slice none 0 0] 47 (0, 0))) ∧ Gr.Own wr Be 70 v ((Xe.take i).map (edV atoiV)) ∧ Ex cb w6 wr ∧ Below w.heap.size w wr)
    case atStart => exact ⟨0, .slice none 0 0, by omega, by omega, rfl, HC6, Gr.Own.nil _ _ _, Ex.refl _ _, HB6.out⟩
    case round =>
      obtain ⟨i, v, hik, hil, rfl, HCI, hown, hex, hbw⟩ := hrel
      have HIK := Lib.hid hik
      have HOW := Lib.hid hown
      have HEX := Lib.hid hex
      have HBR := Lib.hid hbw
      have hi0 : (0 : Int) ≤ (i : Int) := Int.natCast_nonneg _
      clear hik hown hex hbw
      by_cases hlt : i < Ne
      · have hi1 : (i : Int) < (Ne : Int) := by omega
        obtain ⟨q, hq⟩ : ∃ q, Xe[i]? = some q := ⟨_, List.getElem?_eq_getElem (by rw [← HNe.out]; exact hlt)⟩
        have HQ := Lib.hid hq
        have HQL := Lib.hid (HXLe.out q (List.mem_of_getElem? hq))
        obtain ⟨gs2, os2, ks2, e9, _, _, hcs⟩ := HEX.out.rd HRSe.out HNEe.out
        rw [← HNe.out] at e9
        obtain ⟨rfl, rfl, rfl⟩ := slice_inj0 e9
        have cq := hcs i q hq
        clear hq hcs e9
        obtain ⟨c0, c1, c2⟩ := cells3 HCI.out
        go_wp2_with fail
        go_at_call 59
        refine (three_any q (by have := HQL.out; omega) (HL.out.below HBR.out)).mono ?_
        rintro e w7 ⟨rfl, hb7⟩
        have hl3 := cut_len q 47
        have hl4 := cut_len (Lib.cut q [47]).2.1 47
        have HL3 := Lib.hid (show (Lib.cut q [47]).1.length ≤ 10000 ∧ (Lib.cut (Lib.cut q [47]).2.1 [47]).1.length ≤ 10000 ∧ (Lib.cut (Lib.cut q [47]).2.1 [47]).2.1.length ≤ 10000 by have := HQL.out; omega)
        have HCH := Lib.hid (show edV atoiV q = ⟨atoiV (Lib.cut q [47]).1, atoiV (Lib.cut (Lib.cut q [47]).2.1 [47]).1, timeV (Lib.cut (Lib.cut q [47]).2.1 [47]).2.1⟩ from rfl)
        clear hl3 hl4 cq
        generalize (Lib.cut q [47]).1 = p1 at *
        generalize (Lib.cut (Lib.cut q [47]).2.1 [47]).1 = p2 at *
        generalize (Lib.cut (Lib.cut q [47]).2.1 [47]).2.1 = p3 at *
        have HB7 := Lib.hid (HBR.out.trans (hb7.mono HBR.out.size))
        have HC7 := Lib.hid ((hb7.block cb (Array.getElem?_eq_some_iff.1 HCI.out).1).trans HCI.out)
        have HE7 := Lib.hid (HEX.out.below hb7)
        have HO7 := Lib.hid (HOW.out.below hb7)
        clear hb7 c0 c1 c2
        obtain ⟨e0, e1, e2⟩ := cells3 HC7.out
        have HCL := Lib.hid (Array.getElem?_eq_some_iff.1 HC7.out).1
        go_upto_region 9 with fail
        refine wp_region_held_drew (S := fun w' => True) (by kernel_rfl) ?_ (fun hHeld => ?_)
        · trivial
        have HB07 := Lib.hid (show Below w7.heap.size w7 w7.drew from below_drewN (Below.refl _ _) 1)
        refine Qt 0 (fun _ => ?_)
        refine Qt 2 (fun _ => ?_)
        refine Qt 4 (fun _ => ?_)
        refine Qt 6 (fun _ => ?_)
        refine wpAnyH_ready (rs := [1, 3]) (by kernel_rfl) (by simp) ?_
        refine AllReadyH.cons rfl (fun K hK => ?_) (AllReadyH.cons rfl (fun K hK => ?_) AllReadyH.nil)
        · go_simp
          have ek := Kc HB07.out HCL.out e1
          try go_simp
          refine hK.out _ _ ?_ (fun hHeld => ?_)
          · trivial
          clear hK K
          try simp only [Act.put, Qa, Qb, Qc, Qd, Qe, Qf]
          clear ek
          refine Qr 3 fun K hK => ?_
          go_simp
          go_at_call 56
          refine (number_any p1 (by have := HL3.out; omega) (HL.out.below (HB7.out.trans (HB07.out.mono HB7.out.size)))).mono ?_
          rintro e w8 ⟨rfl, hb⟩
          have HBw8 := Lib.hid (HB07.out.trans (hb.mono HB07.out.size))
          clear hb
          try go_wp2_with fail
          refine hK.out _ _ ?_ (fun hHeld => ?_)
          · trivial
          clear hK K
          try simp only [Act.put, Qa, Qb, Qc, Qd, Qe, Qf]
          refine Qr 5 fun K hK => ?_
          go_simp
          go_at_call 56
          refine (number_any p2 (by have := HL3.out; omega) (HL.out.below (HB7.out.trans (HBw8.out.mono HB7.out.size)))).mono ?_
          rintro e w9 ⟨rfl, hb⟩
          have HBw9 := Lib.hid (HBw8.out.trans (hb.mono HBw8.out.size))
          clear hb
          try go_wp2_with fail
          refine hK.out _ _ ?_ (fun hHeld => ?_)
          · trivial
          clear hK K
          try simp only [Act.put, Qa, Qb, Qc, Qd, Qe, Qf]
          refine Qr 7 fun K hK => ?_
          go_simp
          go_at_call 57
          refine (guessTime_any p3 (by have := HL3.out; omega) (HL.out.below (HB7.out.trans (HBw9.out.mono HB7.out.size)))).mono ?_
          rintro e wa ⟨rfl, hb⟩
          have HBwa := Lib.hid (HBw9.out.trans (hb.mono HBw9.out.size))
          clear hb
          try go_wp2_with fail
          refine hK.out _ _ ?_ (fun hHeld => ?_)
          · trivial
          clear hK K
          try simp only [Act.put, Qa, Qb, Qc, Qd, Qe, Qf]
          refine Qt 8 (fun _ => ?_)
          refine Qr 9 fun K hK => ?_
          go_simp
          have HBwb := Lib.hid (HBwa.out.alloc HBwa.out.size (.cells #[.int .i64 (atoiV p1), .int .i64 (atoiV p2), .int .u64 (timeV p3)] 70))
          refine hK.out _ _ ?_ (fun hHeld => ?_)
          · trivial
          clear hK K
          try simp only [Act.put, Qa, Qb, Qc, Qd, Qe, Qf]
          have HOb := Lib.hid (HO7.out.below HBwb.out)
          have HBB := Lib.hid (show Be ≤ w7.heap.size by rw [HBQe.out]; exact HE7.out.1)
          refine Qr 10 fun K hK => ?_
          refine app1 _ (by rfl) _ _ 45 (by rfl) Be 70 i0 _ 3 24 Tryz.underlying45 hi hy0 hy1 hy2 (by kernel_rfl) (by decide) v ((Xe.take i).map (edV atoiV)).length (Gr.cellsL ((Xe.take i).map (edV atoiV))) (by rfl) HOb.out wa.heap.size [.int .i64 (atoiV p1), .int .i64 (atoiV p2), .int .u64 (timeV p3)] 70 (by rfl) (heap_alloc_new wa _) rfl (by intro u hu; simp at hu; rcases hu with rfl | rfl | rfl <;> rfl) (by have := HXNe.out; unfold maxLen; simp; omega) (by have := HXNe.out; simp; omega) (Nat.le_trans HBB.out HBwb.out.size) ?_
          intro v2 w10 hA hbA _
          obtain ⟨va, vk, rfl⟩ := row_form hA
          generalize hvn : ((Xe.take i).map (edV atoiV)).length + 1 = vn at *
          have HA := Lib.hid hA
          have HVN := Lib.hid hvn
          have HBA := Lib.hid hbA
          clear hA hbA hvn
          have HC10 := Lib.hid ((HBA.out.block cb (show cb < Be by rw [HBQe.out]; exact (Array.getElem?_eq_some_iff.1 HC6.out).1)).trans ((HBwb.out.block cb HCL.out).trans HC7.out))
          refine hK.out _ _ ?_ (fun hHeld => ?_)
          · trivial
          clear hK K
          try simp only [Act.put, Qa, Qb, Qc, Qd, Qe, Qf]
          refine Qt 11 (fun _ => ?_)
          have cf4 := free_of HC10.out 1
          have e44 := (cells3 HC10.out).2.1
          refine Qr 12 fun K hK => ?_
          go_simp
          have HC11 := Lib.hid (heap_setCell_same _ cb 1 _ _ (.slice va vn vk) HC10.out)
          refine hK.out _ _ ?_ (fun hHeld => ?_)
          · trivial
          clear hK K
          try simp only [Act.put, Qa, Qb, Qc, Qd, Qe, Qf]
          refine wpAnyH_done (by kernel_rfl) ?_ _
          have HE11 := Lib.hid (((HE7.out.below HBwb.out).base (by rw [HBQe.out]; exact Nat.le_refl _) HBA.out).set 1 (.slice va vn vk))
          have HB11 := Lib.hid ((((HB7.out.trans (HBwb.out.mono HB7.out.size))).trans (HBA.out.mono (by rw [HBQe.out]; exact HB6.out.size))).setCell (p := ⟨cb, 1, none⟩) HZC.out.2.2 (.slice va vn vk))
          have HO11 := Lib.hid (show Gr.Own (w10.setCell ⟨cb, 1, none⟩ (.slice va vn vk)) Be 70 (.slice va vn vk) ((Xe.take (i + 1)).map (edV atoiV)) by
            have e : (Xe.take (i + 1)).map (edV atoiV) = (Xe.take i).map (edV atoiV) ++ [⟨atoiV p1, atoiV p2, timeV p3⟩] := by rw [List.take_add_one, HQ.out, List.map_append]; simp only [Option.toList, List.map_cons, List.map_nil]; rw [HCH.out]
            unfold Gr.Own
            rw [e, Gr.cellsL_snoc, List.length_append]
            have hvn : ((Xe.take i).map (edV atoiV)).length + [(⟨atoiV p1, atoiV p2, timeV p3⟩ : Gr.Ed)].length = vn := HVN.out
            rw [hvn]
            refine ownsRow_setCell_other HA.out (fun e => ?_) _
            have h1 := (World.ownsRow.lt HA.out _ e).1
            have h2 : cb < Be := by rw [HBQe.out]; exact (Array.getElem?_eq_some_iff.1 HC6.out).1
            exact absurd h2 (Nat.not_lt.2 h1))
          clear e0 e1 e2 cf4 e44
          have hN17 := HXNe.out
          go_wp2_with fail
          go_roundg (Ne - i)
          case measure => have := HIK.out; omega
          case rel => exact ⟨i + 1, _, by have := HIK.out; omega, by omega, by go_num, HC11, HO11.out, HE11.out, HB11.out⟩
        · go_simp
          go_at_call 56
          refine (number_any p1 (by have := HL3.out; omega) (HL.out.below (HB7.out.trans (HB07.out.mono HB7.out.size)))).mono ?_
          rintro e w8 ⟨rfl, hb⟩
          have HBw8 := Lib.hid (HB07.out.trans (hb.mono HB07.out.size))
          clear hb
          try go_wp2_with fail
          refine hK.out _ _ ?_ (fun hHeld => ?_)
          · trivial
          clear hK K
          try simp only [Act.put, Qa, Qb, Qc, Qd, Qe, Qf]
          refine wpAnyH_ready (rs := [1, 5]) (by kernel_rfl) (by simp) ?_
          refine AllReadyH.cons rfl (fun K hK => ?_) (AllReadyH.cons rfl (fun K hK => ?_) AllReadyH.nil)
          · go_simp
            have ek := Kc HBw8.out HCL.out e1
            try go_simp
            refine hK.out _ _ ?_ (fun hHeld => ?_)
            · trivial
            clear hK K
            try simp only [Act.put, Qa, Qb, Qc, Qd, Qe, Qf]
            clear ek
            refine Qr 5 fun K hK => ?_
            go_simp
            go_at_call 56
            refine (number_any p2 (by have := HL3.out; omega) (HL.out.below (HB7.out.trans (HBw8.out.mono HB7.out.size)))).mono ?_
            rintro e w9 ⟨rfl, hb⟩
            have HBw9 := Lib.hid (HBw8.out.trans (hb.mono HBw8.out.size))
            clear hb
            try go_wp2_with fail
            refine hK.out _ _ ?_ (fun hHeld => ?_)
            · trivial
            clear hK K
            try simp only [Act.put, Qa, Qb, Qc, Qd, Qe, Qf]
            refine Qr 7 fun K hK => ?_
            go_simp
            go_at_call 57
            refine (guessTime_any p3 (by have := HL3.out; omega) (HL.out.below (HB7.out.trans (HBw9.out.mono HB7.out.size)))).mono ?_
            rintro e wa ⟨rfl, hb⟩
            have HBwa := Lib.hid (HBw9.out.trans (hb.mono HBw9.out.size))
            clear hb
            try go_wp2_with fail
            refine hK.out _ _ ?_ (fun hHeld => ?_)
            · trivial
            clear hK K
            try simp only [Act.put, Qa, Qb, Qc, Qd, Qe, Qf]
            refine Qt 8 (fun _ => ?_)
            refine Qr 9 fun K hK => ?_
            go_simp
            have HBwb := Lib.hid (HBwa.out.alloc HBwa.out.size (.cells #[.int .i64 (atoiV p1), .int .i64 (atoiV p2), .int .u64 (timeV p3)] 70))
            refine hK.out _ _ ?_ (fun hHeld => ?_)
            · trivial
            clear hK K
            try simp only [Act.put, Qa, Qb, Qc, Qd, Qe, Qf]
            have HOb := Lib.hid (HO7.out.below HBwb.out)
            have HBB := Lib.hid (show Be ≤ w7.heap.size by rw [HBQe.out]; exact HE7.out.1)
            refine Qr 10 fun K hK => ?_
            refine app1 _ (by rfl) _ _ 45 (by rfl) Be 70 i0 _ 3 24 Tryz.underlying45 hi hy0 hy1 hy2 (by kernel_rfl) (by decide) v ((Xe.take i).map (edV atoiV)).length (Gr.cellsL ((Xe.take i).map (edV atoiV))) (by rfl) HOb.out wa.heap.size [.int .i64 (atoiV p1), .int .i64 (atoiV p2), .int .u64 (timeV p3)] 70 (by rfl) (heap_alloc_new wa _) rfl (by intro u hu; simp at hu; rcases hu with rfl | rfl | rfl <;> rfl) (by have := HXNe.out; unfold maxLen; simp; omega) (by have := HXNe.out; simp; omega) (Nat.le_trans HBB.out HBwb.out.size) ?_
            intro v2 w10 hA hbA _
            obtain ⟨va, vk, rfl⟩ := row_form hA
            generalize hvn : ((Xe.take i).map (edV atoiV)).length + 1 = vn at *
            have HA := Lib.hid hA
            have HVN := Lib.hid hvn
            have HBA := Lib.hid hbA
            clear hA hbA hvn
            have HC10 := Lib.hid ((HBA.out.block cb (show cb < Be by rw [HBQe.out]; exact (Array.getElem?_eq_some_iff.1 HC6.out).1)).trans ((HBwb.out.block cb HCL.out).trans HC7.out))
            refine hK.out _ _ ?_ (fun hHeld => ?_)
            · trivial
            clear hK K
            try simp only [Act.put, Qa, Qb, Qc, Qd, Qe, Qf]
            refine Qt 11 (fun _ => ?_)
            have cf4 := free_of HC10.out 1
            have e44 := (cells3 HC10.out).2.1
            refine Qr 12 fun K hK => ?_
            go_simp
            have HC11 := Lib.hid (heap_setCell_same _ cb 1 _ _ (.slice va vn vk) HC10.out)
            refine hK.out _ _ ?_ (fun hHeld => ?_)
            · trivial
            clear hK K
            try simp only [Act.put, Qa, Qb, Qc, Qd, Qe, Qf]
            refine wpAnyH_done (by kernel_rfl) ?_ _
            have HE11 := Lib.hid (((HE7.out.below HBwb.out).base (by rw [HBQe.out]; exact Nat.le_refl _) HBA.out).set 1 (.slice va vn vk))
            have HB11 := Lib.hid ((((HB7.out.trans (HBwb.out.mono HB7.out.size))).trans (HBA.out.mono (by rw [HBQe.out]; exact HB6.out.size))).setCell (p := ⟨cb, 1, none⟩) HZC.out.2.2 (.slice va vn vk))
            have HO11 := Lib.hid (show Gr.Own (w10.setCell ⟨cb, 1, none⟩ (.slice va vn vk)) Be 70 (.slice va vn vk) ((Xe.take (i + 1)).map (edV atoiV)) by
              have e : (Xe.take (i + 1)).map (edV atoiV) = (Xe.take i).map (edV atoiV) ++ [⟨atoiV p1, atoiV p2, timeV p3⟩] := by rw [List.take_add_one, HQ.out, List.map_append]; simp only [Option.toList, List.map_cons, List.map_nil]; rw [HCH.out]
              unfold Gr.Own
              rw [e, Gr.cellsL_snoc, List.length_append]
              have hvn : ((Xe.take i).map (edV atoiV)).length + [(⟨atoiV p1, atoiV p2, timeV p3⟩ : Gr.Ed)].length = vn := HVN.out
              rw [hvn]
              refine ownsRow_setCell_other HA.out (fun e => ?_) _
              have h1 := (World.ownsRow.lt HA.out _ e).1
              have h2 : cb < Be := by rw [HBQe.out]; exact (Array.getElem?_eq_some_iff.1 HC6.out).1
              exact absurd h2 (Nat.not_lt.2 h1))
            clear e0 e1 e2 cf4 e44
            have hN17 := HXNe.out
            go_wp2_with fail
            go_roundg (Ne - i)
            case measure => have := HIK.out; omega
            case rel => exact ⟨i + 1, _, by have := HIK.out; omega, by omega, by go_num, HC11, HO11.out, HE11.out, HB11.out⟩
          · go_simp
            go_at_call 56
            refine (number_any p2 (by have := HL3.out; omega) (HL.out.below (HB7.out.trans (HBw8.out.mono HB7.out.size)))).mono ?_
            rintro e w9 ⟨rfl, hb⟩
            have HBw9 := Lib.hid (HBw8.out.trans (hb.mono HBw8.out.size))
            clear hb
            try go_wp2_with fail
            refine hK.out _ _ ?_ (fun hHeld => ?_)
            · trivial
            clear hK K
            try simp only [Act.put, Qa, Qb, Qc, Qd, Qe, Qf]
            refine wpAnyH_ready (rs := [1, 7]) (by kernel_rfl) (by simp) ?_
            refine AllReadyH.cons rfl (fun K hK => ?_) (AllReadyH.cons rfl (fun K hK => ?_) AllReadyH.nil)
            · go_simp
              have ek := Kc HBw9.out HCL.out e1
              try go_simp
              refine hK.out _ _ ?_ (fun hHeld => ?_)
              · trivial
              clear hK K
              try simp only [Act.put, Qa, Qb, Qc, Qd, Qe, Qf]
              clear ek
              refine Qr 7 fun K hK => ?_
              go_simp
              go_at_call 57
              refine (guessTime_any p3 (by have := HL3.out; omega) (HL.out.below (HB7.out.trans (HBw9.out.mono HB7.out.size)))).mono ?_
              rintro e wa ⟨rfl, hb⟩
              have HBwa := Lib.hid (HBw9.out.trans (hb.mono HBw9.out.size))
              clear hb
              try go_wp2_with fail
              refine hK.out _ _ ?_ (fun hHeld => ?_)
              · trivial
              clear hK K
              try simp only [Act.put, Qa, Qb, Qc, Qd, Qe, Qf]
              refine Qt 8 (fun _ => ?_)
              refine Qr 9 fun K hK => ?_
              go_simp
              have HBwb := Lib.hid (HBwa.out.alloc HBwa.out.size (.cells #[.int .i64 (atoiV p1), .int .i64 (atoiV p2), .int .u64 (timeV p3)] 70))
              refine hK.out _ _ ?_ (fun hHeld => ?_)
              · trivial
              clear hK K
              try simp only [Act.put, Qa, Qb, Qc, Qd, Qe, Qf]
              have HOb := Lib.hid (HO7.out.below HBwb.out)
              have HBB := Lib.hid (show Be ≤ w7.heap.size by rw [HBQe.out]; exact HE7.out.1)
              refine Qr 10 fun K hK => ?_
              refine app1 _ (by rfl) _ _ 45 (by rfl) Be 70 i0 _ 3 24 Tryz.underlying45 hi hy0 hy1 hy2 (by kernel_rfl) (by decide) v ((Xe.take i).map (edV atoiV)).length (Gr.cellsL ((Xe.take i).map (edV atoiV))) (by rfl) HOb.out wa.heap.size [.int .i64 (atoiV p1), .int .i64 (atoiV p2), .int .u64 (timeV p3)] 70 (by rfl) (heap_alloc_new wa _) rfl (by intro u hu; simp at hu; rcases hu with rfl | rfl | rfl <;> rfl) (by have := HXNe.out; unfold maxLen; simp; omega) (by have := HXNe.out; simp; omega) (Nat.le_trans HBB.out HBwb.out.size) ?_
              intro v2 w10 hA hbA _
              obtain ⟨va, vk, rfl⟩ := row_form hA
              generalize hvn : ((Xe.take i).map (edV atoiV)).length + 1 = vn at *
              have HA := Lib.hid hA
              have HVN := Lib.hid hvn
              have HBA := Lib.hid hbA
              clear hA hbA hvn
              have HC10 := Lib.hid ((HBA.out.block cb (show cb < Be by rw [HBQe.out]; exact (Array.getElem?_eq_some_iff.1 HC6.out).1)).trans ((HBwb.out.block cb HCL.out).trans HC7.out))
              refine hK.out _ _ ?_ (fun hHeld => ?_)
              · trivial
              clear hK K
              try simp only [Act.put, Qa, Qb, Qc, Qd, Qe, Qf]
              refine Qt 11 (fun _ => ?_)
              have cf4 := free_of HC10.out 1
              have e44 := (cells3 HC10.out).2.1
              refine Qr 12 fun K hK => ?_
              go_simp
              have HC11 := Lib.hid (heap_setCell_same _ cb 1 _ _ (.slice va vn vk) HC10.out)
              refine hK.out _ _ ?_ (fun hHeld => ?_)
              · trivial
              clear hK K
              try simp only [Act.put, Qa, Qb, Qc, Qd, Qe, Qf]
              refine wpAnyH_done (by kernel_rfl) ?_ _
              have HE11 := Lib.hid (((HE7.out.below HBwb.out).base (by rw [HBQe.out]; exact Nat.le_refl _) HBA.out).set 1 (.slice va vn vk))
              have HB11 := Lib.hid ((((HB7.out.trans (HBwb.out.mono HB7.out.size))).trans (HBA.out.mono (by rw [HBQe.out]; exact HB6.out.size))).setCell (p := ⟨cb, 1, none⟩) HZC.out.2.2 (.slice va vn vk))
              have HO11 := Lib.hid (show Gr.Own (w10.setCell ⟨cb, 1, none⟩ (.slice va vn vk)) Be 70 (.slice va vn vk) ((Xe.take (i + 1)).map (edV atoiV)) by
                have e : (Xe.take (i + 1)).map (edV atoiV) = (Xe.take i).map (edV atoiV) ++ [⟨atoiV p1, atoiV p2, timeV p3⟩] := by rw [List.take_add_one, HQ.out, List.map_append]; simp only [Option.toList, List.map_cons, List.map_nil]; rw [HCH.out]
                unfold Gr.Own
                rw [e, Gr.cellsL_snoc, List.length_append]
                have hvn : ((Xe.take i).map (edV atoiV)).length + [(⟨atoiV p1, atoiV p2, timeV p3⟩ : Gr.Ed)].length = vn := HVN.out
                rw [hvn]
                refine ownsRow_setCell_other HA.out (fun e => ?_) _
                have h1 := (World.ownsRow.lt HA.out _ e).1
                have h2 : cb < Be := by rw [HBQe.out]; exact (Array.getElem?_eq_some_iff.1 HC6.out).1
                exact absurd h2 (Nat.not_lt.2 h1))
              clear e0 e1 e2 cf4 e44
              have hN17 := HXNe.out
              go_wp2_with fail
              go_roundg (Ne - i)
              case measure => have := HIK.out; omega
              case rel => exact ⟨i + 1, _, by have := HIK.out; omega, by omega, by go_num, HC11, HO11.out, HE11.out, HB11.out⟩
            · go_simp
              go_at_call 57
              refine (guessTime_any p3 (by have := HL3.out; omega) (HL.out.below (HB7.out.trans (HBw9.out.mono HB7.out.size)))).mono ?_
              rintro e wa ⟨rfl, hb⟩
              have HBwa := Lib.hid (HBw9.out.trans (hb.mono HBw9.out.size))
              clear hb
              try go_wp2_with fail
              refine hK.out _ _ ?_ (fun hHeld => ?_)
              · trivial
              clear hK K
              try simp only [Act.put, Qa, Qb, Qc, Qd, Qe, Qf]
              refine Qt 8 (fun _ => ?_)
              refine wpAnyH_ready (rs := [1, 9]) (by kernel_rfl) (by simp) ?_
              refine AllReadyH.cons rfl (fun K hK => ?_) (AllReadyH.cons rfl (fun K hK => ?_) AllReadyH.nil)
              · go_simp
                have ek := Kc HBwa.out HCL.out e1
                try go_simp
                refine hK.out _ _ ?_ (fun hHeld => ?_)
                · trivial
                clear hK K
                try simp only [Act.put, Qa, Qb, Qc, Qd, Qe, Qf]
                clear ek
                refine Qr 9 fun K hK => ?_
                go_simp
                have HBwb := Lib.hid (HBwa.out.alloc HBwa.out.size (.cells #[.int .i64 (atoiV p1), .int .i64 (atoiV p2), .int .u64 (timeV p3)] 70))
                refine hK.out _ _ ?_ (fun hHeld => ?_)
                · trivial
                clear hK K
                try simp only [Act.put, Qa, Qb, Qc, Qd, Qe, Qf]
                have HOb := Lib.hid (HO7.out.below HBwb.out)
                have HBB := Lib.hid (show Be ≤ w7.heap.size by rw [HBQe.out]; exact HE7.out.1)
                refine Qr 10 fun K hK => ?_
                refine app1 _ (by rfl) _ _ 45 (by rfl) Be 70 i0 _ 3 24 Tryz.underlying45 hi hy0 hy1 hy2 (by kernel_rfl) (by decide) v ((Xe.take i).map (edV atoiV)).length (Gr.cellsL ((Xe.take i).map (edV atoiV))) (by rfl) HOb.out wa.heap.size [.int .i64 (atoiV p1), .int .i64 (atoiV p2), .int .u64 (timeV p3)] 70 (by rfl) (heap_alloc_new wa _) rfl (by intro u hu; simp at hu; rcases hu with rfl | rfl | rfl <;> rfl) (by have := HXNe.out; unfold maxLen; simp; omega) (by have := HXNe.out; simp; omega) (Nat.le_trans HBB.out HBwb.out.size) ?_
                intro v2 w10 hA hbA _
                obtain ⟨va, vk, rfl⟩ := row_form hA
                generalize hvn : ((Xe.take i).map (edV atoiV)).length + 1 = vn at *
                have HA := Lib.hid hA
                have HVN := Lib.hid hvn
                have HBA := Lib.hid hbA
                clear hA hbA hvn
                have HC10 := Lib.hid ((HBA.out.block cb (show cb < Be by rw [HBQe.out]; exact (Array.getElem?_eq_some_iff.1 HC6.out).1)).trans ((HBwb.out.block cb HCL.out).trans HC7.out))
                refine hK.out _ _ ?_ (fun hHeld => ?_)
                · trivial
                clear hK K
                try simp only [Act.put, Qa, Qb, Qc, Qd, Qe, Qf]
                refine Qt 11 (fun _ => ?_)
                have cf4 := free_of HC10.out 1
                have e44 := (cells3 HC10.out).2.1
                refine Qr 12 fun K hK => ?_
                go_simp
                have HC11 := Lib.hid (heap_setCell_same _ cb 1 _ _ (.slice va vn vk) HC10.out)
                refine hK.out _ _ ?_ (fun hHeld => ?_)
                · trivial
                clear hK K
                try simp only [Act.put, Qa, Qb, Qc, Qd, Qe, Qf]
                refine wpAnyH_done (by kernel_rfl) ?_ _
                have HE11 := Lib.hid (((HE7.out.below HBwb.out).base (by rw [HBQe.out]; exact Nat.le_refl _) HBA.out).set 1 (.slice va vn vk))
                have HB11 := Lib.hid ((((HB7.out.trans (HBwb.out.mono HB7.out.size))).trans (HBA.out.mono (by rw [HBQe.out]; exact HB6.out.size))).setCell (p := ⟨cb, 1, none⟩) HZC.out.2.2 (.slice va vn vk))
                have HO11 := Lib.hid (show Gr.Own (w10.setCell ⟨cb, 1, none⟩ (.slice va vn vk)) Be 70 (.slice va vn vk) ((Xe.take (i + 1)).map (edV atoiV)) by
                  have e : (Xe.take (i + 1)).map (edV atoiV) = (Xe.take i).map (edV atoiV) ++ [⟨atoiV p1, atoiV p2, timeV p3⟩] := by rw [List.take_add_one, HQ.out, List.map_append]; simp only [Option.toList, List.map_cons, List.map_nil]; rw [HCH.out]
                  unfold Gr.Own
                  rw [e, Gr.cellsL_snoc, List.length_append]
                  have hvn : ((Xe.take i).map (edV atoiV)).length + [(⟨atoiV p1, atoiV p2, timeV p3⟩ : Gr.Ed)].length = vn := HVN.out
                  rw [hvn]
                  refine ownsRow_setCell_other HA.out (fun e => ?_) _
                  have h1 := (World.ownsRow.lt HA.out _ e).1
                  have h2 : cb < Be := by rw [HBQe.out]; exact (Array.getElem?_eq_some_iff.1 HC6.out).1
                  exact absurd h2 (Nat.not_lt.2 h1))
                clear e0 e1 e2 cf4 e44
                have hN17 := HXNe.out
                go_wp2_with fail
                go_roundg (Ne - i)
                case measure => have := HIK.out; omega
                case rel => exact ⟨i + 1, _, by have := HIK.out; omega, by omega, by go_num, HC11, HO11.out, HE11.out, HB11.out⟩
              · go_simp
                have HBwb := Lib.hid (HBwa.out.alloc HBwa.out.size (.cells #[.int .i64 (atoiV p1), .int .i64 (atoiV p2), .int .u64 (timeV p3)] 70))
                refine hK.out _ _ ?_ (fun hHeld => ?_)
                · trivial
                clear hK K
                try simp only [Act.put, Qa, Qb, Qc, Qd, Qe, Qf]
                refine Qr 1 fun K hK => ?_
                go_simp
                have ek := Kc HBwb.out HCL.out e1
                try go_simp
                refine hK.out _ _ ?_ (fun hHeld => ?_)
                · trivial
                clear hK K
                try simp only [Act.put, Qa, Qb, Qc, Qd, Qe, Qf]
                clear ek
                have HOb := Lib.hid (HO7.out.below HBwb.out)
                have HBB := Lib.hid (show Be ≤ w7.heap.size by rw [HBQe.out]; exact HE7.out.1)
                refine Qr 10 fun K hK => ?_
                refine app1 _ (by rfl) _ _ 45 (by rfl) Be 70 i0 _ 3 24 Tryz.underlying45 hi hy0 hy1 hy2 (by kernel_rfl) (by decide) v ((Xe.take i).map (edV atoiV)).length (Gr.cellsL ((Xe.take i).map (edV atoiV))) (by rfl) HOb.out wa.heap.size [.int .i64 (atoiV p1), .int .i64 (atoiV p2), .int .u64 (timeV p3)] 70 (by rfl) (heap_alloc_new wa _) rfl (by intro u hu; simp at hu; rcases hu with rfl | rfl | rfl <;> rfl) (by have := HXNe.out; unfold maxLen; simp; omega) (by have := HXNe.out; simp; omega) (Nat.le_trans HBB.out HBwb.out.size) ?_
                intro v2 w10 hA hbA _
                obtain ⟨va, vk, rfl⟩ := row_form hA
                generalize hvn : ((Xe.take i).map (edV atoiV)).length + 1 = vn at *
                have HA := Lib.hid hA
                have HVN := Lib.hid hvn
                have HBA := Lib.hid hbA
                clear hA hbA hvn
                have HC10 := Lib.hid ((HBA.out.block cb (show cb < Be by rw [HBQe.out]; exact (Array.getElem?_eq_some_iff.1 HC6.out).1)).trans ((HBwb.out.block cb HCL.out).trans HC7.out))
                refine hK.out _ _ ?_ (fun hHeld => ?_)
                · trivial
                clear hK K
                try simp only [Act.put, Qa, Qb, Qc, Qd, Qe, Qf]
                refine Qt 11 (fun _ => ?_)
                have cf4 := free_of HC10.out 1
                have e44 := (cells3 HC10.out).2.1
                refine Qr 12 fun K hK => ?_
                go_simp
                have HC11 := Lib.hid (heap_setCell_same _ cb 1 _ _ (.slice va vn vk) HC10.out)
                refine hK.out _ _ ?_ (fun hHeld => ?_)
                · trivial
                clear hK K
                try simp only [Act.put, Qa, Qb, Qc, Qd, Qe, Qf]
                refine wpAnyH_done (by kernel_rfl) ?_ _
                have HE11 := Lib.hid (((HE7.out.below HBwb.out).base (by rw [HBQe.out]; exact Nat.le_refl _) HBA.out).set 1 (.slice va vn vk))
                have HB11 := Lib.hid ((((HB7.out.trans (HBwb.out.mono HB7.out.size))).trans (HBA.out.mono (by rw [HBQe.out]; exact HB6.out.size))).setCell (p := ⟨cb, 1, none⟩) HZC.out.2.2 (.slice va vn vk))
                have HO11 := Lib.hid (show Gr.Own (w10.setCell ⟨cb, 1, none⟩ (.slice va vn vk)) Be 70 (.slice va vn vk) ((Xe.take (i + 1)).map (edV atoiV)) by
                  have e : (Xe.take (i + 1)).map (edV atoiV) = (Xe.take i).map (edV atoiV) ++ [⟨atoiV p1, atoiV p2, timeV p3⟩] := by rw [List.take_add_one, HQ.out, List.map_append]; simp only [Option.toList, List.map_cons, List.map_nil]; rw [HCH.out]
                  unfold Gr.Own
                  rw [e, Gr.cellsL_snoc, List.length_append]
                  have hvn : ((Xe.take i).map (edV atoiV)).length + [(⟨atoiV p1, atoiV p2, timeV p3⟩ : Gr.Ed)].length = vn := HVN.out
                  rw [hvn]
                  refine ownsRow_setCell_other HA.out (fun e => ?_) _
                  have h1 := (World.ownsRow.lt HA.out _ e).1
                  have h2 : cb < Be := by rw [HBQe.out]; exact (Array.getElem?_eq_some_iff.1 HC6.out).1
                  exact absurd h2 (Nat.not_lt.2 h1))
                clear e0 e1 e2 cf4 e44
                have hN17 := HXNe.out
                go_wp2_with fail
                go_roundg (Ne - i)
                case measure => have := HIK.out; omega
                case rel => exact ⟨i + 1, _, by have := HIK.out; omega, by omega, by go_num, HC11, HO11.out, HE11.out, HB11.out⟩
      · have hin : i = Ne := by omega
        subst hin
        have e : (Xe.take i).map (edV atoiV) = Xe.map (edV atoiV) := by rw [List.take_of_length_le (by rw [← HNe.out]; exact Nat.le_refl _)]
        have HOE := Lib.hid (show Gr.Own wr Be 70 v (gPE x2) by rw [HE0.out, ← e]; exact HOW.out)
        have HWE := Lib.hid (show ∀ x ∈ gPE x2, x.Wf by rw [HE0.out]; intro x hx; obtain ⟨q, _, rfl⟩ := List.mem_map.1 hx; exact edV_wf q)
        have HZr := Lib.hid ((HEX.out.2 z (Array.getElem?_eq_some_iff.1 HZ6.out).1 (by have := HZC.out; omega)).trans HZ6.out)
        have HBb := Lib.hid (show w.heap.size ≤ Be ∧ z < Be ∧ cb < Be by rw [HBQe.out]; exact ⟨HB6.out.size, (Array.getElem?_eq_some_iff.1 HZ6.out).1, (Array.getElem?_eq_some_iff.1 HC6.out).1⟩)
        have HBr := HBR
        have HCr := HCI
        clear e HIK HOW hi0 HEX hil hlt
        obtain ⟨va, vk, rfl⟩ := row_form HOE.out
        generalize hne : (gPE x2).length = ne at *
        have HNL := Lib.hid hne
        obtain ⟨c0, c1, c2⟩ := cells3 HCr.out
        go_wp2_with fail
        go_at_call 58
        have HSBi := Lib.hid (Array.getElem?_eq_some_iff.1 HCr.out).1
        refine (HSI.out _ HBr.out).mono ?_
        rintro e wb6 ⟨vs, rfl, hrs, hgn, hb⟩
        have HBb6 := Lib.hid (HBr.out.trans (hb.mono HBr.out.size))
        have HZb6 := Lib.hid ((hb.block z (Array.getElem?_eq_some_iff.1 HZr.out).1).trans HZr.out)
        have HCb6 := Lib.hid ((hb.block cb (Array.getElem?_eq_some_iff.1 HCr.out).1).trans HCr.out)
        have HBSi := Lib.hid hb
        have hXL := splitK_len [44] (min 9 (x3.length + 1) - 1) x3
        have hXC := splitK_count [44] (min 9 (x3.length + 1) - 1) x3
        generalize Lib.splitK [44] 0 (min 9 (x3.length + 1) - 1) x3 = Xi at *
        obtain ⟨gsi, osi, ksi, rfl, hks, hgs, hcs⟩ := id hrs
        have HNEi := Lib.hid (show gsi ≠ cb from fun e => by subst e; have h1 := HSBi.out; have h2 : wr.heap.size ≤ gsi := hgn _ _ _ rfl; omega)
        have HRSi := Lib.hid hrs
        have HXLi := Lib.hid (show ∀ x ∈ Xi, x.length ≤ 10000 from fun x hx => by have := hXL x hx; have := HLN.out; omega)
        obtain ⟨Ni, hN⟩ : ∃ N, N = Xi.length := ⟨_, rfl⟩
        have HXNi := Lib.hid (show Ni ≤ 9 by rw [hN]; omega)
        rw [← hN]
        have HNi := Lib.hid hN
        obtain ⟨Bi, hBq⟩ : ∃ B, B = wb6.heap.size := ⟨_, rfl⟩
        have HBQi := Lib.hid hBq
        clear hXL hXC hks hgs hcs hN hrs hgn hb hBq
        go_wp2_with fail
        clear c0 c1 c2
        have HOE6 := Lib.hid (World.ownsRow.below0 HOE.out HBSi.out)
        go_loopg [63] (Ni + 1) (fun k t wr => ∃ (i : Nat) (v : Value), i + k = Ni + 1 ∧ i ≤ Ni ∧ t = .int .i64 i ∧ Hid (wr.heap[cb]? = some (.cells #[.int .i64 n, .slice va ne vk, v] 47 (0, 0))) ∧ Gr.OwnI wr Bi 3 v ((Xi.take i).map atoiV) ∧ Ex cb wb6 wr ∧ Below w.heap.size w wr)
        case atStart => exact ⟨0, .slice none 0 0, by omega, by omega, rfl, HCb6, World.ownsRow_nil _ _ _ _, Ex.refl _ _, HBb6.out⟩
        case round =>
          obtain ⟨i, v, hik, hil, rfl, HCI, hown, hex, hbw⟩ := hrel
          have HIK := Lib.hid hik
          have HOW := Lib.hid hown
          have HEX := Lib.hid hex
          have HBR := Lib.hid hbw
          have hi0 : (0 : Int) ≤ (i : Int) := Int.natCast_nonneg _
          clear hik hown hex hbw
          by_cases hlt : i < Ni
          · have hi1 : (i : Int) < (Ni : Int) := by omega
            obtain ⟨q, hq⟩ : ∃ q, Xi[i]? = some q := ⟨_, List.getElem?_eq_getElem (by rw [← HNi.out]; exact hlt)⟩
            have HQ := Lib.hid hq
            have HQL := Lib.hid (HXLi.out q (List.mem_of_getElem? hq))
            obtain ⟨gs2, os2, ks2, e9, _, _, hcs⟩ := HEX.out.rd HRSi.out HNEi.out
            rw [← HNi.out] at e9
            obtain ⟨rfl, rfl, rfl⟩ := slice_inj0 e9
            have cq := hcs i q hq
            clear hq hcs e9
            obtain ⟨c0, c1, c2⟩ := cells3 HCI.out
            have HO7 := HOW
            have HCL := Lib.hid (Array.getElem?_eq_some_iff.1 HCI.out).1
            go_upto_region 14 with fail
            clear cq
            refine wp_region_held_drew (S := fun w' => True) (by kernel_rfl) ?_ (fun hHeld => ?_)
            · trivial
            have HB07 := Lib.hid (show Below wr.heap.size wr wr.drew from below_drewN (Below.refl _ _) 1)
            refine Qt 0 (fun _ => ?_)
            refine Qt 2 (fun _ => ?_)
            refine wpAnyH_ready (rs := [1, 3]) (by kernel_rfl) (by simp) ?_
            refine AllReadyH.cons rfl (fun K hK => ?_) (AllReadyH.cons rfl (fun K hK => ?_) AllReadyH.nil)
            · go_simp
              have ek := Kc HB07.out HCL.out c2
              try go_simp
              refine hK.out _ _ ?_ (fun hHeld => ?_)
              · trivial
              clear hK K
              try simp only [Act.put, Qa, Qb, Qc, Qd, Qe, Qf]
              clear ek
              refine Qr 3 fun K hK => ?_
              go_simp
              go_at_call 56
              refine (number_any q (by have := HQL.out; omega) (HL.out.below (HBR.out.trans (HB07.out.mono HBR.out.size)))).mono ?_
              rintro e wa ⟨rfl, hb⟩
              have HBwa := Lib.hid (HB07.out.trans (hb.mono HB07.out.size))
              clear hb
              try go_wp2_with fail
              refine hK.out _ _ ?_ (fun hHeld => ?_)
              · trivial
              clear hK K
              try simp only [Act.put, Qa, Qb, Qc, Qd, Qe, Qf]
              refine Qr 4 fun K hK => ?_
              go_simp
              have HBwb := Lib.hid (HBwa.out.alloc HBwa.out.size (.cells #[.int .i64 (atoiV q)] 3))
              refine hK.out _ _ ?_ (fun hHeld => ?_)
              · trivial
              clear hK K
              try simp only [Act.put, Qa, Qb, Qc, Qd, Qe, Qf]
              have HOb := Lib.hid (HOW.out.below HBwb.out)
              have HBB := Lib.hid (show Bi ≤ wr.heap.size by rw [HBQi.out]; exact HEX.out.1)
              refine Qr 5 fun K hK => ?_
              refine app1 _ (by rfl) _ _ 42 (by rfl) Bi 3 j0 _ 1 8 Tryz.underlying42 hj hu0 hu1 hu2 (by kernel_rfl) (by decide) v ((Xi.take i).map atoiV).length (Gr.intsL ((Xi.take i).map atoiV)) (by rfl) HOb.out wa.heap.size [.int .i64 (atoiV q)] 3 (by rfl) (heap_alloc_new wa _) rfl (by intro u hu; simp at hu; subst hu; rfl) (by have := HXNi.out; unfold maxLen; simp; omega) (by have := HXNi.out; simp; omega) (Nat.le_trans HBB.out HBwb.out.size) ?_
              intro v2 w10 hA hbA _
              obtain ⟨ua, uk, rfl⟩ := row_form hA
              generalize hvn : ((Xi.take i).map atoiV).length + 1 = vn at *
              have HA := Lib.hid hA
              have HVN := Lib.hid hvn
              have HBA := Lib.hid hbA
              clear hA hbA hvn
              have HC10 := Lib.hid ((HBA.out.block cb (show cb < Bi by rw [HBQi.out]; exact (Array.getElem?_eq_some_iff.1 HCb6.out).1)).trans ((HBwb.out.block cb HCL.out).trans HCI.out))
              refine hK.out _ _ ?_ (fun hHeld => ?_)
              · trivial
              clear hK K
              try simp only [Act.put, Qa, Qb, Qc, Qd, Qe, Qf]
              refine Qt 6 (fun _ => ?_)
              have cf4 := free_of HC10.out 2
              have e44 := (cells3 HC10.out).2.2
              refine Qr 7 fun K hK => ?_
              go_simp
              have HC11 := Lib.hid (heap_setCell_same _ cb 2 _ _ (.slice ua vn uk) HC10.out)
              refine hK.out _ _ ?_ (fun hHeld => ?_)
              · trivial
              clear hK K
              try simp only [Act.put, Qa, Qb, Qc, Qd, Qe, Qf]
              refine wpAnyH_done (by kernel_rfl) ?_ _
              have HE11 := Lib.hid (((HEX.out.below HBwb.out).base (by rw [HBQi.out]; exact Nat.le_refl _) HBA.out).set 2 (.slice ua vn uk))
              have HB11 := Lib.hid ((((HBR.out.trans (HBwb.out.mono HBR.out.size))).trans (HBA.out.mono (by rw [HBQi.out]; exact HBb6.out.size))).setCell (p := ⟨cb, 2, none⟩) HZC.out.2.2 (.slice ua vn uk))
              have HO11 := Lib.hid (show Gr.OwnI (w10.setCell ⟨cb, 2, none⟩ (.slice ua vn uk)) Bi 3 (.slice ua vn uk) ((Xi.take (i + 1)).map atoiV) by
                have e : (Xi.take (i + 1)).map atoiV = (Xi.take i).map atoiV ++ [atoiV q] := by rw [List.take_add_one, HQ.out, List.map_append]; rfl
                unfold Gr.OwnI
                have e2 : Gr.intsL ((Xi.take i).map atoiV ++ [atoiV q]) = Gr.intsL ((Xi.take i).map atoiV) ++ [.int .i64 (atoiV q)] := by unfold Gr.intsL; rw [List.map_append]; rfl
                rw [e, e2, List.length_append]
                have hvn : ((Xi.take i).map atoiV).length + [atoiV q].length = vn := HVN.out
                rw [hvn]
                refine ownsRow_setCell_other HA.out (fun e => ?_) _
                have h1 := (World.ownsRow.lt HA.out _ e).1
                have h2 : cb < Bi := by rw [HBQi.out]; exact (Array.getElem?_eq_some_iff.1 HCb6.out).1
                exact absurd h2 (Nat.not_lt.2 h1))
              clear c0 c1 c2 cf4 e44
              have hN17 := HXNi.out
              go_wp2_with fail
              go_roundg (Ni - i)
              case measure => have := HIK.out; omega
              case rel => exact ⟨i + 1, _, by have := HIK.out; omega, by omega, by go_num, HC11, HO11.out, HE11.out, HB11.out⟩
            · go_simp
              go_at_call 56
              refine (number_any q (by have := HQL.out; omega) (HL.out.below (HBR.out.trans (HB07.out.mono HBR.out.size)))).mono ?_
              rintro e wa ⟨rfl, hb⟩
              have HBwa := Lib.hid (HB07.out.trans (hb.mono HB07.out.size))
              clear hb
              try go_wp2_with fail
              refine hK.out _ _ ?_ (fun hHeld => ?_)
              · trivial
              clear hK K
              try simp only [Act.put, Qa, Qb, Qc, Qd, Qe, Qf]
              refine wpAnyH_ready (rs := [1, 4]) (by kernel_rfl) (by simp) ?_
              refine AllReadyH.cons rfl (fun K hK => ?_) (AllReadyH.cons rfl (fun K hK => ?_) AllReadyH.nil)
              · go_simp
                have ek := Kc HBwa.out HCL.out c2
                try go_simp
                refine hK.out _ _ ?_ (fun hHeld => ?_)
                · trivial
                clear hK K
                try simp only [Act.put, Qa, Qb, Qc, Qd, Qe, Qf]
                clear ek
                refine Qr 4 fun K hK => ?_
                go_simp
                have HBwb := Lib.hid (HBwa.out.alloc HBwa.out.size (.cells #[.int .i64 (atoiV q)] 3))
                refine hK.out _ _ ?_ (fun hHeld => ?_)
                · trivial
                clear hK K
                try simp only [Act.put, Qa, Qb, Qc, Qd, Qe, Qf]
                have HOb := Lib.hid (HOW.out.below HBwb.out)
                have HBB := Lib.hid (show Bi ≤ wr.heap.size by rw [HBQi.out]; exact HEX.out.1)
                refine Qr 5 fun K hK => ?_
                refine app1 _ (by rfl) _ _ 42 (by rfl) Bi 3 j0 _ 1 8 Tryz.underlying42 hj hu0 hu1 hu2 (by kernel_rfl) (by decide) v ((Xi.take i).map atoiV).length (Gr.intsL ((Xi.take i).map atoiV)) (by rfl) HOb.out wa.heap.size [.int .i64 (atoiV q)] 3 (by rfl) (heap_alloc_new wa _) rfl (by intro u hu; simp at hu; subst hu; rfl) (by have := HXNi.out; unfold maxLen; simp; omega) (by have := HXNi.out; simp; omega) (Nat.le_trans HBB.out HBwb.out.size) ?_
                intro v2 w10 hA hbA _
                obtain ⟨ua, uk, rfl⟩ := row_form hA
                generalize hvn : ((Xi.take i).map atoiV).length + 1 = vn at *
                have HA := Lib.hid hA
                have HVN := Lib.hid hvn
                have HBA := Lib.hid hbA
                clear hA hbA hvn
                have HC10 := Lib.hid ((HBA.out.block cb (show cb < Bi by rw [HBQi.out]; exact (Array.getElem?_eq_some_iff.1 HCb6.out).1)).trans ((HBwb.out.block cb HCL.out).trans HCI.out))
                refine hK.out _ _ ?_ (fun hHeld => ?_)
                · trivial
                clear hK K
                try simp only [Act.put, Qa, Qb, Qc, Qd, Qe, Qf]
                refine Qt 6 (fun _ => ?_)
                have cf4 := free_of HC10.out 2
                have e44 := (cells3 HC10.out).2.2
                refine Qr 7 fun K hK => ?_
                go_simp
                have HC11 := Lib.hid (heap_setCell_same _ cb 2 _ _ (.slice ua vn uk) HC10.out)
                refine hK.out _ _ ?_ (fun hHeld => ?_)
                · trivial
                clear hK K
                try simp only [Act.put, Qa, Qb, Qc, Qd, Qe, Qf]
                refine wpAnyH_done (by kernel_rfl) ?_ _
                have HE11 := Lib.hid (((HEX.out.below HBwb.out).base (by rw [HBQi.out]; exact Nat.le_refl _) HBA.out).set 2 (.slice ua vn uk))
                have HB11 := Lib.hid ((((HBR.out.trans (HBwb.out.mono HBR.out.size))).trans (HBA.out.mono (by rw [HBQi.out]; exact HBb6.out.size))).setCell (p := ⟨cb, 2, none⟩) HZC.out.2.2 (.slice ua vn uk))
                have HO11 := Lib.hid (show Gr.OwnI (w10.setCell ⟨cb, 2, none⟩ (.slice ua vn uk)) Bi 3 (.slice ua vn uk) ((Xi.take (i + 1)).map atoiV) by
                  have e : (Xi.take (i + 1)).map atoiV = (Xi.take i).map atoiV ++ [atoiV q] := by rw [List.take_add_one, HQ.out, List.map_append]; rfl
                  unfold Gr.OwnI
                  have e2 : Gr.intsL ((Xi.take i).map atoiV ++ [atoiV q]) = Gr.intsL ((Xi.take i).map atoiV) ++ [.int .i64 (atoiV q)] := by unfold Gr.intsL; rw [List.map_append]; rfl
                  rw [e, e2, List.length_append]
                  have hvn : ((Xi.take i).map atoiV).length + [atoiV q].length = vn := HVN.out
                  rw [hvn]
                  refine ownsRow_setCell_other HA.out (fun e => ?_) _
                  have h1 := (World.ownsRow.lt HA.out _ e).1
                  have h2 : cb < Bi := by rw [HBQi.out]; exact (Array.getElem?_eq_some_iff.1 HCb6.out).1
                  exact absurd h2 (Nat.not_lt.2 h1))
                clear c0 c1 c2 cf4 e44
                have hN17 := HXNi.out
                go_wp2_with fail
                go_roundg (Ni - i)
                case measure => have := HIK.out; omega
                case rel => exact ⟨i + 1, _, by have := HIK.out; omega, by omega, by go_num, HC11, HO11.out, HE11.out, HB11.out⟩
              · go_simp
                have HBwb := Lib.hid (HBwa.out.alloc HBwa.out.size (.cells #[.int .i64 (atoiV q)] 3))
                refine hK.out _ _ ?_ (fun hHeld => ?_)
                · trivial
                clear hK K
                try simp only [Act.put, Qa, Qb, Qc, Qd, Qe, Qf]
                refine Qr 1 fun K hK => ?_
                go_simp
                have ek := Kc HBwb.out HCL.out c2
                try go_simp
                refine hK.out _ _ ?_ (fun hHeld => ?_)
                · trivial
                clear hK K
                try simp only [Act.put, Qa, Qb, Qc, Qd, Qe, Qf]
                clear ek
                have HOb := Lib.hid (HOW.out.below HBwb.out)
                have HBB := Lib.hid (show Bi ≤ wr.heap.size by rw [HBQi.out]; exact HEX.out.1)
                refine Qr 5 fun K hK => ?_
                refine app1 _ (by rfl) _ _ 42 (by rfl) Bi 3 j0 _ 1 8 Tryz.underlying42 hj hu0 hu1 hu2 (by kernel_rfl) (by decide) v ((Xi.take i).map atoiV).length (Gr.intsL ((Xi.take i).map atoiV)) (by rfl) HOb.out wa.heap.size [.int .i64 (atoiV q)] 3 (by rfl) (heap_alloc_new wa _) rfl (by intro u hu; simp at hu; subst hu; rfl) (by have := HXNi.out; unfold maxLen; simp; omega) (by have := HXNi.out; simp; omega) (Nat.le_trans HBB.out HBwb.out.size) ?_
                intro v2 w10 hA hbA _
                obtain ⟨ua, uk, rfl⟩ := row_form hA
                generalize hvn : ((Xi.take i).map atoiV).length + 1 = vn at *
                have HA := Lib.hid hA
                have HVN := Lib.hid hvn
                have HBA := Lib.hid hbA
                clear hA hbA hvn
                have HC10 := Lib.hid ((HBA.out.block cb (show cb < Bi by rw [HBQi.out]; exact (Array.getElem?_eq_some_iff.1 HCb6.out).1)).trans ((HBwb.out.block cb HCL.out).trans HCI.out))
                refine hK.out _ _ ?_ (fun hHeld => ?_)
                · trivial
                clear hK K
                try simp only [Act.put, Qa, Qb, Qc, Qd, Qe, Qf]
                refine Qt 6 (fun _ => ?_)
                have cf4 := free_of HC10.out 2
                have e44 := (cells3 HC10.out).2.2
                refine Qr 7 fun K hK => ?_
                go_simp
                have HC11 := Lib.hid (heap_setCell_same _ cb 2 _ _ (.slice ua vn uk) HC10.out)
                refine hK.out _ _ ?_ (fun hHeld => ?_)
                · trivial
                clear hK K
                try simp only [Act.put, Qa, Qb, Qc, Qd, Qe, Qf]
                refine wpAnyH_done (by kernel_rfl) ?_ _
                have HE11 := Lib.hid (((HEX.out.below HBwb.out).base (by rw [HBQi.out]; exact Nat.le_refl _) HBA.out).set 2 (.slice ua vn uk))
                have HB11 := Lib.hid ((((HBR.out.trans (HBwb.out.mono HBR.out.size))).trans (HBA.out.mono (by rw [HBQi.out]; exact HBb6.out.size))).setCell (p := ⟨cb, 2, none⟩) HZC.out.2.2 (.slice ua vn uk))
                have HO11 := Lib.hid (show Gr.OwnI (w10.setCell ⟨cb, 2, none⟩ (.slice ua vn uk)) Bi 3 (.slice ua vn uk) ((Xi.take (i + 1)).map atoiV) by
                  have e : (Xi.take (i + 1)).map atoiV = (Xi.take i).map atoiV ++ [atoiV q] := by rw [List.take_add_one, HQ.out, List.map_append]; rfl
                  unfold Gr.OwnI
                  have e2 : Gr.intsL ((Xi.take i).map atoiV ++ [atoiV q]) = Gr.intsL ((Xi.take i).map atoiV) ++ [.int .i64 (atoiV q)] := by unfold Gr.intsL; rw [List.map_append]; rfl
                  rw [e, e2, List.length_append]
                  have hvn : ((Xi.take i).map atoiV).length + [atoiV q].length = vn := HVN.out
                  rw [hvn]
                  refine ownsRow_setCell_other HA.out (fun e => ?_) _
                  have h1 := (World.ownsRow.lt HA.out _ e).1
                  have h2 : cb < Bi := by rw [HBQi.out]; exact (Array.getElem?_eq_some_iff.1 HCb6.out).1
                  exact absurd h2 (Nat.not_lt.2 h1))
                clear c0 c1 c2 cf4 e44
                have hN17 := HXNi.out
                go_wp2_with fail
                go_roundg (Ni - i)
                case measure => have := HIK.out; omega
                case rel => exact ⟨i + 1, _, by have := HIK.out; omega, by omega, by go_num, HC11, HO11.out, HE11.out, HB11.out⟩
          · have hin : i = Ni := by omega
            subst hin
            have e : (Xi.take i).map atoiV = gPI x3 := by rw [List.take_of_length_le (by rw [← HNi.out]; exact Nat.le_refl _)]; exact HPI.out.symm
            have HOI := Lib.hid (e ▸ HOW.out)
            have HOEI := Lib.hid (row_ex HOE6.out HEX.out (fun e => by have h1 := (World.ownsRow.lt HOE.out _ e).1; have h2 := HBb.out; omega))
            have HZI := Lib.hid ((HEX.out.2 z (Array.getElem?_eq_some_iff.1 HZb6.out).1 (by have := HZC.out; omega)).trans HZb6.out)
            have HBI := Lib.hid (show z < Bi ∧ w.heap.size ≤ Bi by rw [HBQi.out]; exact ⟨(Array.getElem?_eq_some_iff.1 HZb6.out).1, HBb6.out.size⟩)
            clear e
            obtain ⟨ua, uk, rfl⟩ := row_form HOI.out
            generalize hni : (gPI x3).length = ni at *
            go_upto_region 16 with fail
            obtain ⟨d0, d1, d2⟩ := cells3 HCI.out
            obtain ⟨z0, z1, z2⟩ := cells3 HZI.out
            have zf0 := free_of HZI.out 0
            have zf1 := free_of HZI.out 1
            have zf2 := free_of HZI.out 2
            have HR5 := Lib.hid (cells3 (heap_setCell_same _ z 2 _ _ (.slice ua ni uk) (heap_setCell_same _ z 1 _ _ (.slice va ne vk) (heap_setCell_same _ z 0 _ _ (.int .i64 n) HZI.out))))
            have HNI := Lib.hid hni
            clear hni
            go_wp2_with fail
            obtain ⟨r0, r1, r2⟩ := HR5.out
            have e := HG0.out
            subst e
            have hni := HNI.out
            have hne := HNL.out
            subst hni hne
            exact bodyPost_ret (v := .agg #[.int .i64 n, .slice va (gPE x2).length vk, .slice ua (gPI x3).length uk]) (by simp [results, Tryz.results41, go_sem, r0, r1, r2]) rfl ⟨va, vk, ua, uk, rfl, Gr.Own.rd (base := Be) (T := 70) (row_set3 HOEI.out HBb.out.2.1 _ _ _) HWE.out, Gr.OwnI.rd (base := Bi) (T := 3) (row_set3 HOI.out HBI.out.1 _ _ _) (by intro x hx; obtain ⟨q, _, rfl⟩ := List.mem_map.1 hx; exact atoiV_bd q), row_new HOE.out HBb.out.1, row_new HOI.out HBI.out.2, (((HBR.out).setCell (p := ⟨z, 0, none⟩) HZC.out.2.1 _).setCell (p := ⟨z, 1, none⟩) HZC.out.2.1 _).setCell (p := ⟨z, 2, none⟩) HZC.out.2.1 _⟩
end Go.Proofs.YtdbaacalfbbdiaaGreatDoor.Sc
