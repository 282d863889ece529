/-
  YtlkljeedlkbkgaaGreatDoorClUpdate
  YtlkljeedlkbkgaaGreatDoorClUpdateOk
-/
import Derived.Test.YtlkljeedlkbkgaaGreatDoorClAdvance
import Derived.Test.YtlkljeedlkbkgaaGreatDoorJoined14
import Derived.Test.YtlkljeedlkbkgaaGreatDoorJoined8
namespace Go.Proofs.YtlkljeedlkbkgaaGreatDoor.Cl
open Go.RowKit Gr
set_option linter.unusedVariables false
def changeS : ByteArray := { data := #[99, 104, 97, 110, 103, 101] }
theorem fit_sum {B C : List Batch.Ch} (hB : HoldP B) (hC : Batch.RightP C) {c : Batch.Ch} (hc : c ∈ C) : -9223372036854775808 ≤ Batch.tot B c.p c.t + c.d ∧ Batch.tot B c.p c.t + c.d ≤ 9223372036854775807 := by
  have h1 := hB.tot c.p c.t
  have h2 := hC.d c hc
  omega
theorem packR_wf {l : List Batch.Ch} (hw : ∀ x ∈ l, x.Wf) : ∀ x ∈ Batch.packR l, x.Wf := by
  unfold Batch.packR
  split
  · simp
  · unfold Batch.sumsR
    split
    · simp
    · exact Batch.sumL_wf hw
theorem packR_len {l : List Batch.Ch} (h : Batch.packE l = 0) : (Batch.packR l).length ≤ 16 := by
  have h16 : ¬ 16 < l.length := fun e => by unfold Batch.packE at h; rw [if_pos e] at h; exact absurd h (by decide)
  have : (Batch.packR l).length ≤ l.length := by
    unfold Batch.packR
    split
    · simp
    · unfold Batch.sumsR
      split
      · simp
      · exact Batch.sumL_length l
  omega
theorem fit_port {C : List Batch.Ch} (hC : Batch.RightP C) {c : Batch.Ch} (hc : c ∈ C) : 0 ≤ c.p := (hC.fit c hc).1
set_option maxRecDepth 1000000 in
set_option maxHeartbeats 16000000 in
theorem update_pack {w : World} {vh vb vp vl : Value} {H : List Ed} {B l : List Batch.Ch} {m base : Nat} {M : Nat → Nat → Int} (ho : OwnAt w vh vb H B) (hl : H.length ≤ 10000) (hlb : B.length ≤ 10000) (hB : HoldP B) (hv : Batch.Sl w vl l) (hk : Batch.packE l ≠ 0) :
    Calls Tryz.prog 20 #[.agg #[vh, vb], vp, vl] w fun e w' => e = .returned (.tuple #[.agg #[vh, vb], .slice none 0 0, Fault.errnoV (Batch.packE l)]) ∧ Below w.heap.size w w' := by
  have HOW := Lib.hid ho
  have HLV := Lib.hid hv
  obtain ⟨ao, cap, rfl, _⟩ := ho.hands
  obtain ⟨ab, capb, rfl, _⟩ := ho.held
  obtain ⟨al, capl, rfl, _⟩ := hv
  obtain ⟨w0, hw0⟩ : ∃ w0, w0 = (w.alloc (.cells #[.slice ao H.length cap, .slice ab B.length capb] 47)).alloc (.cells #[.slice none 0 0, .slice none 0 0] 47) := ⟨_, rfl⟩
  obtain ⟨hb0, hs0, hx0, hy0⟩ := start2 w _ _ hw0
  have HX := Lib.hid hx0
  have HY := Lib.hid hy0
  have HB0 := Lib.hid hb0
  have HS0 := Lib.hid hs0
  have HPK := Lib.hid (Batch.pack_any (w := w0) (HLV.out.below hb0))
  clear hb0 hs0 hx0 hy0 ho
  obtain ⟨pk, hpk⟩ : ∃ z, z = Batch.packE l := ⟨_, rfl⟩
  rw [← hpk] at hk HPK ⊢
  have hk2 : (pk != 0) = true := by rw [bne_iff_ne]; exact hk
  clear hpk hk
  go_enter Tryz.func20, Tryz.ntmps20
  go_wp2_with fail
  go_at_call 56
  rw [← hw0]
  clear hw0
  refine HPK.out.mono ?_
  rintro e w1 ⟨v1, rfl, hown, hb⟩
  have hlt0 : w.heap.size < w0.heap.size := by have := HS0.out; omega
  have hlt1 : w.heap.size + 1 < w0.heap.size := by have := HS0.out; omega
  have HX1 := Lib.hid ((hb.block _ hlt0).trans HX.out)
  have HY1 := Lib.hid ((hb.block _ hlt1).trans HY.out)
  have HB1 := Lib.hid (HB0.out.trans (hb.mono HB0.out.size))
  have hs1 := hb.size
  have hlx : w.heap.size < w1.heap.size := by omega
  have hly : w.heap.size + 1 < w1.heap.size := by omega
  obtain ⟨x0, x1, _⟩ := pair_cells HX1.out
  obtain ⟨y0, y1, yf⟩ := pair_cells HY1.out
  have yf0 := yf 0
  have yf1 := yf 1
  have HR := Lib.hid (pair_cells (heap_setCell_same _ (w.heap.size + 1) 1 _ _ (.slice ab B.length capb) (heap_setCell_same w1 (w.heap.size + 1) 0 _ _ (.slice ao H.length cap) HY1.out)))
  clear hb hlt0 hlt1 hs1 yf hown
  go_wp2_with fail
  obtain ⟨r0, r1, _⟩ := HR.out
  refine bodyPost_ret (v := .tuple #[.agg #[.slice ao H.length cap, .slice ab B.length capb], .slice none 0 0, Fault.errnoV pk]) (by simp [results, Tryz.results20, go_sem, r0, r1]) rfl ⟨rfl, ?_⟩
  exact (HB1.out.setCell (p := ⟨w.heap.size + 1, 0, none⟩) (Nat.le_succ _) _).setCell (p := ⟨w.heap.size + 1, 1, none⟩) (Nat.le_succ _) _
set_option maxRecDepth 1000000 in
set_option maxHeartbeats 16000000 in
theorem update_bad {w : World} {vh vb vp vl : Value} {H : List Ed} {B l : List Batch.Ch} {m base : Nat} {M : Nat → Nat → Int} {n0 : Nat} {k : Int} {c0 : Batch.Ch} (ho : OwnAt w vh vb H B) (hl : H.length ≤ 10000) (hlb : B.length ≤ 10000) (hB : HoldP B) (hv : Batch.Sl w vl l) (hk : Batch.packE l = 0) (hM : Mat w base vp m M) (hMU : MU M m) (hm : m ≤ 64) (hat : (Batch.packR l)[n0]? = some c0) (hu : upE B (allL H B) M m c0 = k) (hk0 : k ≠ 0) (hok : ∀ j c, j < n0 → (Batch.packR l)[j]? = some c → upE B (allL H B) M m c = 0) :
    Calls Tryz.prog 20 #[.agg #[vh, vb], vp, vl] w fun e w' => ∃ ve, e = .returned (.tuple #[.agg #[vh, vb], .slice none 0 0, ve]) ∧ ErrIs w' ve ([(changeS, (n0 : Int))], k) ∧ Below w.heap.size w w' := by
  have HOW := Lib.hid ho
  have HLV := Lib.hid hv
  have HM := Lib.hid hM
  have hBr := hB.bag.right.2
  have hu0 : (Batch.packR l)[n0]? = some c0 ∧ upE B (allL H B) M m c0 = k ∧ ∀ j c, j < n0 → (Batch.packR l)[j]? = some c → upE B (allL H B) M m c = 0 := ⟨hat, hu, hok⟩
  have HU := Lib.hid hu0
  have HK0 := Lib.hid hk0
  clear hat hu hok hu0 hM hk0
  obtain ⟨ao, cap, rfl, _⟩ := ho.hands
  obtain ⟨ab, capb, rfl, _⟩ := ho.held
  obtain ⟨al, capl, rfl, _⟩ := hv
  obtain ⟨w0, hw0⟩ : ∃ w0, w0 = (w.alloc (.cells #[.slice ao H.length cap, .slice ab B.length capb] 47)).alloc (.cells #[.slice none 0 0, .slice none 0 0] 47) := ⟨_, rfl⟩
  obtain ⟨hb0, hs0, hx0, hy0⟩ := start2 w _ _ hw0
  have HX := Lib.hid hx0
  have HY := Lib.hid hy0
  have HB0 := Lib.hid hb0
  have HS0 := Lib.hid hs0
  have HPK := Lib.hid (Batch.pack_any (w := w0) (HLV.out.below hb0))
  clear hb0 hs0 hx0 hy0 ho
  go_enter Tryz.func20, Tryz.ntmps20
  go_wp2_with fail
  go_at_call 56
  rw [← hw0]
  clear hw0
  refine HPK.out.mono ?_
  rintro e w1 ⟨v1, rfl, hown, hb⟩
  rw [hk]
  have HCR := Lib.hid (Batch.pack_right HLV.out.wf hk)
  have HCW := Lib.hid (packR_wf HLV.out.wf)
  have HCL := Lib.hid (packR_len hk)
  generalize hCe : Batch.packR l = C at hown HCR HCW HCL HU
  have HCE := Lib.hid hCe
  clear hCe
  obtain ⟨av, cv, rfl⟩ := formB hown
  have HC1 := Lib.hid hown
  have hcl : C.length ≤ 16 := HCL.out
  have hlt0 : w.heap.size < w0.heap.size := by have := HS0.out; omega
  have hlt1 : w.heap.size + 1 < w0.heap.size := by have := HS0.out; omega
  have HX1 := Lib.hid ((hb.block _ hlt0).trans HX.out)
  have HY1 := Lib.hid ((hb.block _ hlt1).trans HY.out)
  have HB1 := Lib.hid (HB0.out.trans (hb.mono HB0.out.size))
  have hs1 := hb.size
  have hlx : w.heap.size < w1.heap.size := by omega
  have hly : w.heap.size + 1 < w1.heap.size := by omega
  obtain ⟨x0, x1, _⟩ := pair_cells HX1.out
  clear hb hlt0 hlt1 hs1 hown hk
  go_wp2_with fail
  go_at_call 15
  refine (all_any (HOW.out.hands.below HB1.out) (HOW.out.held.below HB1.out) hl hlb).mono ?_
  rintro e w2 ⟨va, rfl, hoa, hb⟩
  have HA2 := Lib.hid (hoa.sl (all_wf HOW.out.hands.wf HOW.out.held.wf))
  obtain ⟨aa, ca, hva⟩ := formB hoa
  generalize allL H B = A at HA2 HU hva
  subst hva
  have HX2 := Lib.hid ((hb.block _ hlx).trans HX1.out)
  have HY2 := Lib.hid ((hb.block _ hly).trans HY1.out)
  have HB2 := Lib.hid (HB1.out.trans (hb.mono HB1.out.size))
  have HC2 := Lib.hid (HC1.out.below hb)
  have hs2 := hb.size
  have hlx2 : w.heap.size < w2.heap.size := by omega
  have hly2 : w.heap.size + 1 < w2.heap.size := by omega
  clear hb hoa x0 x1 hs2
  go_wp2_with fail
  have hlen : C.length ≤ 9223372036854775807 := by omega
  go_loopg [30] C.length (fun k s30 wr => ∃ i : Nat, i + k = C.length ∧ s30 = .int .i64 i ∧ (i ≤ n0) ∧ Below w2.heap.size w2 wr)
  case atStart => exact ⟨0, by omega, rfl, by omega, Below.refl _ _⟩
  case round =>
    obtain ⟨i, hik, rfl, hile, hbw⟩ := hrel
    have HIK := Lib.hid hik
    have HBW := Lib.hid hbw
    have HLE := Lib.hid hile
    have hbs : w2.heap.size ≤ wr.heap.size := hbw.size
    have hi0 : (0 : Int) ≤ (i : Int) := Int.natCast_nonneg _
    clear hik hbw hile
    have hn0 : n0 < C.length := (List.getElem?_eq_some_iff.1 HU.out.1).1
    have hlt : i < C.length := by have := HLE.out; omega
    obtain ⟨c, hc, hcm⟩ := Batch.at_of hlt
    obtain ⟨gc, cc', hvc, hgc1, hgc2, _⟩ := HC2.out.form.resolve_left (fun h => by rw [h.1] at hlt; simp at hlt)
    simp only [Value.slice.injEq] at hvc
    obtain ⟨rfl, _, rfl⟩ := hvc
    obtain ⟨c0, c1, c2⟩ := (HC2.out.at hc).below HBW.out hgc2
    obtain ⟨x0, x1, _⟩ := pair_cells ((HBW.out.block _ hlx2).trans HX2.out)
    have hi1 : (i : Int) < (C.length : Int) := by omega
    have hxr : w.heap.size < wr.heap.size := by omega
    have hgr : gc < wr.heap.size := by omega
    have HCI := Lib.hid hc
    have HLT := Lib.hid hlt
    have HBT := Lib.hid (HB2.out.trans (HBW.out.mono HB2.out.size))
    obtain ⟨w3, hw3⟩ : ∃ w3, w3 = wr.alloc (.cells #[.int .i64 c.p, .int .u64 c.t, .int .i64 c.d] 72) := ⟨_, rfl⟩
    have hb3 : Below w2.heap.size w2 w3 := by rw [hw3]; exact HBW.out.alloc hbs _
    have HBT3 := Lib.hid (HB2.out.trans (hb3.mono HB2.out.size))
    have HB3 := Lib.hid hb3
    have HWR := Lib.hid (wrongC_any (w := w3) (c := c) (HOW.out.held.below HBT3.out) hBr (by omega) (HA2.out.below hb3) (HM.out.below HBT3.out) hMU hm (HCW.out c hcm) (fit_port HCR.out hcm) (fit_sum hB HCR.out hcm))
    obtain ⟨cp, ct, cd⟩ := c
    simp only at c0 c1 c2 hw3
    by_cases hin : i < n0
    · have HE := Lib.hid (HU.out.2.2 i _ hin HCI.out)
      have HIN := Lib.hid hin
      clear hc hcm hlt hin hb3 hn0
      go_wp2_with fail
      go_at_call 57
      rw [← hw3]
      clear hw3
      refine HWR.out.mono ?_
      rw [HE.out]
      rintro e w4 ⟨rfl, hb4⟩
      have HB4 := Lib.hid (HB3.out.trans (hb4.mono HB3.out.size))
      clear hb4 c0 c1 c2 x0 x1
      go_wp2_with fail
      go_roundg (gk - 1)
      case measure => have := HIK.out; have := HLT.out; omega
      case rel => exact ⟨i + 1, by have := HIK.out; have := HLT.out; omega, by go_num, by have := HIN.out; omega, HB4.out⟩
    · obtain rfl : i = n0 := by have := HLE.out; omega
      have hce := HU.out.1
      rw [hc] at hce
      obtain rfl := Option.some.inj hce
      have HE := Lib.hid HU.out.2.1
      have HCH := Lib.hid (fun W => at_chain (w := W) (v := .iface 61 (.int .i64 k)) (b := Fault.errnoV k) (l := []) changeS (i : Int) rfl (.inl ⟨k, rfl⟩))
      have hk2 : (k != 0) = true := by rw [bne_iff_ne]; exact HK0.out
      clear hc hcm hlt hin hb3 hn0
      go_wp2_with fail
      go_at_call 57
      rw [← hw3]
      clear hw3
      refine HWR.out.mono ?_
      rw [HE.out]
      rintro e w4 ⟨rfl, hb4⟩
      have hb24 : Below w2.heap.size w2 w4 := HB3.out.trans (hb4.mono HB3.out.size)
      have HB4 := Lib.hid (HB2.out.trans (hb24.mono HB2.out.size))
      have HY4 := Lib.hid ((hb24.block _ hly2).trans HY2.out)
      have hs4 := hb24.size
      have hl1 : w.heap.size < w4.heap.size := by omega
      have hl2 : w.heap.size + 1 < w4.heap.size := by omega
      clear c0 c1 c2 x0 x1
      obtain ⟨x0, x1, _⟩ := pair_cells ((hb24.block _ hlx2).trans HX2.out)
      clear hb4 hb24 hs4
      go_upto_region 10 with fail
      go_region_held3 (fun w' => w'.cell? ⟨w.heap.size, 0, none⟩ = some (.slice ao H.length cap) ∧ w'.cell? ⟨w.heap.size, 1, none⟩ = some (.slice ab B.length capb))
        (first
          | go_keep
          | (go_split_ands
             refine ⟨?_, ?_⟩ <;> (rw [hcb.cell (by simp; omega)]; assumption)))
        ((go_at_call 58; refine (HCH.out _).mono ?_; rintro e w5 ⟨blk, rfl, hch, hcb⟩; obtain ⟨y0, y1, yf⟩ := pair_cells ((hcb.block (w.heap.size + 1) (by simp; omega)).trans HY4.out); have yf0 := yf 0; have yf1 := yf 1; clear yf))
      go_wp2_with fail
      have hb45 : Below w4.heap.size w4 w5 := (below_drewN (Below.refl w4.heap.size w4) 1).trans hcb
      obtain ⟨r0, r1, _⟩ := pair_cells (heap_setCell_same _ (w.heap.size + 1) 1 _ _ (.slice ab B.length capb) (heap_setCell_same w5 (w.heap.size + 1) 0 _ _ (.slice ao H.length cap) ((hb45.block _ hl2).trans HY4.out)))
      refine bodyPost_ret (v := .tuple #[.agg #[.slice ao H.length cap, .slice ab B.length capb], .slice none 0 0, Fault.placedV blk]) (by simp [results, Tryz.results20, go_sem, r0, r1]) rfl ⟨_, rfl, ?_, ?_⟩
      · exact err_set (ErrIs.some HK0.out hch) y0 _ _
      · exact ((HB4.out.trans (hb45.mono HB4.out.size)).setCell (p := ⟨w.heap.size + 1, 0, none⟩) (Nat.le_succ _) _).setCell (p := ⟨w.heap.size + 1, 1, none⟩) (Nat.le_succ _) _
end Go.Proofs.YtlkljeedlkbkgaaGreatDoor.Cl
namespace Go.Proofs.YtlkljeedlkbkgaaGreatDoor.Cl
open Go.RowKit Gr
set_option linter.unusedVariables false
theorem upE_zero {B A : List Batch.Ch} {M : Nat → Nat → Int} {m : Nat} {c : Batch.Ch} (h : upE B A M m c = 0) : c.p < (m : Int) ∧ (0 < c.d → letsB M m A c = true) ∧ 0 ≤ Batch.tot B c.p c.t + c.d ∧ Batch.tot B c.p c.t + c.d ≤ 1125899906842624 := by
  unfold upE at h
  split at h
  · exact absurd h (by decide)
  · split at h
    · exact absurd h (by decide)
    · split at h
      · exact absurd h (by decide)
      · rename_i h1 h2 h3
        refine ⟨by omega, fun hd => ?_, by omega, by omega⟩
        cases e : letsB M m A c
        · exact absurd (.inl ⟨hd, e⟩) h2
        · rfl
theorem apply_zero {B C A : List Batch.Ch} {M : Nat → Nat → Int} {m : Nat} (hB : HoldP B) (hC : Batch.RightP C) (hwB : ∀ x ∈ B, x.Wf) (hwC : ∀ x ∈ C, x.Wf) (h : ∀ c ∈ C, upE B A M m c = 0) : Batch.applyE B C = 0 := by
  have hn : Batch.anyNeg B C = false := Batch.anyNeg_no fun x hx => by have := (upE_zero (h x hx)).2.2.1; omega
  have ho : Batch.overK (B ++ C) = false := by
    rw [← Batch.anyOver_is hB.bag hC hwB hwC hn]
    cases e : Batch.anyOver B C
    · rfl
    · obtain ⟨x, hx, e⟩ := List.any_eq_true.1 e
      have h1 : 576460752303423488 < Batch.tot B x.p x.t + x.d := of_decide_eq_true e
      have h2 := (upE_zero (h x hx)).2.2.2
      omega
  rw [(Batch.apply_not hn).1, (Batch.sums_ok ho).1]
set_option maxRecDepth 1000000 in
set_option maxHeartbeats 16000000 in
theorem update_ok {w : World} {vh vb vp vl : Value} {H : List Ed} {B l : List Batch.Ch} {m base : Nat} {M : Nat → Nat → Int} (ho : OwnAt w vh vb H B) (hl : H.length ≤ 10000) (hlb : B.length ≤ 10000) (hB : HoldP B) (hv : Batch.Sl w vl l) (hk : Batch.packE l = 0) (hM : Mat w base vp m M) (hMU : MU M m) (hm : m ≤ 64) (hok : ∀ c ∈ Batch.packR l, upE B (allL H B) M m c = 0) :
    Calls Tryz.prog 20 #[.agg #[vh, vb], vp, vl] w fun e w' => ∃ vh' vb' v, e = .returned (.tuple #[.agg #[vh', vb'], v, .nilIface]) ∧ Own w' w.heap.size 40 vh' H ∧ Batch.Own w' w.heap.size 72 vb' (Batch.applyR B (Batch.packR l)) ∧ Batch.Own w' w.heap.size 72 v (Batch.packR l) ∧ Below w.heap.size w w' := by
  have HOW := Lib.hid ho
  have HLV := Lib.hid hv
  have HM := Lib.hid hM
  have hBr := hB.bag.right.2
  have HU := Lib.hid hok
  have HHB := Lib.hid hB
  clear hok hM
  obtain ⟨ao, cap, rfl, _⟩ := ho.hands
  obtain ⟨ab, capb, rfl, _⟩ := ho.held
  obtain ⟨al, capl, rfl, _⟩ := hv
  obtain ⟨w0, hw0⟩ : ∃ w0, w0 = (w.alloc (.cells #[.slice ao H.length cap, .slice ab B.length capb] 47)).alloc (.cells #[.slice none 0 0, .slice none 0 0] 47) := ⟨_, rfl⟩
  obtain ⟨hb0, hs0, hx0, hy0⟩ := start2 w _ _ hw0
  have HX := Lib.hid hx0
  have HY := Lib.hid hy0
  have HB0 := Lib.hid hb0
  have HS0 := Lib.hid hs0
  have HPK := Lib.hid (Batch.pack_any (w := w0) (HLV.out.below hb0))
  clear hb0 hs0 hx0 hy0 ho
  go_enter Tryz.func20, Tryz.ntmps20
  go_wp2_with fail
  go_at_call 56
  rw [← hw0]
  clear hw0
  refine HPK.out.mono ?_
  rintro e w1 ⟨v1, rfl, hown, hb⟩
  rw [hk]
  have HCR := Lib.hid (Batch.pack_right HLV.out.wf hk)
  have HCW := Lib.hid (packR_wf HLV.out.wf)
  have HCL := Lib.hid (packR_len hk)
  generalize hCe : Batch.packR l = C at hown HCR HCW HCL HU
  have HCE := Lib.hid hCe
  clear hCe
  obtain ⟨av, cv, rfl⟩ := formB hown
  have HC1 := Lib.hid hown
  have hcl : C.length ≤ 16 := HCL.out
  have hlt0 : w.heap.size < w0.heap.size := by have := HS0.out; omega
  have hlt1 : w.heap.size + 1 < w0.heap.size := by have := HS0.out; omega
  have HX1 := Lib.hid ((hb.block _ hlt0).trans HX.out)
  have HY1 := Lib.hid ((hb.block _ hlt1).trans HY.out)
  have HB1 := Lib.hid (HB0.out.trans (hb.mono HB0.out.size))
  have hs1 := hb.size
  have hlx : w.heap.size < w1.heap.size := by omega
  have hly : w.heap.size + 1 < w1.heap.size := by omega
  obtain ⟨x0, x1, _⟩ := pair_cells HX1.out
  clear hb hlt0 hlt1 hs1 hown hk
  go_wp2_with fail
  go_at_call 15
  refine (all_any (HOW.out.hands.below HB1.out) (HOW.out.held.below HB1.out) hl hlb).mono ?_
  rintro e w2 ⟨va, rfl, hoa, hb⟩
  have HA2 := Lib.hid (hoa.sl (all_wf HOW.out.hands.wf HOW.out.held.wf))
  obtain ⟨aa, ca, hva⟩ := formB hoa
  generalize allL H B = A at HA2 HU hva
  subst hva
  have HX2 := Lib.hid ((hb.block _ hlx).trans HX1.out)
  have HY2 := Lib.hid ((hb.block _ hly).trans HY1.out)
  have HB2 := Lib.hid (HB1.out.trans (hb.mono HB1.out.size))
  have HC2 := Lib.hid (HC1.out.below hb)
  have hs2 := hb.size
  have hlx2 : w.heap.size < w2.heap.size := by omega
  have hly2 : w.heap.size + 1 < w2.heap.size := by omega
  clear hb hoa x0 x1 hs2
  go_wp2_with fail
  have hlen : C.length ≤ 9223372036854775807 := by omega
  go_loopg [30] C.length (fun k s30 wr => ∃ i : Nat, i + k = C.length ∧ s30 = .int .i64 i ∧ (True) ∧ Below w2.heap.size w2 wr)
  case atStart => exact ⟨0, by omega, rfl, trivial, Below.refl _ _⟩
  case round =>
    obtain ⟨i, hik, rfl, hile, hbw⟩ := hrel
    have HIK := Lib.hid hik
    have HBW := Lib.hid hbw
    have HLE := Lib.hid hile
    have hbs : w2.heap.size ≤ wr.heap.size := hbw.size
    have hi0 : (0 : Int) ≤ (i : Int) := Int.natCast_nonneg _
    clear hik hbw hile
    by_cases hlt : i < C.length
    · obtain ⟨c, hc, hcm⟩ := Batch.at_of hlt
      obtain ⟨gc, cc', hvc, hgc1, hgc2, _⟩ := HC2.out.form.resolve_left (fun h => by rw [h.1] at hlt; simp at hlt)
      simp only [Value.slice.injEq] at hvc
      obtain ⟨rfl, _, rfl⟩ := hvc
      obtain ⟨c0, c1, c2⟩ := (HC2.out.at hc).below HBW.out hgc2
      obtain ⟨x0, x1, _⟩ := pair_cells ((HBW.out.block _ hlx2).trans HX2.out)
      have hi1 : (i : Int) < (C.length : Int) := by omega
      have hxr : w.heap.size < wr.heap.size := by omega
      have hgr : gc < wr.heap.size := by omega
      have HCI := Lib.hid hc
      have HLT := Lib.hid hlt
      have HBT := Lib.hid (HB2.out.trans (HBW.out.mono HB2.out.size))
      obtain ⟨w3, hw3⟩ : ∃ w3, w3 = wr.alloc (.cells #[.int .i64 c.p, .int .u64 c.t, .int .i64 c.d] 72) := ⟨_, rfl⟩
      have hb3 : Below w2.heap.size w2 w3 := by rw [hw3]; exact HBW.out.alloc hbs _
      have HBT3 := Lib.hid (HB2.out.trans (hb3.mono HB2.out.size))
      have HB3 := Lib.hid hb3
      have HWR := Lib.hid (wrongC_any (w := w3) (c := c) (HOW.out.held.below HBT3.out) hBr (by omega) (HA2.out.below hb3) (HM.out.below HBT3.out) hMU hm (HCW.out c hcm) (fit_port HCR.out hcm) (fit_sum hB HCR.out hcm))
      obtain ⟨cp, ct, cd⟩ := c
      simp only at c0 c1 c2 hw3
      have HE := Lib.hid (HU.out _ hcm)
      clear hc hcm hlt hb3
      go_wp2_with fail
      go_at_call 57
      rw [← hw3]
      clear hw3
      refine HWR.out.mono ?_
      rw [HE.out]
      rintro e w4 ⟨rfl, hb4⟩
      have HB4 := Lib.hid (HB3.out.trans (hb4.mono HB3.out.size))
      clear hb4 c0 c1 c2 x0 x1
      go_wp2_with fail
      go_roundg (gk - 1)
      case measure => have := HIK.out; have := HLT.out; omega
      case rel => exact ⟨i + 1, by have := HIK.out; have := HLT.out; omega, by go_num, trivial, HB4.out⟩
    · have hd1 : decide ((i : Int) < (C.length : Int)) = false := decide_eq_false (by omega)
      have hd2 : decide (i < C.length) = false := decide_eq_false hlt
      have hae := apply_zero HHB.out HCR.out HOW.out.held.wf HCW.out HU.out
      have hapl : B.length + C.length ≤ 100000 := by omega
      have HBT := Lib.hid (HB2.out.trans (HBW.out.mono HB2.out.size))
      have HAP := Lib.hid (Batch.apply_any (w := wr) (HOW.out.held.below HBT.out) ((HC2.out.sl HCW.out).below HBW.out) HHB.out.bag.right HCR.out hapl)
      rw [hae] at HAP
      generalize hRe : Batch.applyR B C = R at HAP
      have HRE := Lib.hid hRe
      clear hRe
      obtain ⟨x0, x1, _⟩ := pair_cells ((HBW.out.block _ hlx2).trans HX2.out)
      clear hlt hae hapl
      go_wp2_with fail
      go_at_call 17
      refine HAP.out.mono ?_
      rintro e w5 ⟨vr, rfl, hor, hb5⟩
      obtain ⟨ar, cr, rfl⟩ := formB hor
      have hb25 : Below w2.heap.size w2 w5 := HBW.out.trans (hb5.mono hbs)
      have HB5 := Lib.hid (HB2.out.trans (hb25.mono HB2.out.size))
      have HX5 := Lib.hid ((hb25.block _ hlx2).trans HX2.out)
      have HY5 := Lib.hid ((hb25.block _ hly2).trans HY2.out)
      have HC5 := Lib.hid (HC2.out.below hb25)
      have HR5 := Lib.hid hor
      have hs5 := hb25.size
      have hly5 : w.heap.size + 1 < w5.heap.size := by omega
      have hwr : w.heap.size + 1 < wr.heap.size := by omega
      have hw0s := HS0.out
      clear x0 x1 hor hb5 hb25
      obtain ⟨x0, x1, _⟩ := pair_cells HX5.out
      have HW0 := Lib.hid hw0s
      clear hw0s
      go_wp2_with fail
      go_at_call 59
      refine (cloneH_any (HOW.out.hands.below HB5.out) (by omega)).mono ?_
      rintro e w6 ⟨vh6, rfl, hoh, hb6⟩
      obtain ⟨a6, c6, rfl⟩ := formH hoh
      have HY6 := Lib.hid ((hb6.block _ hly5).trans HY5.out)
      have HB6 := Lib.hid (HB5.out.trans (hb6.mono HB5.out.size))
      obtain ⟨y0, y1, yf⟩ := pair_cells HY6.out
      have yf0 := yf 0
      have yf1 := yf 1
      have HO6 := Lib.hid hoh
      have HR6 := Lib.hid (HR5.out.below hb6)
      have HC6 := Lib.hid (HC5.out.below hb6)
      have HRS := Lib.hid (pair_cells (heap_setCell_same _ (w.heap.size + 1) 1 _ _ (.slice ar R.length cr) (heap_setCell_same w6 (w.heap.size + 1) 0 _ _ (.slice a6 H.length c6) HY6.out)))
      clear yf hoh hb6 x0 x1
      go_wp2_with fail
      obtain ⟨r0, r1, _⟩ := HRS.out
      have hw0s := HW0.out
      refine bodyPost_ret (v := .tuple #[.agg #[.slice a6 H.length c6, .slice ar R.length cr], .slice (av) C.length cv, .nilIface]) (by simp [results, Tryz.results20, go_sem, r0, r1]) rfl ⟨_, _, _, rfl, ?_, ?_, ?_, ?_⟩
      · have h2 := World.ownsRow.lt HO6.out
        exact Own.mono (ownsRow_setCell_other (ownsRow_setCell_other HO6.out (fun e => by have h := (h2 _ e).1; dsimp only at h; omega) _) (fun e => by have h := (h2 _ e).1; dsimp only at h; omega) _) (by omega)
      · rw [HCE.out, HRE.out]
        have h2 := World.ownsRow.lt HR6.out
        exact Batch.Own.mono (ownsRow_setCell_other (ownsRow_setCell_other HR6.out (fun e => by have h := (h2 _ e).1; dsimp only at h; omega) _) (fun e => by have h := (h2 _ e).1; dsimp only at h; omega) _) (by omega)
      · rw [HCE.out]
        have h2 := World.ownsRow.lt HC6.out
        exact Batch.Own.mono (ownsRow_setCell_other (ownsRow_setCell_other HC6.out (fun e => by have h := (h2 _ e).1; dsimp only at h; omega) _) (fun e => by have h := (h2 _ e).1; dsimp only at h; omega) _) (by omega)
      · exact (HB6.out.setCell (p := ⟨w.heap.size + 1, 0, none⟩) (Nat.le_succ _) _).setCell (p := ⟨w.heap.size + 1, 1, none⟩) (Nat.le_succ _) _
end Go.Proofs.YtlkljeedlkbkgaaGreatDoor.Cl
