/-
  PACKAGE claim: Update.
  PACKAGE claim: Close.
  PACKAGE claim: a Table of places for handles.
-/
import Derived.Test.YtlkljeedlkbkgaaGreatDoorClAdvance
import Derived.Test.YtlkljeedlkbkgaaGreatDoorJoined15
import Derived.Test.YtlkljeedlkbkgaaGreatDoorJoined6
import Derived.Test.YtlkljeedlkbkgaaGreatDoorJoined11
import Derived.Test.YtlkljeedlkbkgaaGreatDoorShelf
import Derived.Test.YtlkljeedlkbkgaaGreatDoorJoined2
import Derived.Shelf.SlicesE.Clone
import Derived.WalkKit
import Derived.WalkLawsBesides
import Derived.WalkSpells
import Derived.WalkSmall
import Derived.StillTactics
import Derived.StillTailTactics
import Derived.Outline
namespace Go.Proofs.YtlkljeedlkbkgaaGreatDoor.Cl
open Go.RowKit Gr
set_option linter.unusedVariables false

def changeS : ByteArray := { data := #[99, 104, 97, 110, 103, 101] }
theorem fit_sum {B C : List Batch.Ch} (hB : HoldP B) (hC : Batch.RightP C) {c : Batch.Ch} (hc : c ∈ C) : -9223372036854775808 ≤ Batch.tot B c.p c.t + c.d ∧ Batch.tot B c.p c.t + c.d ≤ 9223372036854775807 := by
  have h1 := hB.tot c.p c.t
  have h2 := hC.d c hc
  omega
theorem packR_wf {l : List Batch.Ch} (hw : ∀ x ∈ l, x.Wf) : ∀ x ∈ Batch.packR l, x.Wf := by
  unfold Batch.packR
  split
  · simp
  · unfold Batch.sumsR
    split
    · simp
    · exact Batch.sumL_wf hw
theorem packR_len {l : List Batch.Ch} (h : Batch.packE l = 0) : (Batch.packR l).length ≤ 16 := by
  have h16 : ¬ 16 < l.length := fun e => by unfold Batch.packE at h; rw [if_pos e] at h; exact absurd h (by decide)
  have : (Batch.packR l).length ≤ l.length := by
    unfold Batch.packR
    split
    · simp
    · unfold Batch.sumsR
      split
      · simp
      · exact Batch.sumL_length l
  omega
theorem fit_port {C : List Batch.Ch} (hC : Batch.RightP C) {c : Batch.Ch} (hc : c ∈ C) : 0 ≤ c.p := (hC.fit c hc).1
set_option maxRecDepth 1000000 in
set_option maxHeartbeats 16000000 in
theorem update_pack {w : World} {vh vb vp vl : Value} {H : List Ed} {B l : List Batch.Ch} {m base : Nat} {M : Nat → Nat → Int} (ho : OwnAt w vh vb H B) (hl : H.length ≤ 10000) (hlb : B.length ≤ 10000) (hB : HoldP B) (hv : Batch.Sl w vl l) (hk : Batch.packE l ≠ 0) :
    Calls Tryz.prog 20 #[.agg #[vh, vb], vp, vl] w fun e w' => e = .returned (.tuple #[.agg #[vh, vb], .slice none 0 0, Fault.errnoV (Batch.packE l)]) ∧ Below w.heap.size w w' := by
  have HOW := Lib.hid ho
  have HLV := Lib.hid hv
  obtain ⟨ao, cap, rfl, _⟩ := ho.hands
  obtain ⟨ab, capb, rfl, _⟩ := ho.held
  obtain ⟨al, capl, rfl, _⟩ := hv
  obtain ⟨w0, hw0⟩ : ∃ w0, w0 = (w.alloc (.cells #[.slice ao H.length cap, .slice ab B.length capb] 47)).alloc (.cells #[.slice none 0 0, .slice none 0 0] 47) := ⟨_, rfl⟩
  obtain ⟨hb0, hs0, hx0, hy0⟩ := start2 w _ _ hw0
  have HX := Lib.hid hx0
  have HY := Lib.hid hy0
  have HB0 := Lib.hid hb0
  have HS0 := Lib.hid hs0
  have HPK := Lib.hid (Batch.pack_any (w := w0) (HLV.out.below hb0))
  clear hb0 hs0 hx0 hy0 ho
  obtain ⟨pk, hpk⟩ : ∃ z, z = Batch.packE l := ⟨_, rfl⟩
  rw [← hpk] at hk HPK ⊢
  have hk2 : (pk != 0) = true := by rw [bne_iff_ne]; exact hk
  clear hpk hk
  go_enter Tryz.func20, Tryz.ntmps20
  go_wp2_with fail
  go_at_call 56
  rw [← hw0]
  clear hw0
  refine HPK.out.mono ?_
  rintro e w1 ⟨v1, rfl, hown, hb⟩
  have hlt0 : w.heap.size < w0.heap.size := by have := HS0.out; omega
  have hlt1 : w.heap.size + 1 < w0.heap.size := by have := HS0.out; omega
  have HX1 := Lib.hid ((hb.block _ hlt0).trans HX.out)
  have HY1 := Lib.hid ((hb.block _ hlt1).trans HY.out)
  have HB1 := Lib.hid (HB0.out.trans (hb.mono HB0.out.size))
  have hs1 := hb.size
  have hlx : w.heap.size < w1.heap.size := by omega
  have hly : w.heap.size + 1 < w1.heap.size := by omega
  obtain ⟨x0, x1, _⟩ := pair_cells HX1.out
  obtain ⟨y0, y1, yf⟩ := pair_cells HY1.out
  have yf0 := yf 0
  have yf1 := yf 1
  have HR := Lib.hid (pair_cells (heap_setCell_same _ (w.heap.size + 1) 1 _ _ (.slice ab B.length capb) (heap_setCell_same w1 (w.heap.size + 1) 0 _ _ (.slice ao H.length cap) HY1.out)))
  clear hb hlt0 hlt1 hs1 yf hown
  go_wp2_with fail
  obtain ⟨r0, r1, _⟩ := HR.out
  refine bodyPost_ret (v := .tuple #[.agg #[.slice ao H.length cap, .slice ab B.length capb], .slice none 0 0, Fault.errnoV pk]) (by simp [results, Tryz.results20, go_sem, r0, r1]) rfl ⟨rfl, ?_⟩
  exact (HB1.out.setCell (p := ⟨w.heap.size + 1, 0, none⟩) (Nat.le_succ _) _).setCell (p := ⟨w.heap.size + 1, 1, none⟩) (Nat.le_succ _) _

set_option maxRecDepth 1000000 in
set_option maxHeartbeats 16000000 in
theorem update_bad {w : World} {vh vb vp vl : Value} {H : List Ed} {B l : List Batch.Ch} {m base : Nat} {M : Nat → Nat → Int} {n0 : Nat} {k : Int} {c0 : Batch.Ch} (ho : OwnAt w vh vb H B) (hl : H.length ≤ 10000) (hlb : B.length ≤ 10000) (hB : HoldP B) (hv : Batch.Sl w vl l) (hk : Batch.packE l = 0) (hM : Mat w base vp m M) (hMU : MU M m) (hm : m ≤ 64) (hat : (Batch.packR l)[n0]? = some c0) (hu : upE B (allL H B) M m c0 = k) (hk0 : k ≠ 0) (hok : ∀ j c, j < n0 → (Batch.packR l)[j]? = some c → upE B (allL H B) M m c = 0) :
    Calls Tryz.prog 20 #[.agg #[vh, vb], vp, vl] w fun e w' => ∃ ve, e = .returned (.tuple #[.agg #[vh, vb], .slice none 0 0, ve]) ∧ ErrIs w' ve ([(changeS, (n0 : Int))], k) ∧ Below w.heap.size w w' := by
  have HOW := Lib.hid ho
  have HLV := Lib.hid hv
  have HM := Lib.hid hM
  have hBr := hB.bag.right.2
  have hu0 : (Batch.packR l)[n0]? = some c0 ∧ upE B (allL H B) M m c0 = k ∧ ∀ j c, j < n0 → (Batch.packR l)[j]? = some c → upE B (allL H B) M m c = 0 := ⟨hat, hu, hok⟩
  have HU := Lib.hid hu0
  have HK0 := Lib.hid hk0
  clear hat hu hok hu0 hM hk0
  obtain ⟨ao, cap, rfl, _⟩ := ho.hands
  obtain ⟨ab, capb, rfl, _⟩ := ho.held
  obtain ⟨al, capl, rfl, _⟩ := hv
  obtain ⟨w0, hw0⟩ : ∃ w0, w0 = (w.alloc (.cells #[.slice ao H.length cap, .slice ab B.length capb] 47)).alloc (.cells #[.slice none 0 0, .slice none 0 0] 47) := ⟨_, rfl⟩
  obtain ⟨hb0, hs0, hx0, hy0⟩ := start2 w _ _ hw0
  have HX := Lib.hid hx0
  have HY := Lib.hid hy0
  have HB0 := Lib.hid hb0
  have HS0 := Lib.hid hs0
  have HPK := Lib.hid (Batch.pack_any (w := w0) (HLV.out.below hb0))
  clear hb0 hs0 hx0 hy0 ho
  go_enter Tryz.func20, Tryz.ntmps20
  go_wp2_with fail
  go_at_call 56
  rw [← hw0]
  clear hw0
  refine HPK.out.mono ?_
  rintro e w1 ⟨v1, rfl, hown, hb⟩
  rw [hk]
  have HCR := Lib.hid (Batch.pack_right HLV.out.wf hk)
  have HCW := Lib.hid (packR_wf HLV.out.wf)
  have HCL := Lib.hid (packR_len hk)
  generalize hCe : Batch.packR l = C at hown HCR HCW HCL HU
  have HCE := Lib.hid hCe
  clear hCe
  obtain ⟨av, cv, rfl⟩ := formB hown
  have HC1 := Lib.hid hown
  have hcl : C.length ≤ 16 := HCL.out
  have hlt0 : w.heap.size < w0.heap.size := by have := HS0.out; omega
  have hlt1 : w.heap.size + 1 < w0.heap.size := by have := HS0.out; omega
  have HX1 := Lib.hid ((hb.block _ hlt0).trans HX.out)
  have HY1 := Lib.hid ((hb.block _ hlt1).trans HY.out)
  have HB1 := Lib.hid (HB0.out.trans (hb.mono HB0.out.size))
  have hs1 := hb.size
  have hlx : w.heap.size < w1.heap.size := by omega
  have hly : w.heap.size + 1 < w1.heap.size := by omega
  obtain ⟨x0, x1, _⟩ := pair_cells HX1.out
  clear hb hlt0 hlt1 hs1 hown hk
  go_wp2_with fail
  go_at_call 15
  refine (all_any (HOW.out.hands.below HB1.out) (HOW.out.held.below HB1.out) hl hlb).mono ?_
  rintro e w2 ⟨va, rfl, hoa, hb⟩
  have HA2 := Lib.hid (hoa.sl (all_wf HOW.out.hands.wf HOW.out.held.wf))
  obtain ⟨aa, ca, hva⟩ := formB hoa
  generalize allL H B = A at HA2 HU hva
  subst hva
  have HX2 := Lib.hid ((hb.block _ hlx).trans HX1.out)
  have HY2 := Lib.hid ((hb.block _ hly).trans HY1.out)
  have HB2 := Lib.hid (HB1.out.trans (hb.mono HB1.out.size))
  have HC2 := Lib.hid (HC1.out.below hb)
  have hs2 := hb.size
  have hlx2 : w.heap.size < w2.heap.size := by omega
  have hly2 : w.heap.size + 1 < w2.heap.size := by omega
  clear hb hoa x0 x1 hs2
  go_wp2_with fail
  have hlen : C.length ≤ 9223372036854775807 := by omega
  go_loopg [30] C.length (fun k s30 wr => ∃ i : Nat, i + k = C.length ∧ s30 = .int .i64 i ∧ (i ≤ n0) ∧ Below w2.heap.size w2 wr)
  case atStart => exact ⟨0, by omega, rfl, by omega, Below.refl _ _⟩
  case round =>
    obtain ⟨i, hik, rfl, hile, hbw⟩ := hrel
    have HIK := Lib.hid hik
    have HBW := Lib.hid hbw
    have HLE := Lib.hid hile
    have hbs : w2.heap.size ≤ wr.heap.size := hbw.size
    have hi0 : (0 : Int) ≤ (i : Int) := Int.natCast_nonneg _
    clear hik hbw hile
    have hn0 : n0 < C.length := (List.getElem?_eq_some_iff.1 HU.out.1).1
    have hlt : i < C.length := by have := HLE.out; omega
    obtain ⟨c, hc, hcm⟩ := Batch.at_of hlt
    obtain ⟨gc, cc', hvc, hgc1, hgc2, _⟩ := HC2.out.form.resolve_left (fun h => by rw [h.1] at hlt; simp at hlt)
    simp only [Value.slice.injEq] at hvc
    obtain ⟨rfl, _, rfl⟩ := hvc
    obtain ⟨c0, c1, c2⟩ := (HC2.out.at hc).below HBW.out hgc2
    obtain ⟨x0, x1, _⟩ := pair_cells ((HBW.out.block _ hlx2).trans HX2.out)
    have hi1 : (i : Int) < (C.length : Int) := by omega
    have hxr : w.heap.size < wr.heap.size := by omega
    have hgr : gc < wr.heap.size := by omega
    have HCI := Lib.hid hc
    have HLT := Lib.hid hlt
    have HBT := Lib.hid (HB2.out.trans (HBW.out.mono HB2.out.size))
    obtain ⟨w3, hw3⟩ : ∃ w3, w3 = wr.alloc (.cells #[.int .i64 c.p, .int .u64 c.t, .int .i64 c.d] 72) := ⟨_, rfl⟩
    have hb3 : Below w2.heap.size w2 w3 := by rw [hw3]; exact HBW.out.alloc hbs _
    have HBT3 := Lib.hid (HB2.out.trans (hb3.mono HB2.out.size))
    have HB3 := Lib.hid hb3
    have HWR := Lib.hid (wrongC_any (w := w3) (c := c) (HOW.out.held.below HBT3.out) hBr (by omega) (HA2.out.below hb3) (HM.out.below HBT3.out) hMU hm (HCW.out c hcm) (fit_port HCR.out hcm) (fit_sum hB HCR.out hcm))
    obtain ⟨cp, ct, cd⟩ := c
    simp only at c0 c1 c2 hw3
    by_cases hin : i < n0
    · have HE := Lib.hid (HU.out.2.2 i _ hin HCI.out)
      have HIN := Lib.hid hin
      clear hc hcm hlt hin hb3 hn0
      go_wp2_with fail
      go_at_call 57
      rw [← hw3]
      clear hw3
      refine HWR.out.mono ?_
      rw [HE.out]
      rintro e w4 ⟨rfl, hb4⟩
      have HB4 := Lib.hid (HB3.out.trans (hb4.mono HB3.out.size))
      clear hb4 c0 c1 c2 x0 x1
      go_wp2_with fail
      go_roundg (gk - 1)
      case measure => have := HIK.out; have := HLT.out; omega
      case rel => exact ⟨i + 1, by have := HIK.out; have := HLT.out; omega, by go_num, by have := HIN.out; omega, HB4.out⟩
    · obtain rfl : i = n0 := by have := HLE.out; omega
      have hce := HU.out.1
      rw [hc] at hce
      obtain rfl := Option.some.inj hce
      have HE := Lib.hid HU.out.2.1
      have HCH := Lib.hid (fun W => at_chain (w := W) (v := .iface 61 (.int .i64 k)) (b := Fault.errnoV k) (l := []) changeS (i : Int) rfl (.inl ⟨k, rfl⟩))
      have hk2 : (k != 0) = true := by rw [bne_iff_ne]; exact HK0.out
      clear hc hcm hlt hin hb3 hn0
      go_wp2_with fail
      go_at_call 57
      rw [← hw3]
      clear hw3
      refine HWR.out.mono ?_
      rw [HE.out]
      rintro e w4 ⟨rfl, hb4⟩
      have hb24 : Below w2.heap.size w2 w4 := HB3.out.trans (hb4.mono HB3.out.size)
      have HB4 := Lib.hid (HB2.out.trans (hb24.mono HB2.out.size))
      have HY4 := Lib.hid ((hb24.block _ hly2).trans HY2.out)
      have hs4 := hb24.size
      have hl1 : w.heap.size < w4.heap.size := by omega
      have hl2 : w.heap.size + 1 < w4.heap.size := by omega
      clear c0 c1 c2 x0 x1
      obtain ⟨x0, x1, _⟩ := pair_cells ((hb24.block _ hlx2).trans HX2.out)
      clear hb4 hb24 hs4
      go_upto_region 10 with fail
      go_region_held3 (fun w' => w'.cell? ⟨w.heap.size, 0, none⟩ = some (.slice ao H.length cap) ∧ w'.cell? ⟨w.heap.size, 1, none⟩ = some (.slice ab B.length capb))
        (first
          | go_keep
          | (go_split_ands
             refine ⟨?_, ?_⟩ <;> (rw [hcb.cell (by simp; omega)]; assumption)))
        ((go_at_call 58; refine (HCH.out _).mono ?_; rintro e w5 ⟨blk, rfl, hch, hcb⟩; obtain ⟨y0, y1, yf⟩ := pair_cells ((hcb.block (w.heap.size + 1) (by simp; omega)).trans HY4.out); have yf0 := yf 0; have yf1 := yf 1; clear yf))
      go_wp2_with fail
      have hb45 : Below w4.heap.size w4 w5 := (below_drewN (Below.refl w4.heap.size w4) 1).trans hcb
      obtain ⟨r0, r1, _⟩ := pair_cells (heap_setCell_same _ (w.heap.size + 1) 1 _ _ (.slice ab B.length capb) (heap_setCell_same w5 (w.heap.size + 1) 0 _ _ (.slice ao H.length cap) ((hb45.block _ hl2).trans HY4.out)))
      refine bodyPost_ret (v := .tuple #[.agg #[.slice ao H.length cap, .slice ab B.length capb], .slice none 0 0, Fault.placedV blk]) (by simp [results, Tryz.results20, go_sem, r0, r1]) rfl ⟨_, rfl, ?_, ?_⟩
      · exact err_set (ErrIs.some HK0.out hch) y0 _ _
      · exact ((HB4.out.trans (hb45.mono HB4.out.size)).setCell (p := ⟨w.heap.size + 1, 0, none⟩) (Nat.le_succ _) _).setCell (p := ⟨w.heap.size + 1, 1, none⟩) (Nat.le_succ _) _
end Go.Proofs.YtlkljeedlkbkgaaGreatDoor.Cl
namespace Go.Proofs.YtlkljeedlkbkgaaGreatDoor.Cl
open Go.RowKit Gr
set_option linter.unusedVariables false

set_option maxRecDepth 1000000 in
set_option maxHeartbeats 8000000 in
theorem close_stale {w : World} {vh vb : Value} {H : List Ed} {B : List Batch.Ch} (h : Int) (ho : OwnAt w vh vb H B) (hr : Rise H) (hl : H.length ≤ 100000) (hh : hasB H h = false) :
    Calls Tryz.prog 25 #[.agg #[vh, vb], .int .i64 h] w fun e w' => ∃ ve, e = .returned (.tuple #[.agg #[vh, vb], .slice none 0 0, ve]) ∧ ErrIs w' ve ([(handleS, h)], 7) ∧ Below w.heap.size w w' := by
  have HP := Lib.hid (fun W hW => place_any (w := W) (v := vh) (vb := vb) h hW hr hl)
  have HH := Lib.hid hh
  have HOW := Lib.hid ho
  obtain ⟨ao, cap, rfl, _⟩ := ho.hands
  obtain ⟨ab, capb, rfl, _⟩ := ho.held
  obtain ⟨w0, hw0⟩ : ∃ w0, w0 = (w.alloc (.cells #[.slice ao H.length cap, .slice ab B.length capb] 47)).alloc (.cells #[.slice none 0 0, .slice none 0 0] 47) := ⟨_, rfl⟩
  obtain ⟨hb0, hs0, hx0, hy0⟩ := start2 w _ _ hw0
  have HX := Lib.hid hx0
  have HY := Lib.hid hy0
  have HB0 := Lib.hid hb0
  have HS0 := Lib.hid hs0
  clear hb0 hs0 hx0 hy0 hr hh ho
  go_enter Tryz.func25, Tryz.ntmps25
  go_wp2_with fail
  go_at_call 44
  rw [← hw0]
  clear hw0
  refine (HP.out w0 (HOW.out.hands.below HB0.out)).mono ?_
  rw [HH.out]
  rintro e w1 ⟨rfl, hb⟩
  have hlt0 : w.heap.size < w0.heap.size := by have := HS0.out; omega
  have hlt1 : w.heap.size + 1 < w0.heap.size := by have := HS0.out; omega
  have HX1 := Lib.hid ((hb.block _ hlt0).trans HX.out)
  have HY1 := Lib.hid ((hb.block _ hlt1).trans HY.out)
  have HB1 := Lib.hid (HB0.out.trans (hb.mono HB0.out.size))
  have hs1 := hb.size
  have hlx : w.heap.size < w1.heap.size := by omega
  have hly : w.heap.size + 1 < w1.heap.size := by omega
  obtain ⟨x0, x1, _⟩ := pair_cells HX1.out
  clear hb hlt0 hlt1 hs1
  go_upto_region 3 with fail
  go_region_held3 (fun w' => w'.cell? ⟨w.heap.size, 0, none⟩ = some (.slice ao H.length cap) ∧ w'.cell? ⟨w.heap.size, 1, none⟩ = some (.slice ab B.length capb))
    (first
      | go_keep
      | (go_split_ands
         refine ⟨?_, ?_⟩ <;> (rw [hcb.cell (by simp; omega)]; assumption)))
    ((go_at_call 61; refine (stale_any h _).mono ?_; rintro e w2 ⟨ve, rfl, hve, hcb⟩; obtain ⟨y0, y1, yf⟩ := pair_cells ((hcb.block (w.heap.size + 1) (by simp; omega)).trans HY1.out); have yf0 := yf 0; have yf1 := yf 1; clear yf))
  go_wp2_with fail
  have hb12 : Below w1.heap.size w1 w2 := (below_drewN (Below.refl w1.heap.size w1) 1).trans hcb
  obtain ⟨r0, r1, _⟩ := pair_cells (heap_setCell_same _ (w.heap.size + 1) 1 _ _ (.slice ab B.length capb) (heap_setCell_same w2 (w.heap.size + 1) 0 _ _ (.slice ao H.length cap) ((hb12.block _ hly).trans HY1.out)))
  refine bodyPost_ret (v := .tuple #[.agg #[.slice ao H.length cap, .slice ab B.length capb], .slice none 0 0, ve]) (by simp [results, Tryz.results25, go_sem, r0, r1]) rfl ⟨_, rfl, ?_, ?_⟩
  · exact err_set hve y0 _ _
  · exact ((HB1.out.trans (hb12.mono HB1.out.size)).setCell (p := ⟨w.heap.size + 1, 0, none⟩) (Nat.le_succ _) _).setCell (p := ⟨w.heap.size + 1, 1, none⟩) (Nat.le_succ _) _
end Go.Proofs.YtlkljeedlkbkgaaGreatDoor.Cl
namespace Go.Proofs.YtlkljeedlkbkgaaGreatDoor.Tb
open Go.RowKit Rw Go.Shelf Go.Lib
set_option linter.unusedVariables false

/-- A place: its Gen, is it taken. -/
def slK : Kd (Int × Bool) where
  k := 2
  cells x := [.int .i64 x.1, .bool x.2]
  wf x := -9223372036854775808 ≤ x.1 ∧ x.1 ≤ 9223372036854775807
  len _ := rfl
  one x u hu := by simp at hu; rcases hu with rfl | rfl <;> rfl
theorem slK_k : slK.k = 2 := rfl
theorem at2 {w : World} {b o : Nat} {g : Int} {u : Bool} (h : AtK slK w b o (g, u)) : w.cell? ⟨b, o, none⟩ = some (.int .i64 g) ∧ w.cell? ⟨b, o + 1, none⟩ = some (.bool u) :=
  ⟨h 0 _ (by decide) rfl, h 1 _ (by decide) rfl⟩
theorem infoSl : (Tryz.prog.info? 126).map (fun i => (i.zero, i.size, i.bytes)) = some (some (.agg #[.int .i64 0, .bool false]), 2, 16) := by kernel_rfl
theorem info_parts {P : Program} {t : TypeId} {z : Value} {size bytes : Nat} (h : (P.info? t).map (fun i => (i.zero, i.size, i.bytes)) = some (some z, size, bytes)) : ∃ i, P.info? t = some i ∧ i.zero = some z ∧ i.size = size ∧ i.bytes = bytes := by
  obtain ⟨i, hi, hz⟩ := Option.map_eq_some_iff.1 h
  simp only [Prod.mk.injEq] at hz
  exact ⟨i, hi, hz⟩
theorem cloneT_any {w : World} {v : Value} {l : List (Int × Bool)} (h : Sl slK w v l) (hl : l.length ≤ 100000) :
    Calls Tryz.prog 67 #[v] w fun e w' => ∃ v', e = .returned v' ∧ Own slK w' w.heap.size 126 v' l ∧ Below w.heap.size w w' := by
  have hh := h
  obtain ⟨ao, cap, rfl, h1, _⟩ := h
  obtain ⟨i0, hi, hz0, hz1, hz2⟩ := info_parts infoSl
  rcases h1 with ⟨rfl, rfl⟩ | ⟨b, off, _, rfl, h1⟩
  · exact (AnyE.slices_Clone_nil Tryz.cloneT 0 cap w).mono fun e w' ⟨he, hw⟩ => ⟨_, he, by rw [hw]; exact Own.nil _ _ _, by rw [hw]; exact Below.refl _ _⟩
  · exact (AnyE.slices_Clone Tryz.cloneT i0 (.agg #[.int .i64 0, .bool false]) 2 16 hi hz0 hz1 hz2 rfl (by omega) Tryz.sizeOf126 b off l.length cap (slK.flat l) w (flat_length l) (by unfold maxLen; omega) (by omega) (hh.cells (by decide)) (flat_one l)).mono
      fun e w' ⟨v', he, ho, _, hb⟩ => ⟨v', he, ho, hb⟩
/-- No place is taken. -/
def freshL : List (Int × Bool) := List.replicate 64 (0, false)
set_option maxRecDepth 1000000 in
set_option maxHeartbeats 4000000 in
theorem fresh_any (w : World) : Calls Tryz.prog 27 #[] w fun e w' => ∃ v, e = .returned v ∧ Own slK w' w.heap.size 126 v freshL ∧ Below w.heap.size w w' := by
  obtain ⟨i0, hi, hz0, hz1, hz2⟩ := info_parts infoSl
  obtain ⟨w1, hrun, hown, hg⟩ := run_makeSlice_full (P := Tryz.prog) w w.heap.size 82 126 i0 (.agg #[.int .i64 0, .bool false]) 2 Tryz.underlying82 hi hz0 hz1 .i64 .i64 64 (by decide) (by rw [hz2]; decide) (by decide) (Nat.le_refl _)
  have hrun' : (Instr.makeSlice 82 (.int .i64 64) (.int .i64 64)).run Tryz.prog w = .ok (.slice (some ⟨w.heap.size, 0, none⟩) 64 64) w1 := hrun
  have hcs : (madeCells (Value.agg #[Value.int IntKind.i64 0, Value.bool false]).cells (64 * 2)).toList = slK.flat freshL := by kernel_rfl
  have hO : Own slK w1 w.heap.size 126 (.slice (some ⟨w.heap.size, 0, none⟩) 64 64) freshL := by unfold Own; rw [← hcs]; exact hown
  have HO := Lib.hid hO
  have HB := Lib.hid ((Below.refl w.heap.size w).grown hg (Nat.le_refl _) (fun k e => by cases e))
  clear hrun hown hg hO hi hz0 hz1 hz2
  go_enter Tryz.func27, Tryz.ntmps27
  go_wp2
  go_ret
  exact ⟨_, rfl, HO.out, HB.out⟩
theorem take1_any (g : Int) (u : Bool) (w : World) : Calls Tryz.prog 66 #[.agg #[.int .i64 g, .bool u]] w fun e w' => e = .returned (.bool (!u)) ∧ Below w.heap.size w w' := by
  have hb : Below w.heap.size w (w.alloc (.cells #[.int .i64 g, .bool u] 126)) := (Below.refl _ _).alloc (Nat.le_refl _) _
  have HB := Lib.hid hb
  clear hb
  cases u
  all_goals
    go_enter Tryz.func66, Tryz.ntmps66
    go_wp2
    go_ret
    exact ⟨rfl, HB.out⟩
end Go.Proofs.YtlkljeedlkbkgaaGreatDoor.Tb
