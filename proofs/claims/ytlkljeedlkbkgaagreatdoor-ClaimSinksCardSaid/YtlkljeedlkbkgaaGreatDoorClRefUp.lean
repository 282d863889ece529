/-
  YtlkljeedlkbkgaaGreatDoorClRefUp
-/
import Derived.Test.YtlkljeedlkbkgaaGreatDoorJoined25
import Derived.Test.YtlkljeedlkbkgaaGreatDoorJoined23
import Derived.Test.YtlkljeedlkbkgaaGreatDoorJoined15
import Derived.Test.YtlkljeedlkbkgaaGreatDoorJoined7
import Derived.Test.YtlkljeedlkbkgaaGreatDoorJoined26
import Derived.BigQuiet
import Derived.Deep.RegionHeldLaw
namespace Go.Proofs.YtlkljeedlkbkgaaGreatDoor.Cl
open Go.RowKit Gr Go.Proofs.YtlkljeedlkbkgaaGreatDoor.Fault
set_option linter.unusedVariables false
set_option linter.unusedSimpArgs false
set_option maxRecDepth 1000000 in
set_option maxHeartbeats 16000000 in
theorem refupdate_pack {w : World} {vh vb vp vl : Value} {H : List Ed} {B l : List Batch.Ch} (hH : Sl w vh H) (hB : Batch.Sl w vb B) (hv : Batch.Rd w vl l) (hk : Batch.packE l ≠ 0) :
    Calls Tryz.prog 35 #[.agg #[vh, vb], vp, vl] w fun e w' => e = .returned (.tuple #[.agg #[vh, vb], .slice none 0 0, .slice none 0 0, .int .i64 (Batch.packE l)]) ∧ Below w.heap.size w w' := by
  have HH := Lib.hid hH
  have HV := Lib.hid hv
  obtain ⟨ah, ch, e1, _⟩ := hH
  obtain ⟨ab, cb, e2, _⟩ := hB
  obtain ⟨al, cl, e3, _⟩ := hv
  subst e1 e2 e3
  obtain ⟨w0, hw0⟩ : ∃ w0, w0 = (w.alloc (.cells #[.slice ah H.length ch, .slice ab B.length cb] 29)).alloc (.cells #[.slice none 0 0, .slice none 0 0] 29) := ⟨_, rfl⟩
  have hb0 : Below w.heap.size w w0 := by rw [hw0]; exact ((Below.refl _ _).alloc (Nat.le_refl _) _).alloc (by simp) _
  have hs0 : w0.heap.size = w.heap.size + 1 + 1 := by rw [hw0]; simp
  have hx0 : w0.heap[w.heap.size]? = some (.cells #[.slice ah H.length ch, .slice ab B.length cb] 29 (0, 0)) := by rw [hw0, heap_alloc_old _ _ (by simp)]; exact heap_alloc_new w _
  have hy0 : w0.heap[w.heap.size + 1]? = some (.cells #[.slice none 0 0, .slice none 0 0] 29 (0, 0)) := by
    rw [hw0]; have := heap_alloc_new (w.alloc (.cells #[.slice ah H.length ch, .slice ab B.length cb] 29)) (.cells #[.slice none 0 0, .slice none 0 0] 29); simpa using this
  have HX := Lib.hid hx0
  have HY := Lib.hid hy0
  have HB := Lib.hid hb0
  have HS := Lib.hid hs0
  have HPK := Lib.hid (Batch.refpack_any (w := w0) (HV.out.below hb0))
  obtain ⟨pk, hpk⟩ : ∃ z, z = Batch.packE l := ⟨_, rfl⟩
  rw [← hpk] at hk HPK ⊢
  have hk2 : (pk != 0) = true := by rw [bne_iff_ne]; exact hk
  clear hpk hk
  clear hb0 hx0 hy0 hs0
  go_enter Tryz.func35, Tryz.ntmps35
  go_upto_region 1 with fail
  rw [← hw0]
  clear hw0
  go_wp2_with fail
  go_at_call 75
  refine HPK.out.mono ?_
  rintro e w1 ⟨v1, rfl, hown, hb⟩
  replace HX := Lib.hid ((hb.block _ (by have := HS.out; omega)).trans HX.out)
  replace HY := Lib.hid ((hb.block _ (by have := HS.out; omega)).trans HY.out)
  replace HB := Lib.hid (HB.out.trans (hb.mono HB.out.size))
  obtain ⟨a1, c1, rfl⟩ := formB hown
  clear hb hown
  have HR := Lib.hid (pair_cells (heap_setCell_same _ (w.heap.size + 1) 1 _ _ (.slice ab B.length cb) (heap_setCell_same w1 (w.heap.size + 1) 0 _ _ (.slice ah H.length ch) HY.out)))
  have HBE := Lib.hid ((HB.out.setCell (p := ⟨w.heap.size + 1, 0, none⟩) (Nat.le_succ _) (.slice ah H.length ch)).setCell (p := ⟨w.heap.size + 1, 1, none⟩) (Nat.le_succ _) (.slice ab B.length cb))
  obtain ⟨x0, x1, _⟩ := pair_cells HX.out
  obtain ⟨y0, y1, yf⟩ := pair_cells HY.out
  have yf0 := yf 0
  have yf1 := yf 1
  clear yf
  go_wp2_with fail
  obtain ⟨r0, r1, _⟩ := HR.out
  exact bodyPost_ret (v := .tuple #[.agg #[.slice ah H.length ch, .slice ab B.length cb], .slice none 0 0, .slice none 0 0, .int .i64 pk]) (by simp [results, Tryz.results35, go_sem, r0, r1]) rfl ⟨rfl, HBE.out⟩
set_option maxRecDepth 1000000 in
set_option maxHeartbeats 16000000 in
theorem refupdate_bad {w : World} {vh vb vp vl : Value} {H : List Ed} {B l : List Batch.Ch} {m base : Nat} {M : Nat → Nat → Int} {n0 : Nat} {k : Int} {c0 : Batch.Ch} (hH : Sl w vh H) (hB : Batch.Sl w vb B) (hl : H.length ≤ 1000) (hlb : B.length ≤ 10000) (hP : HoldP B) (hA : Batch.BagP (allL H B)) (hv : Batch.Rd w vl l) (hk : Batch.packE l = 0) (hM : Mat w base vp m M) (hMU : MU M m) (hm : m ≤ 64) (hat : (Batch.packR l)[n0]? = some c0) (hu : upE B (allL H B) M m c0 = k) (hk0 : k ≠ 0) (hok : ∀ j c, j < n0 → (Batch.packR l)[j]? = some c → upE B (allL H B) M m c = 0) :
    Calls Tryz.prog 35 #[.agg #[vh, vb], vp, vl] w fun e w' => ∃ v, e = .returned (.tuple #[.agg #[vh, vb], .slice none 0 0, v, .int .i64 k]) ∧ RdP w' v [(changeS, (n0 : Int))] ∧ Below w.heap.size w w' := by
  have HH := Lib.hid hH
  have HBB := Lib.hid hB
  have HV := Lib.hid hv
  have HAP := Lib.hid hA
  have HM := Lib.hid hM
  have HBR2 := Lib.hid hP.bag.right.2
  obtain ⟨gM, rM, rfl, _⟩ := hM
  have HU := Lib.hid (show (Batch.packR l)[n0]? = some c0 ∧ upE B (allL H B) M m c0 = k ∧ ∀ j c, j < n0 → (Batch.packR l)[j]? = some c → upE B (allL H B) M m c = 0 from ⟨hat, hu, hok⟩)
  have HK0 := Lib.hid hk0
  clear hat hu hok hk0 hA
  obtain ⟨ah, ch, e1, _⟩ := hH
  obtain ⟨ab, cb, e2, _⟩ := hB
  obtain ⟨al, cl, e3, _⟩ := hv
  subst e1 e2 e3
  obtain ⟨w0, hw0⟩ : ∃ w0, w0 = (w.alloc (.cells #[.slice ah H.length ch, .slice ab B.length cb] 29)).alloc (.cells #[.slice none 0 0, .slice none 0 0] 29) := ⟨_, rfl⟩
  have hb0 : Below w.heap.size w w0 := by rw [hw0]; exact ((Below.refl _ _).alloc (Nat.le_refl _) _).alloc (by simp) _
  have hs0 : w0.heap.size = w.heap.size + 1 + 1 := by rw [hw0]; simp
  have hx0 : w0.heap[w.heap.size]? = some (.cells #[.slice ah H.length ch, .slice ab B.length cb] 29 (0, 0)) := by rw [hw0, heap_alloc_old _ _ (by simp)]; exact heap_alloc_new w _
  have hy0 : w0.heap[w.heap.size + 1]? = some (.cells #[.slice none 0 0, .slice none 0 0] 29 (0, 0)) := by
    rw [hw0]; have := heap_alloc_new (w.alloc (.cells #[.slice ah H.length ch, .slice ab B.length cb] 29)) (.cells #[.slice none 0 0, .slice none 0 0] 29); simpa using this
  have HX := Lib.hid hx0
  have HY := Lib.hid hy0
  have HB := Lib.hid hb0
  have HS := Lib.hid hs0
  have HPK := Lib.hid (Batch.refpack_any (w := w0) (HV.out.below hb0))
  clear hb0 hx0 hy0 hs0
  go_enter Tryz.func35, Tryz.ntmps35
  go_upto_region 1 with fail
  rw [← hw0]
  clear hw0
  go_wp2_with fail
  go_at_call 75
  refine HPK.out.mono ?_
  rintro e w1 ⟨v1, rfl, hown, hb⟩
  replace HX := Lib.hid ((hb.block _ (by have := HS.out; omega)).trans HX.out)
  replace HY := Lib.hid ((hb.block _ (by have := HS.out; omega)).trans HY.out)
  replace HB := Lib.hid (HB.out.trans (hb.mono HB.out.size))
  rw [hk]
  have HCR := Lib.hid (Batch.pack_right HV.out.wf hk)
  have HCW := Lib.hid (packR_wf HV.out.wf)
  have HCL := Lib.hid (packR_len hk)
  generalize hCe : Batch.packR l = C at hown HCR HCW HCL HU
  clear hCe hk
  obtain ⟨av, cv, rfl⟩ := formB hown
  have HC := Lib.hid hown
  have hcl : C.length ≤ 16 := HCL.out
  have HC0 := Lib.hid (And.intro (show w.heap.size + 1 < w0.heap.size by have := HS.out; omega) (World.ownsRow.lt hown))
  clear hb hown
  obtain ⟨x0, x1, _⟩ := pair_cells HX.out
  go_wp2_with fail
  go_at_call 43
  refine (refall_any (HH.out.below HB.out) (HBB.out.below HB.out) hP (by omega) (by omega)).mono ?_
  rintro e w2 ⟨va, rfl, hoa, hb⟩
  have HA := Lib.hid (hoa.sl (all_wf HH.out.wf HBB.out.wf))
  have HA0 := Lib.hid (fun x (hx : x ∈ allL H B) => (HAP.out.right.fit x hx).1)
  obtain ⟨aa, ca, hva⟩ := formB hoa
  generalize allL H B = A at HA HA0 HU hva
  subst hva
  replace HX := Lib.hid ((hb.block _ (Array.getElem?_eq_some_iff.1 HX.out).1).trans HX.out)
  replace HY := Lib.hid ((hb.block _ (Array.getElem?_eq_some_iff.1 HY.out).1).trans HY.out)
  replace HB := Lib.hid (HB.out.trans (hb.mono HB.out.size))
  replace HC := Lib.hid (HC.out.below hb)
  replace HC0 := Lib.hid (show w.heap.size + 1 < w0.heap.size ∧ ∀ k, (Value.slice av C.length cv).ownBlock = some k → w0.heap.size ≤ k ∧ k < w2.heap.size from ⟨HC0.out.1, fun k e => ⟨(HC0.out.2 k e).1, Nat.lt_of_lt_of_le (HC0.out.2 k e).2 hb.size⟩⟩)
  have hlx2 : w.heap.size + 1 < w2.heap.size := (Array.getElem?_eq_some_iff.1 HY.out).1
  clear hb hoa x0 x1
  go_wp2_with fail
  have hlen : C.length ≤ 9223372036854775807 := by omega
  go_loopg [13] C.length (fun k s13 wr => ∃ i : Nat, i + k = C.length ∧ s13 = .int .i64 i ∧ i ≤ n0 ∧ Hid (Below w2.heap.size w2 wr))
  case atStart => exact ⟨0, by omega, rfl, by omega, Lib.hid (Below.refl _ _)⟩
  case round =>
    obtain ⟨i, hik, rfl, hile, HBR⟩ := hrel
    have HLE := Lib.hid hile
    have hn0 : n0 < C.length := (List.getElem?_eq_some_iff.1 HU.out.1).1
    have hlt : i < C.length := by omega
    clear hile
    by_cases hin : i < n0
    · have HIN := Lib.hid hin
      clear hin hn0
      have HIK := Lib.hid hik
      have hi0 : (0 : Int) ≤ (i : Int) := Int.natCast_nonneg _
      have hbs : w2.heap.size ≤ wr.heap.size := HBR.out.size
      obtain ⟨c, hc, hcm⟩ := Batch.at_of hlt
      obtain ⟨gc, cc', hvc, hgc1, hgc2, _⟩ := HC.out.form.resolve_left (fun h => by rw [h.1] at hlt; simp at hlt)
      simp only [Value.slice.injEq] at hvc
      obtain ⟨rfl, _, rfl⟩ := hvc
      have hi1 : (i : Int) < (C.length : Int) := by omega
      have HCI := Lib.hid hc
      have HLT := Lib.hid hlt
      have HCM := Lib.hid hcm
      have hcw := HCW.out c hcm
      have hcf := HCR.out.fit c hcm
      have hcs := fit_sum hP HCR.out hcm
      have hu1 : upE B A M m c = 0 := HU.out.2.2 i _ HIN.out hc
      obtain ⟨w3, hw3⟩ : ∃ w3, w3 = wr.alloc (.cells #[.string { data := #[99, 104, 97, 110, 103, 101] }, .int .i64 (i : Int)] 146) := ⟨_, rfl⟩
      have hb3 : Below w2.heap.size w2 w3 := by rw [hw3]; exact HBR.out.alloc hbs _
      have hpl : w3.heap[wr.heap.size]? = some (.cells #[.string changeS, .int .i64 (i : Int)] 146 (0, 0)) := by rw [hw3]; exact heap_alloc_new wr _
      have HPL := Lib.hid hpl
      have HB3 := Lib.hid hb3
      have HWR := Lib.hid hbs
      obtain ⟨c0, c1, c2⟩ := (HC.out.at hc).below HB3.out hgc2
      have hx3 := (hb3.block _ (Nat.lt_of_succ_lt hlx2)).trans HX.out
      obtain ⟨x0, x1, _⟩ := pair_cells hx3
      obtain ⟨k0, k1, k2⟩ := (HC.out.at hc).below HBR.out hgc2
      have HX3 := Lib.hid hx3
      have hgc3 : gc < w3.heap.size := Nat.lt_of_lt_of_le hgc2 hb3.size
      have hgcr : gc < wr.heap.size := Nat.lt_of_lt_of_le hgc2 hbs
      obtain ⟨cp, ct, cd⟩ := c
      simp only at c0 c1 c2 k0 k1 k2 hcf hcw hcs
      clear hik hbs hc hpl hb3 hx3 hlt
      go_upto_region 9 with fail
      rw [← hw3]
      clear hw3 k0 k1 k2 hgcr
      obtain ⟨hz1, hz2, hz3, hz4⟩ := upE_zero hu1
      simp only at hz1 hz2 hz3 hz4
      have g1 : decide ((m : Int) ≤ cp) = false := decide_eq_false (by omega)
      have hcp : 0 ≤ cp ∧ cp < (m : Int) := ⟨hcf.1, by omega⟩
      have hlw0 : w.heap.size < w3.heap.size := by have := HB3.out.size; omega
      have hw2 : ∀ W, Below w3.heap.size w3 W → Batch.Sl W (.slice ab B.length cb) B := fun W hW => HBB.out.below (HB.out.trans ((HB3.out.trans (hW.mono HB3.out.size)).mono HB.out.size))
      have HW2 := Lib.hid hw2
      clear hw2
      go_upto_region 11 with fail
      go_region_held3 (fun w' => w'.cell? ⟨w.heap.size, 1, none⟩ = some (.slice ab B.length cb) ∧ w'.cell? ⟨gc, i * 3, none⟩ = some (.int .i64 cp) ∧ w'.cell? ⟨gc, i * 3 + 1, none⟩ = some (.int .u64 ct))
        (first
          | go_keep
          | (go_split_ands
             refine ⟨?_, ?_, ?_⟩ <;> (rw [hcb.cell (by simp; omega)]; assumption)))
        ((go_at_call 21; refine (Batch.refof_any cp ct (HW2.out _ (below_drewN (Below.refl _ _) 1)).rd HBR2.out).mono ?_; rintro e w4 ⟨rfl, hcb⟩))
      have hb34 : Below w3.heap.size w3 w4 := (below_drewN (Below.refl w3.heap.size w3) 1).trans hcb
      have HB4 := Lib.hid (HB3.out.trans (hb34.mono HB3.out.size))
      have HX4 := Lib.hid ((hb34.block _ hlw0).trans HX3.out)
      have HPL4 := Lib.hid ((hb34.block _ (Array.getElem?_eq_some_iff.1 HPL.out).1).trans HPL.out)
      have hgc4 := Nat.lt_of_lt_of_le hgc3 hb34.size
      replace c0 := (hb34.cell (p := ⟨gc, i * 3, none⟩) hgc3).trans c0
      replace c1 := (hb34.cell (p := ⟨gc, i * 3 + 1, none⟩) hgc3).trans c1
      replace c2 := (hb34.cell (p := ⟨gc, i * 3 + 2, none⟩) hgc3).trans c2
      clear hcb hb34 x0 x1 hgc3 hlw0
      obtain ⟨x0, x1, _⟩ := pair_cells HX4.out
      generalize hT : Batch.tot B cp ct = T at hz3 hz4 hcs
      clear hT
      have hw5 : IntKind.i64.wrap (T + cd) = T + cd := by rw [IntKind.wrap_i64]; omega
      have g3 : decide (T + cd < 0) = false := decide_eq_false (by omega)
      have g4 : decide (1125899906842624 < T + cd) = false := decide_eq_false (by omega)
      by_cases hd : 0 < cd
      · have hlb := hz2 hd
        have g2 : decide (0 < cd) = true := decide_eq_true hd
        clear hz1 hz2 hz3 hz4 hd
        go_wp2_with fail
        go_at_call 76
        refine (reflets_any (c := ⟨cp, ct, cd⟩) (HA.out.below HB4.out) HA0.out (HM.out.below (HB.out.trans (HB4.out.mono HB.out.size))) hMU hm hcw (j := cp.toNat) (by show cp = ((cp.toNat : Nat) : Int); omega) (by omega)).mono ?_
        rintro e w5 ⟨rfl, hb45⟩
        rw [hlb]
        have HB5 := Lib.hid (HB4.out.trans (hb45.mono HB4.out.size))
        have HX5 := Lib.hid ((hb45.block _ (Array.getElem?_eq_some_iff.1 HX4.out).1).trans HX4.out)
        have HPL5 := Lib.hid ((hb45.block _ (Array.getElem?_eq_some_iff.1 HPL4.out).1).trans HPL4.out)
        replace c0 := (hb45.cell (p := ⟨gc, i * 3, none⟩) hgc4).trans c0
        replace c1 := (hb45.cell (p := ⟨gc, i * 3 + 1, none⟩) hgc4).trans c1
        replace c2 := (hb45.cell (p := ⟨gc, i * 3 + 2, none⟩) hgc4).trans c2
        clear hb45 x0 x1
        obtain ⟨x0, x1, _⟩ := pair_cells HX5.out
        go_wp2_with fail
        go_roundg (gk - 1)
        case measure => have := HIK.out; have := HLT.out; omega
        case rel => exact ⟨i + 1, by have := HIK.out; have := HLT.out; omega, by go_num, by have := HIN.out; omega, Lib.hid HB5.out⟩
      · have g2 : decide (0 < cd) = false := decide_eq_false hd
        clear hz1 hz2 hz3 hz4 hd
        go_wp2_with fail
        go_roundg (gk - 1)
        case measure => have := HIK.out; have := HLT.out; omega
        case rel => exact ⟨i + 1, by have := HIK.out; have := HLT.out; omega, by go_num, by have := HIN.out; omega, Lib.hid HB4.out⟩
    · obtain rfl : i = n0 := by have := HLE.out; omega
      clear hin hn0
      have HIK := Lib.hid hik
      have hi0 : (0 : Int) ≤ (i : Int) := Int.natCast_nonneg _
      have hbs : w2.heap.size ≤ wr.heap.size := HBR.out.size
      obtain ⟨c, hc, hcm⟩ := Batch.at_of hlt
      obtain ⟨gc, cc', hvc, hgc1, hgc2, _⟩ := HC.out.form.resolve_left (fun h => by rw [h.1] at hlt; simp at hlt)
      simp only [Value.slice.injEq] at hvc
      obtain ⟨rfl, _, rfl⟩ := hvc
      have hi1 : (i : Int) < (C.length : Int) := by omega
      have HCI := Lib.hid hc
      have HLT := Lib.hid hlt
      have HCM := Lib.hid hcm
      have hcw := HCW.out c hcm
      have hcf := HCR.out.fit c hcm
      have hcs := fit_sum hP HCR.out hcm
      have hu1 : upE B A M m c = k := by have h := HU.out; rw [hc] at h; rw [Option.some.inj h.1]; exact h.2.1
      obtain ⟨w3, hw3⟩ : ∃ w3, w3 = wr.alloc (.cells #[.string { data := #[99, 104, 97, 110, 103, 101] }, .int .i64 (i : Int)] 146) := ⟨_, rfl⟩
      have hb3 : Below w2.heap.size w2 w3 := by rw [hw3]; exact HBR.out.alloc hbs _
      have hpl : w3.heap[wr.heap.size]? = some (.cells #[.string changeS, .int .i64 (i : Int)] 146 (0, 0)) := by rw [hw3]; exact heap_alloc_new wr _
      have HPL := Lib.hid hpl
      have HB3 := Lib.hid hb3
      have HWR := Lib.hid hbs
      obtain ⟨c0, c1, c2⟩ := (HC.out.at hc).below HB3.out hgc2
      have hx3 := (hb3.block _ (Nat.lt_of_succ_lt hlx2)).trans HX.out
      obtain ⟨x0, x1, _⟩ := pair_cells hx3
      obtain ⟨k0, k1, k2⟩ := (HC.out.at hc).below HBR.out hgc2
      have HX3 := Lib.hid hx3
      have hgc3 : gc < w3.heap.size := Nat.lt_of_lt_of_le hgc2 hb3.size
      have hgcr : gc < wr.heap.size := Nat.lt_of_lt_of_le hgc2 hbs
      obtain ⟨cp, ct, cd⟩ := c
      simp only at c0 c1 c2 k0 k1 k2 hcf hcw hcs
      clear hik hbs hc hpl hb3 hx3 hlt
      go_upto_region 9 with fail
      rw [← hw3]
      clear hw3 k0 k1 k2 hgcr
      unfold upE at hu1
      by_cases hp : (m : Int) ≤ cp
      · rw [if_pos hp] at hu1
        have g1 : decide ((m : Int) ≤ cp) = true := decide_eq_true hp
        subst hu1
        have hy := ((HB3.out.block _ hlx2).trans HY.out)
        obtain ⟨y0, y1, yf⟩ := pair_cells hy
        have yf0 := yf 0
        have yf1 := yf 1
        have HR := Lib.hid (pair_cells (heap_setCell_same _ (w.heap.size + 1) 1 _ _ (.slice ab B.length cb) (heap_setCell_same w3 (w.heap.size + 1) 0 _ _ (.slice ah H.length ch) hy)))
        have HBE := Lib.hid (((HB.out.trans (HB3.out.mono HB.out.size)).setCell (p := ⟨w.heap.size + 1, 0, none⟩) (Nat.le_succ _) (.slice ah H.length ch)).setCell (p := ⟨w.heap.size + 1, 1, none⟩) (Nat.le_succ _) (.slice ab B.length cb))
        have HPE := Lib.hid (show ((w3.setCell ⟨w.heap.size + 1, 0, none⟩ (.slice ah H.length ch)).setCell ⟨w.heap.size + 1, 1, none⟩ (.slice ab B.length cb)).heap[wr.heap.size]? = some (.cells #[.string changeS, .int .i64 (i : Int)] 146 (0, 0)) by
          rw [heap_setCell_other _ _ _ _ (by dsimp only; have := HWR.out; omega), heap_setCell_other _ _ _ _ (by dsimp only; have := HWR.out; omega)]; exact HPL.out)
        clear hy yf
        obtain ⟨G, hG⟩ : ∃ G, G = wr.heap.size := ⟨_, rfl⟩
        rw [← hG] at HPE
        rw [← hG]
        clear hG
        go_wp2_with fail
        obtain ⟨r0, r1, _⟩ := HR.out
        exact bodyPost_ret (v := .tuple #[.agg #[.slice ah H.length ch, .slice ab B.length cb], .slice none 0 0, .slice (some ⟨G, 0, none⟩) 1 1, .int .i64 2]) (by simp [results, Tryz.results35, go_sem, r0, r1]) rfl ⟨_, rfl, rdp_heap HPE.out, HBE.out⟩
      · rw [if_neg hp] at hu1
        have g1 : decide ((m : Int) ≤ cp) = false := decide_eq_false hp
        have hcp : 0 ≤ cp ∧ cp < (m : Int) := ⟨hcf.1, by omega⟩
        have hlw0 : w.heap.size < w3.heap.size := by have := HB3.out.size; omega
        have hw2 : ∀ W, Below w3.heap.size w3 W → Batch.Sl W (.slice ab B.length cb) B := fun W hW => HBB.out.below (HB.out.trans ((HB3.out.trans (hW.mono HB3.out.size)).mono HB.out.size))
        have HW2 := Lib.hid hw2
        clear hw2
        go_upto_region 11 with fail
        go_region_held3 (fun w' => w'.cell? ⟨w.heap.size, 1, none⟩ = some (.slice ab B.length cb) ∧ w'.cell? ⟨gc, i * 3, none⟩ = some (.int .i64 cp) ∧ w'.cell? ⟨gc, i * 3 + 1, none⟩ = some (.int .u64 ct))
          (first
            | go_keep
            | (go_split_ands
               refine ⟨?_, ?_, ?_⟩ <;> (rw [hcb.cell (by simp; omega)]; assumption)))
          ((go_at_call 21; refine (Batch.refof_any cp ct (HW2.out _ (below_drewN (Below.refl _ _) 1)).rd HBR2.out).mono ?_; rintro e w4 ⟨rfl, hcb⟩))
        have hb34 : Below w3.heap.size w3 w4 := (below_drewN (Below.refl w3.heap.size w3) 1).trans hcb
        have HB4 := Lib.hid (HB3.out.trans (hb34.mono HB3.out.size))
        have HX4 := Lib.hid ((hb34.block _ hlw0).trans HX3.out)
        have HPL4 := Lib.hid ((hb34.block _ (Array.getElem?_eq_some_iff.1 HPL.out).1).trans HPL.out)
        have hgc4 := Nat.lt_of_lt_of_le hgc3 hb34.size
        replace c0 := (hb34.cell (p := ⟨gc, i * 3, none⟩) hgc3).trans c0
        replace c1 := (hb34.cell (p := ⟨gc, i * 3 + 1, none⟩) hgc3).trans c1
        replace c2 := (hb34.cell (p := ⟨gc, i * 3 + 2, none⟩) hgc3).trans c2
        clear hcb hb34 x0 x1 hgc3 hlw0
        obtain ⟨x0, x1, _⟩ := pair_cells HX4.out
        generalize hT : Batch.tot B cp ct = T at hu1 hcs
        clear hT
        have hw5 : IntKind.i64.wrap (T + cd) = T + cd := by rw [IntKind.wrap_i64]; omega
        by_cases hd : 0 < cd
        · have g2 : decide (0 < cd) = true := decide_eq_true hd
          cases hlb : letsB M m A ⟨cp, ct, cd⟩ with
          | false =>
            rw [if_pos (.inl ⟨hd, hlb⟩)] at hu1
            go_wp2_with fail
            go_at_call 76
            refine (reflets_any (c := ⟨cp, ct, cd⟩) (HA.out.below HB4.out) HA0.out (HM.out.below (HB.out.trans (HB4.out.mono HB.out.size))) hMU hm hcw (j := cp.toNat) (by show cp = ((cp.toNat : Nat) : Int); omega) (by omega)).mono ?_
            rintro e w5 ⟨rfl, hb45⟩
            rw [hlb]
            have HB5 := Lib.hid (HB4.out.trans (hb45.mono HB4.out.size))
            have HX5 := Lib.hid ((hb45.block _ (Array.getElem?_eq_some_iff.1 HX4.out).1).trans HX4.out)
            have HPL5 := Lib.hid ((hb45.block _ (Array.getElem?_eq_some_iff.1 HPL4.out).1).trans HPL4.out)
            replace c0 := (hb45.cell (p := ⟨gc, i * 3, none⟩) hgc4).trans c0
            replace c1 := (hb45.cell (p := ⟨gc, i * 3 + 1, none⟩) hgc4).trans c1
            replace c2 := (hb45.cell (p := ⟨gc, i * 3 + 2, none⟩) hgc4).trans c2
            clear hb45 x0 x1
            obtain ⟨x0, x1, _⟩ := pair_cells HX5.out
            subst hu1
            have hy := ((HB5.out.block _ hlx2).trans HY.out)
            obtain ⟨y0, y1, yf⟩ := pair_cells hy
            have yf0 := yf 0
            have yf1 := yf 1
            have HR := Lib.hid (pair_cells (heap_setCell_same _ (w.heap.size + 1) 1 _ _ (.slice ab B.length cb) (heap_setCell_same w5 (w.heap.size + 1) 0 _ _ (.slice ah H.length ch) hy)))
            have HBE := Lib.hid (((HB.out.trans (HB5.out.mono HB.out.size)).setCell (p := ⟨w.heap.size + 1, 0, none⟩) (Nat.le_succ _) (.slice ah H.length ch)).setCell (p := ⟨w.heap.size + 1, 1, none⟩) (Nat.le_succ _) (.slice ab B.length cb))
            have HPE := Lib.hid (show ((w5.setCell ⟨w.heap.size + 1, 0, none⟩ (.slice ah H.length ch)).setCell ⟨w.heap.size + 1, 1, none⟩ (.slice ab B.length cb)).heap[wr.heap.size]? = some (.cells #[.string changeS, .int .i64 (i : Int)] 146 (0, 0)) by
              rw [heap_setCell_other _ _ _ _ (by dsimp only; have := HWR.out; omega), heap_setCell_other _ _ _ _ (by dsimp only; have := HWR.out; omega)]; exact HPL5.out)
            clear hy yf
            obtain ⟨G, hG⟩ : ∃ G, G = wr.heap.size := ⟨_, rfl⟩
            rw [← hG] at HPE
            rw [← hG]
            clear hG
            go_wp2_with fail
            obtain ⟨r0, r1, _⟩ := HR.out
            exact bodyPost_ret (v := .tuple #[.agg #[.slice ah H.length ch, .slice ab B.length cb], .slice none 0 0, .slice (some ⟨G, 0, none⟩) 1 1, .int .i64 5]) (by simp [results, Tryz.results35, go_sem, r0, r1]) rfl ⟨_, rfl, rdp_heap HPE.out, HBE.out⟩
          | true =>
            go_wp2_with fail
            go_at_call 76
            refine (reflets_any (c := ⟨cp, ct, cd⟩) (HA.out.below HB4.out) HA0.out (HM.out.below (HB.out.trans (HB4.out.mono HB.out.size))) hMU hm hcw (j := cp.toNat) (by show cp = ((cp.toNat : Nat) : Int); omega) (by omega)).mono ?_
            rintro e w5 ⟨rfl, hb45⟩
            rw [hlb]
            have HB5 := Lib.hid (HB4.out.trans (hb45.mono HB4.out.size))
            have HX5 := Lib.hid ((hb45.block _ (Array.getElem?_eq_some_iff.1 HX4.out).1).trans HX4.out)
            have HPL5 := Lib.hid ((hb45.block _ (Array.getElem?_eq_some_iff.1 HPL4.out).1).trans HPL4.out)
            replace c0 := (hb45.cell (p := ⟨gc, i * 3, none⟩) hgc4).trans c0
            replace c1 := (hb45.cell (p := ⟨gc, i * 3 + 1, none⟩) hgc4).trans c1
            replace c2 := (hb45.cell (p := ⟨gc, i * 3 + 2, none⟩) hgc4).trans c2
            clear hb45 x0 x1
            obtain ⟨x0, x1, _⟩ := pair_cells HX5.out
            by_cases hn : T + cd < 0
            · rw [if_pos (.inr hn)] at hu1
              have g3 : decide (T + cd < 0) = true := decide_eq_true hn
              subst hu1
              have hy := ((HB5.out.block _ hlx2).trans HY.out)
              obtain ⟨y0, y1, yf⟩ := pair_cells hy
              have yf0 := yf 0
              have yf1 := yf 1
              have HR := Lib.hid (pair_cells (heap_setCell_same _ (w.heap.size + 1) 1 _ _ (.slice ab B.length cb) (heap_setCell_same w5 (w.heap.size + 1) 0 _ _ (.slice ah H.length ch) hy)))
              have HBE := Lib.hid (((HB.out.trans (HB5.out.mono HB.out.size)).setCell (p := ⟨w.heap.size + 1, 0, none⟩) (Nat.le_succ _) (.slice ah H.length ch)).setCell (p := ⟨w.heap.size + 1, 1, none⟩) (Nat.le_succ _) (.slice ab B.length cb))
              have HPE := Lib.hid (show ((w5.setCell ⟨w.heap.size + 1, 0, none⟩ (.slice ah H.length ch)).setCell ⟨w.heap.size + 1, 1, none⟩ (.slice ab B.length cb)).heap[wr.heap.size]? = some (.cells #[.string changeS, .int .i64 (i : Int)] 146 (0, 0)) by
                rw [heap_setCell_other _ _ _ _ (by dsimp only; have := HWR.out; omega), heap_setCell_other _ _ _ _ (by dsimp only; have := HWR.out; omega)]; exact HPL5.out)
              clear hy yf
              obtain ⟨G, hG⟩ : ∃ G, G = wr.heap.size := ⟨_, rfl⟩
              rw [← hG] at HPE
              rw [← hG]
              clear hG
              go_wp2_with fail
              obtain ⟨r0, r1, _⟩ := HR.out
              exact bodyPost_ret (v := .tuple #[.agg #[.slice ah H.length ch, .slice ab B.length cb], .slice none 0 0, .slice (some ⟨G, 0, none⟩) 1 1, .int .i64 5]) (by simp [results, Tryz.results35, go_sem, r0, r1]) rfl ⟨_, rfl, rdp_heap HPE.out, HBE.out⟩
            · rw [if_neg (fun h => h.elim (fun h => by rw [hlb] at h; exact absurd h.2 (by decide)) hn)] at hu1
              have g3 : decide (T + cd < 0) = false := decide_eq_false hn
              have ho : 1125899906842624 < T + cd := by
                by_cases ho : 1125899906842624 < T + cd
                · exact ho
                · rw [if_neg ho] at hu1; exact absurd hu1.symm HK0.out
              rw [if_pos ho] at hu1
              have g4 : decide (1125899906842624 < T + cd) = true := decide_eq_true ho
              subst hu1
              have hy := ((HB5.out.block _ hlx2).trans HY.out)
              obtain ⟨y0, y1, yf⟩ := pair_cells hy
              have yf0 := yf 0
              have yf1 := yf 1
              have HR := Lib.hid (pair_cells (heap_setCell_same _ (w.heap.size + 1) 1 _ _ (.slice ab B.length cb) (heap_setCell_same w5 (w.heap.size + 1) 0 _ _ (.slice ah H.length ch) hy)))
              have HBE := Lib.hid (((HB.out.trans (HB5.out.mono HB.out.size)).setCell (p := ⟨w.heap.size + 1, 0, none⟩) (Nat.le_succ _) (.slice ah H.length ch)).setCell (p := ⟨w.heap.size + 1, 1, none⟩) (Nat.le_succ _) (.slice ab B.length cb))
              have HPE := Lib.hid (show ((w5.setCell ⟨w.heap.size + 1, 0, none⟩ (.slice ah H.length ch)).setCell ⟨w.heap.size + 1, 1, none⟩ (.slice ab B.length cb)).heap[wr.heap.size]? = some (.cells #[.string changeS, .int .i64 (i : Int)] 146 (0, 0)) by
                rw [heap_setCell_other _ _ _ _ (by dsimp only; have := HWR.out; omega), heap_setCell_other _ _ _ _ (by dsimp only; have := HWR.out; omega)]; exact HPL5.out)
              clear hy yf
              obtain ⟨G, hG⟩ : ∃ G, G = wr.heap.size := ⟨_, rfl⟩
              rw [← hG] at HPE
              rw [← hG]
              clear hG
              go_wp2_with fail
              obtain ⟨r0, r1, _⟩ := HR.out
              exact bodyPost_ret (v := .tuple #[.agg #[.slice ah H.length ch, .slice ab B.length cb], .slice none 0 0, .slice (some ⟨G, 0, none⟩) 1 1, .int .i64 10]) (by simp [results, Tryz.results35, go_sem, r0, r1]) rfl ⟨_, rfl, rdp_heap HPE.out, HBE.out⟩
        · have g2 : decide (0 < cd) = false := decide_eq_false hd
          by_cases hn : T + cd < 0
          · rw [if_pos (.inr hn)] at hu1
            have g3 : decide (T + cd < 0) = true := decide_eq_true hn
            subst hu1
            have hy := ((HB4.out.block _ hlx2).trans HY.out)
            obtain ⟨y0, y1, yf⟩ := pair_cells hy
            have yf0 := yf 0
            have yf1 := yf 1
            have HR := Lib.hid (pair_cells (heap_setCell_same _ (w.heap.size + 1) 1 _ _ (.slice ab B.length cb) (heap_setCell_same w4 (w.heap.size + 1) 0 _ _ (.slice ah H.length ch) hy)))
            have HBE := Lib.hid (((HB.out.trans (HB4.out.mono HB.out.size)).setCell (p := ⟨w.heap.size + 1, 0, none⟩) (Nat.le_succ _) (.slice ah H.length ch)).setCell (p := ⟨w.heap.size + 1, 1, none⟩) (Nat.le_succ _) (.slice ab B.length cb))
            have HPE := Lib.hid (show ((w4.setCell ⟨w.heap.size + 1, 0, none⟩ (.slice ah H.length ch)).setCell ⟨w.heap.size + 1, 1, none⟩ (.slice ab B.length cb)).heap[wr.heap.size]? = some (.cells #[.string changeS, .int .i64 (i : Int)] 146 (0, 0)) by
              rw [heap_setCell_other _ _ _ _ (by dsimp only; have := HWR.out; omega), heap_setCell_other _ _ _ _ (by dsimp only; have := HWR.out; omega)]; exact HPL4.out)
            clear hy yf
            obtain ⟨G, hG⟩ : ∃ G, G = wr.heap.size := ⟨_, rfl⟩
            rw [← hG] at HPE
            rw [← hG]
            clear hG
            go_wp2_with fail
            obtain ⟨r0, r1, _⟩ := HR.out
            exact bodyPost_ret (v := .tuple #[.agg #[.slice ah H.length ch, .slice ab B.length cb], .slice none 0 0, .slice (some ⟨G, 0, none⟩) 1 1, .int .i64 5]) (by simp [results, Tryz.results35, go_sem, r0, r1]) rfl ⟨_, rfl, rdp_heap HPE.out, HBE.out⟩
          · rw [if_neg (fun h => h.elim (fun h => hd h.1) hn)] at hu1
            have g3 : decide (T + cd < 0) = false := decide_eq_false hn
            have ho : 1125899906842624 < T + cd := by
              by_cases ho : 1125899906842624 < T + cd
              · exact ho
              · rw [if_neg ho] at hu1; exact absurd hu1.symm HK0.out
            rw [if_pos ho] at hu1
            have g4 : decide (1125899906842624 < T + cd) = true := decide_eq_true ho
            subst hu1
            have hy := ((HB4.out.block _ hlx2).trans HY.out)
            obtain ⟨y0, y1, yf⟩ := pair_cells hy
            have yf0 := yf 0
            have yf1 := yf 1
            have HR := Lib.hid (pair_cells (heap_setCell_same _ (w.heap.size + 1) 1 _ _ (.slice ab B.length cb) (heap_setCell_same w4 (w.heap.size + 1) 0 _ _ (.slice ah H.length ch) hy)))
            have HBE := Lib.hid (((HB.out.trans (HB4.out.mono HB.out.size)).setCell (p := ⟨w.heap.size + 1, 0, none⟩) (Nat.le_succ _) (.slice ah H.length ch)).setCell (p := ⟨w.heap.size + 1, 1, none⟩) (Nat.le_succ _) (.slice ab B.length cb))
            have HPE := Lib.hid (show ((w4.setCell ⟨w.heap.size + 1, 0, none⟩ (.slice ah H.length ch)).setCell ⟨w.heap.size + 1, 1, none⟩ (.slice ab B.length cb)).heap[wr.heap.size]? = some (.cells #[.string changeS, .int .i64 (i : Int)] 146 (0, 0)) by
              rw [heap_setCell_other _ _ _ _ (by dsimp only; have := HWR.out; omega), heap_setCell_other _ _ _ _ (by dsimp only; have := HWR.out; omega)]; exact HPL4.out)
            clear hy yf
            obtain ⟨G, hG⟩ : ∃ G, G = wr.heap.size := ⟨_, rfl⟩
            rw [← hG] at HPE
            rw [← hG]
            clear hG
            go_wp2_with fail
            obtain ⟨r0, r1, _⟩ := HR.out
            exact bodyPost_ret (v := .tuple #[.agg #[.slice ah H.length ch, .slice ab B.length cb], .slice none 0 0, .slice (some ⟨G, 0, none⟩) 1 1, .int .i64 10]) (by simp [results, Tryz.results35, go_sem, r0, r1]) rfl ⟨_, rfl, rdp_heap HPE.out, HBE.out⟩
end Go.Proofs.YtlkljeedlkbkgaaGreatDoor.Cl
