/-
  YtlkljeedlkbkgaaGreatDoorClRefUpOk
  YtlkljeedlkbkgaaGreatDoorGFew
  YtlkljeedlkbkgaaGreatDoorFaultFew
  YtlkljeedlkbkgaaGreatDoorFaultWrap
  YtlkljeedlkbkgaaGreatDoorFaultRef
  YtlkljeedlkbkgaaGreatDoorGChecksLaw
-/
import Derived.Test.YtlkljeedlkbkgaaGreatDoorJoined27
import Derived.Test.YtlkljeedlkbkgaaGreatDoorJoined25
import Derived.Test.YtlkljeedlkbkgaaGreatDoorJoined17
import Derived.Test.YtlkljeedlkbkgaaGreatDoorJoined8
import Derived.Test.YtlkljeedlkbkgaaGreatDoorJoined28
import Derived.BigQuiet
import Derived.Deep.RegionHeldLaw
import Derived.Test.YtlkljeedlkbkgaaGreatDoorGTo
import Derived.BigRegion
import Derived.Test.YtlkljeedlkbkgaaGreatDoorJoined22
import Derived.StillTactics
import Derived.Deep.RegionHeld3
import Derived.Deep.AppendLies
import Derived.StillTailTactics
namespace Go.Proofs.YtlkljeedlkbkgaaGreatDoor.Cl
open Go.RowKit Gr Go.Proofs.YtlkljeedlkbkgaaGreatDoor.Fault
set_option linter.unusedVariables false
set_option linter.unusedSimpArgs false
set_option maxRecDepth 1000000 in
set_option maxHeartbeats 16000000 in
theorem refupdate_ok {w : World} {vh vb vp vl : Value} {H : List Ed} {B l : List Batch.Ch} {m base : Nat} {M : Nat → Nat → Int} (hH : Sl w vh H) (hB : Batch.Sl w vb B) (hl : H.length ≤ 1000) (hlb : B.length ≤ 10000) (hP : HoldP B) (hA : Batch.BagP (allL H B)) (hv : Batch.Rd w vl l) (hk : Batch.packE l = 0) (hM : Mat w base vp m M) (hMU : MU M m) (hm : m ≤ 64) (hok : ∀ c ∈ Batch.packR l, upE B (allL H B) M m c = 0) :
    Calls Tryz.prog 35 #[.agg #[vh, vb], vp, vl] w fun e w' => ∃ vb' v, e = .returned (.tuple #[.agg #[vh, vb'], v, .slice none 0 0, .int .i64 0]) ∧ Batch.Own w' w.heap.size 67 vb' (Batch.applyR B (Batch.packR l)) ∧ Batch.Own w' w.heap.size 67 v (Batch.packR l) ∧ Below w.heap.size w w' := by
  have HH := Lib.hid hH
  have HBB := Lib.hid hB
  have HV := Lib.hid hv
  have HAP := Lib.hid hA
  have HM := Lib.hid hM
  have HBR2 := Lib.hid hP.bag.right.2
  obtain ⟨gM, rM, rfl, _⟩ := hM
  have HU := Lib.hid (show ∀ c ∈ Batch.packR l, upE B (allL H B) M m c = 0 from hok)
  clear hok hA
  obtain ⟨C, hCe⟩ : ∃ C, C = Batch.packR l := ⟨_, rfl⟩
  obtain ⟨BB, hBB⟩ : ∃ BB, BB = Batch.applyR B C := ⟨_, rfl⟩
  rw [← hCe] at HU
  rw [← hCe, ← hBB]
  have HBBE := Lib.hid hBB
  have HCE := Lib.hid hCe
  clear hCe hBB
  obtain ⟨ah, ch, e1, _⟩ := hH
  obtain ⟨ab, cb, e2, _⟩ := hB
  obtain ⟨al, cl, e3, _⟩ := hv
  subst e1 e2 e3
  obtain ⟨w0, hw0⟩ : ∃ w0, w0 = (w.alloc (.cells #[.slice ah H.length ch, .slice ab B.length cb] 29)).alloc (.cells #[.slice none 0 0, .slice none 0 0] 29) := ⟨_, rfl⟩
  have hb0 : Below w.heap.size w w0 := by rw [hw0]; exact ((Below.refl _ _).alloc (Nat.le_refl _) _).alloc (by simp) _
  have hs0 : w0.heap.size = w.heap.size + 1 + 1 := by rw [hw0]; simp
  have hx0 : w0.heap[w.heap.size]? = some (.cells #[.slice ah H.length ch, .slice ab B.length cb] 29 (0, 0)) := by rw [hw0, heap_alloc_old _ _ (by simp)]; exact heap_alloc_new w _
  have hy0 : w0.heap[w.heap.size + 1]? = some (.cells #[.slice none 0 0, .slice none 0 0] 29 (0, 0)) := by
    rw [hw0]; have := heap_alloc_new (w.alloc (.cells #[.slice ah H.length ch, .slice ab B.length cb] 29)) (.cells #[.slice none 0 0, .slice none 0 0] 29); simpa using this
  have HX := Lib.hid hx0
  have HY := Lib.hid hy0
  have HB := Lib.hid hb0
  have HS := Lib.hid hs0
  have HPK := Lib.hid (Batch.refpack_any (w := w0) (HV.out.below hb0))
  clear hb0 hx0 hy0 hs0
  go_enter Tryz.func35, Tryz.ntmps35
  go_upto_region 1 with fail
  rw [← hw0]
  clear hw0
  go_wp2_with fail
  go_at_call 75
  refine HPK.out.mono ?_
  rintro e w1 ⟨v1, rfl, hown, hb⟩
  replace HX := Lib.hid ((hb.block _ (by have := HS.out; omega)).trans HX.out)
  replace HY := Lib.hid ((hb.block _ (by have := HS.out; omega)).trans HY.out)
  replace HB := Lib.hid (HB.out.trans (hb.mono HB.out.size))
  rw [hk]
  have HCR := Lib.hid (Batch.pack_right HV.out.wf hk)
  have HCW := Lib.hid (packR_wf HV.out.wf)
  have HCL := Lib.hid (packR_len hk)
  rw [← HCE.out] at hown HCR HCW HCL
  clear hk
  obtain ⟨av, cv, rfl⟩ := formB hown
  have HC := Lib.hid hown
  have hcl : C.length ≤ 16 := HCL.out
  have HC0 := Lib.hid (And.intro (show w.heap.size + 1 < w0.heap.size by have := HS.out; omega) (World.ownsRow.lt hown))
  clear hb hown
  obtain ⟨x0, x1, _⟩ := pair_cells HX.out
  go_wp2_with fail
  go_at_call 43
  refine (refall_any (HH.out.below HB.out) (HBB.out.below HB.out) hP (by omega) (by omega)).mono ?_
  rintro e w2 ⟨va, rfl, hoa, hb⟩
  have HA := Lib.hid (hoa.sl (all_wf HH.out.wf HBB.out.wf))
  have HA0 := Lib.hid (fun x (hx : x ∈ allL H B) => (HAP.out.right.fit x hx).1)
  obtain ⟨aa, ca, hva⟩ := formB hoa
  generalize allL H B = A at HA HA0 HU hva
  subst hva
  replace HX := Lib.hid ((hb.block _ (Array.getElem?_eq_some_iff.1 HX.out).1).trans HX.out)
  replace HY := Lib.hid ((hb.block _ (Array.getElem?_eq_some_iff.1 HY.out).1).trans HY.out)
  replace HB := Lib.hid (HB.out.trans (hb.mono HB.out.size))
  replace HC := Lib.hid (HC.out.below hb)
  replace HC0 := Lib.hid (show w.heap.size + 1 < w0.heap.size ∧ ∀ k, (Value.slice av C.length cv).ownBlock = some k → w0.heap.size ≤ k ∧ k < w2.heap.size from ⟨HC0.out.1, fun k e => ⟨(HC0.out.2 k e).1, Nat.lt_of_lt_of_le (HC0.out.2 k e).2 hb.size⟩⟩)
  have hlx2 : w.heap.size + 1 < w2.heap.size := (Array.getElem?_eq_some_iff.1 HY.out).1
  clear hb hoa x0 x1
  go_wp2_with fail
  have hlen : C.length ≤ 9223372036854775807 := by omega
  go_loopg [13] C.length (fun k s13 wr => ∃ i : Nat, i + k = C.length ∧ s13 = .int .i64 i ∧ i ≤ C.length ∧ Hid (Below w2.heap.size w2 wr))
  case atStart => exact ⟨0, by omega, rfl, by omega, Lib.hid (Below.refl _ _)⟩
  case round =>
    obtain ⟨i, hik, rfl, hile, HBR⟩ := hrel
    have HLE := Lib.hid hile
    clear hile
    by_cases hlt : i < C.length
    · skip
      have HIK := Lib.hid hik
      have hi0 : (0 : Int) ≤ (i : Int) := Int.natCast_nonneg _
      have hbs : w2.heap.size ≤ wr.heap.size := HBR.out.size
      obtain ⟨c, hc, hcm⟩ := Batch.at_of hlt
      obtain ⟨gc, cc', hvc, hgc1, hgc2, _⟩ := HC.out.form.resolve_left (fun h => by rw [h.1] at hlt; simp at hlt)
      simp only [Value.slice.injEq] at hvc
      obtain ⟨rfl, _, rfl⟩ := hvc
      have hi1 : (i : Int) < (C.length : Int) := by omega
      have HCI := Lib.hid hc
      have HLT := Lib.hid hlt
      have HCM := Lib.hid hcm
      have hcw := HCW.out c hcm
      have hcf := HCR.out.fit c hcm
      have hcs := fit_sum hP HCR.out hcm
      have hu1 : upE B A M m c = 0 := HU.out c hcm
      obtain ⟨w3, hw3⟩ : ∃ w3, w3 = wr.alloc (.cells #[.string { data := #[99, 104, 97, 110, 103, 101] }, .int .i64 (i : Int)] 146) := ⟨_, rfl⟩
      have hb3 : Below w2.heap.size w2 w3 := by rw [hw3]; exact HBR.out.alloc hbs _
      have hpl : w3.heap[wr.heap.size]? = some (.cells #[.string changeS, .int .i64 (i : Int)] 146 (0, 0)) := by rw [hw3]; exact heap_alloc_new wr _
      have HPL := Lib.hid hpl
      have HB3 := Lib.hid hb3
      have HWR := Lib.hid hbs
      obtain ⟨c0, c1, c2⟩ := (HC.out.at hc).below HB3.out hgc2
      have hx3 := (hb3.block _ (Nat.lt_of_succ_lt hlx2)).trans HX.out
      obtain ⟨x0, x1, _⟩ := pair_cells hx3
      obtain ⟨k0, k1, k2⟩ := (HC.out.at hc).below HBR.out hgc2
      have HX3 := Lib.hid hx3
      have hgc3 : gc < w3.heap.size := Nat.lt_of_lt_of_le hgc2 hb3.size
      have hgcr : gc < wr.heap.size := Nat.lt_of_lt_of_le hgc2 hbs
      obtain ⟨cp, ct, cd⟩ := c
      simp only at c0 c1 c2 k0 k1 k2 hcf hcw hcs
      clear hik hbs hc hpl hb3 hx3 hlt
      go_upto_region 9 with fail
      rw [← hw3]
      clear hw3 k0 k1 k2 hgcr
      obtain ⟨hz1, hz2, hz3, hz4⟩ := upE_zero hu1
      simp only at hz1 hz2 hz3 hz4
      have g1 : decide ((m : Int) ≤ cp) = false := decide_eq_false (by omega)
      have hcp : 0 ≤ cp ∧ cp < (m : Int) := ⟨hcf.1, by omega⟩
      have hlw0 : w.heap.size < w3.heap.size := by have := HB3.out.size; omega
      have hw2 : ∀ W, Below w3.heap.size w3 W → Batch.Sl W (.slice ab B.length cb) B := fun W hW => HBB.out.below (HB.out.trans ((HB3.out.trans (hW.mono HB3.out.size)).mono HB.out.size))
      have HW2 := Lib.hid hw2
      clear hw2
      go_upto_region 11 with fail
      go_region_held3 (fun w' => w'.cell? ⟨w.heap.size, 1, none⟩ = some (.slice ab B.length cb) ∧ w'.cell? ⟨gc, i * 3, none⟩ = some (.int .i64 cp) ∧ w'.cell? ⟨gc, i * 3 + 1, none⟩ = some (.int .u64 ct))
        (first
          | go_keep
          | (go_split_ands
             refine ⟨?_, ?_, ?_⟩ <;> (rw [hcb.cell (by simp; omega)]; assumption)))
        ((go_at_call 21; refine (Batch.refof_any cp ct (HW2.out _ (below_drewN (Below.refl _ _) 1)).rd HBR2.out).mono ?_; rintro e w4 ⟨rfl, hcb⟩))
      have hb34 : Below w3.heap.size w3 w4 := (below_drewN (Below.refl w3.heap.size w3) 1).trans hcb
      have HB4 := Lib.hid (HB3.out.trans (hb34.mono HB3.out.size))
      have HX4 := Lib.hid ((hb34.block _ hlw0).trans HX3.out)
      have HPL4 := Lib.hid ((hb34.block _ (Array.getElem?_eq_some_iff.1 HPL.out).1).trans HPL.out)
      have hgc4 := Nat.lt_of_lt_of_le hgc3 hb34.size
      replace c0 := (hb34.cell (p := ⟨gc, i * 3, none⟩) hgc3).trans c0
      replace c1 := (hb34.cell (p := ⟨gc, i * 3 + 1, none⟩) hgc3).trans c1
      replace c2 := (hb34.cell (p := ⟨gc, i * 3 + 2, none⟩) hgc3).trans c2
      clear hcb hb34 x0 x1 hgc3 hlw0
      obtain ⟨x0, x1, _⟩ := pair_cells HX4.out
      generalize hT : Batch.tot B cp ct = T at hz3 hz4 hcs
      clear hT
      have hw5 : IntKind.i64.wrap (T + cd) = T + cd := by rw [IntKind.wrap_i64]; omega
      have g3 : decide (T + cd < 0) = false := decide_eq_false (by omega)
      have g4 : decide (1125899906842624 < T + cd) = false := decide_eq_false (by omega)
      by_cases hd : 0 < cd
      · have hlb := hz2 hd
        have g2 : decide (0 < cd) = true := decide_eq_true hd
        clear hz1 hz2 hz3 hz4 hd
        go_wp2_with fail
        go_at_call 76
        refine (reflets_any (c := ⟨cp, ct, cd⟩) (HA.out.below HB4.out) HA0.out (HM.out.below (HB.out.trans (HB4.out.mono HB.out.size))) hMU hm hcw (j := cp.toNat) (by show cp = ((cp.toNat : Nat) : Int); omega) (by omega)).mono ?_
        rintro e w5 ⟨rfl, hb45⟩
        rw [hlb]
        have HB5 := Lib.hid (HB4.out.trans (hb45.mono HB4.out.size))
        have HX5 := Lib.hid ((hb45.block _ (Array.getElem?_eq_some_iff.1 HX4.out).1).trans HX4.out)
        have HPL5 := Lib.hid ((hb45.block _ (Array.getElem?_eq_some_iff.1 HPL4.out).1).trans HPL4.out)
        replace c0 := (hb45.cell (p := ⟨gc, i * 3, none⟩) hgc4).trans c0
        replace c1 := (hb45.cell (p := ⟨gc, i * 3 + 1, none⟩) hgc4).trans c1
        replace c2 := (hb45.cell (p := ⟨gc, i * 3 + 2, none⟩) hgc4).trans c2
        clear hb45 x0 x1
        obtain ⟨x0, x1, _⟩ := pair_cells HX5.out
        go_wp2_with fail
        go_roundg (gk - 1)
        case measure => have := HIK.out; have := HLT.out; omega
        case rel => exact ⟨i + 1, by have := HIK.out; have := HLT.out; omega, by go_num, by have := HLE.out; have := HLT.out; omega, Lib.hid HB5.out⟩
      · have g2 : decide (0 < cd) = false := decide_eq_false hd
        clear hz1 hz2 hz3 hz4 hd
        go_wp2_with fail
        go_roundg (gk - 1)
        case measure => have := HIK.out; have := HLT.out; omega
        case rel => exact ⟨i + 1, by have := HIK.out; have := HLT.out; omega, by go_num, by have := HLE.out; have := HLT.out; omega, Lib.hid HB4.out⟩
    · have h3 : decide ((i : Int) < (C.length : Int)) = false := decide_eq_false (by omega)
      obtain ⟨x0, x1, _⟩ := pair_cells ((HBR.out.block _ (Nat.lt_of_succ_lt hlx2)).trans HX.out)
      have HCR2 := Lib.hid (HC.out.below HBR.out)
      go_wp2_with fail
      go_at_call 77
      refine (Batch.refapply_any (HBB.out.below (HB.out.trans (HBR.out.mono HB.out.size))) (HCR2.out.sl HCW.out) hP.bag HCR.out (by omega)).mono ?_
      rintro e w6 ⟨vn, rfl, hon, hb6⟩
      rw [← HBBE.out] at hon
      obtain ⟨an, cn, rfl⟩ := formB hon
      generalize Batch.applyE B C = EE
      have hb26 := HBR.out.trans (hb6.mono HBR.out.size)
      have hy := (hb26.block _ hlx2).trans HY.out
      have hbs6 := HBR.out.size
      clear x0 x1
      obtain ⟨x0, x1, _⟩ := pair_cells ((hb26.block _ (Nat.lt_of_succ_lt hlx2)).trans HX.out)
      obtain ⟨y0, y1, yf⟩ := pair_cells hy
      have yf0 := yf 0
      have yf1 := yf 1
      have HR := Lib.hid (pair_cells (heap_setCell_same _ (w.heap.size + 1) 1 _ _ (.slice an BB.length cn) (heap_setCell_same w6 (w.heap.size + 1) 0 _ _ (.slice ah H.length ch) hy)))
      have HB6 := Lib.hid hb26
      clear hy yf hb26
      go_wp2_with fail
      obtain ⟨r0, r1, _⟩ := HR.out
      refine bodyPost_ret (v := .tuple #[.agg #[.slice ah H.length ch, .slice an BB.length cn], .slice av C.length cv, .slice none 0 0, .int .i64 0]) (by simp [results, Tryz.results35, go_sem, r0, r1]) rfl ⟨_, _, rfl, ?_, ?_, ?_⟩
      · have h2 := World.ownsRow.lt hon
        exact Batch.Own.mono (ownsRow_setCell_other (ownsRow_setCell_other hon (fun e => by have h := (h2 _ e).1; dsimp only at h; omega) _) (fun e => by have h := (h2 _ e).1; dsimp only at h; omega) _) (by omega)
      · have h1 := HC.out.below HB6.out
        have h2 := HC0.out
        have h3 := HS.out
        exact Batch.Own.mono (ownsRow_setCell_other (ownsRow_setCell_other h1 (fun e => by have h := (h2.2 _ e).1; dsimp only at h; omega) _) (fun e => by have h := (h2.2 _ e).1; dsimp only at h; omega) _) (by omega)
      · exact ((HB.out.trans (HB6.out.mono HB.out.size)).setCell (p := ⟨w.heap.size + 1, 0, none⟩) (Nat.le_succ _) _).setCell (p := ⟨w.heap.size + 1, 1, none⟩) (Nat.le_succ _) _
end Go.Proofs.YtlkljeedlkbkgaaGreatDoor.Cl
namespace Go.Proofs.YtlkljeedlkbkgaaGreatDoor.Gr
open Go.RowKit Go.Deep
set_option linter.unusedVariables false
set_option linter.unusedSimpArgs false
theorem cut_slice {T : TypeId} {s : Nat} (ht : Tryz.prog.underlying T = some (.slice (Tryz.prog.elem T))) (hz : ∀ w, (Go.sizeOf (Tryz.prog.elem T)).run Tryz.prog w = .ok s w) (ao : Option Addr) (n cap k : Nat) (hk : k ≤ cap) (w : World) :
    (Instr.slice T (.slice ao n cap) none (some (.int .i64 (k : Int))) none).run Tryz.prog w = .ok (.slice ao k cap) w := by
  rw [run_slice_h (P := Tryz.prog) (w := w) (t := T) (a := ao) (len := n) (cap := cap) (ht := ht) (kh := .i64) (h := (k : Int)) (h0 := by omega) (h2 := by omega), hz]
  simp only [Result.andThen, sliced, Int.toNat_natCast, Nat.sub_zero, Nat.zero_mul]
  have e : (if cap = 0 then ao else ao.map (·.add 0)) = ao := by
    split
    · rfl
    · cases ao <;> rfl
  rw [e]
theorem few_facts {T : TypeId} {s : Nat} (ht : Tryz.prog.underlying T = some (.slice (Tryz.prog.elem T))) (hz : ∀ w, (Go.sizeOf (Tryz.prog.elem T)).run Tryz.prog w = .ok s w) (ao : Option Addr) (n cap c : Nat) (ci : Int) (hci : ci = (c : Int)) (hk : n ≤ cap) :
    ∃ m : Int, (∀ (ts : Array TypeId) (t : TypeId) (w : World), (Builtin.min_ ts t #[.int .i64 (n : Int), .int .i64 ci]).run Tryz.prog w = .ok (.int .i64 m) w) ∧
      ∀ w, (Instr.slice T (.slice ao n cap) none (some (.int .i64 m)) none).run Tryz.prog w = .ok (.slice ao (min n c) cap) w := by
  refine ⟨((min n c : Nat) : Int), fun ts t w => ?_, fun w => cut_slice ht hz ao n cap _ (by omega) w⟩
  rw [run_min_int2 w ts t .i64 .i64 _ _, show (if ci < (n : Int) then ci else (n : Int)) = ((min n c : Nat) : Int) by split <;> omega]
end Go.Proofs.YtlkljeedlkbkgaaGreatDoor.Gr
namespace Go.Proofs.YtlkljeedlkbkgaaGreatDoor.Fault
open Go.RowKit
set_option linter.unusedVariables false
def Reads (w : World) (v : Value) (l : List Pl) : Prop := ∃ (ao : Option Addr) (cap : Nat), v = .slice ao l.length cap ∧ l.length ≤ 9223372036854775807 ∧ (∀ x ∈ l, x.1.size ≤ 9223372036854775807 ∧ -9223372036854775808 ≤ x.2 ∧ x.2 ≤ 9223372036854775807) ∧
  (l = [] ∨ ∃ b off, ao = some ⟨b, off, none⟩ ∧ ∀ i s n, l[i]? = some (s, n) → w.cell? ⟨b, off + i * 2, none⟩ = some (.string s) ∧ w.cell? ⟨b, off + i * 2 + 1, none⟩ = some (.int .i64 n))
end Go.Proofs.YtlkljeedlkbkgaaGreatDoor.Fault
namespace Go.Proofs.YtlkljeedlkbkgaaGreatDoor.Fault
open Go.RowKit
set_option linter.unusedVariables false
theorem Reads.below {w w' : World} {v : Value} {l : List Pl} (h : Reads w v l) (hb : Below w.heap.size w w') : Reads w' v l := by
  obtain ⟨ao, cap, h1, h2, h3, h4⟩ := h
  refine ⟨ao, cap, h1, h2, h3, ?_⟩
  rcases h4 with h4 | ⟨b, off, h5, h6⟩
  · exact .inl h4
  · refine .inr ⟨b, off, h5, fun i s n hx => ?_⟩
    obtain ⟨q0, q1⟩ := h6 i s n hx
    exact ⟨(hb.cell (p := ⟨b, off + i * 2, none⟩) (Lib.lt_of_cell q0)).trans q0, (hb.cell (p := ⟨b, off + i * 2 + 1, none⟩) (Lib.lt_of_cell q1)).trans q1⟩
end Go.Proofs.YtlkljeedlkbkgaaGreatDoor.Fault
namespace Go.Proofs.YtlkljeedlkbkgaaGreatDoor.Fault
open Go.RowKit
set_option linter.unusedVariables false
def itoaS (n : Int) : ByteArray := ⟨(Lib.itoa n).toArray⟩
theorem itoaS_neg {n : Int} (h : n < 0) : itoaS n = ({ data := #[45] } : ByteArray) ++ Stamp.numS (-(n + 1) + 1) := by
  unfold itoaS Lib.itoa Stamp.numS
  rw [if_pos h, show (-(n + 1) + 1).toNat = n.natAbs by omega]
  apply ByteArray.ext
  simp
theorem itoaS_pos {n : Int} (h : ¬ n < 0) : itoaS n = Stamp.numS n := by unfold itoaS Lib.itoa Stamp.numS; rw [if_neg h]
theorem itoaS_size {n : Int} (h0 : -9223372036854775808 ≤ n) (h1 : n ≤ 9223372036854775807) : (itoaS n).size ≤ 21 := by
  have := itoa_length n h0 h1
  show (Lib.itoa n).toArray.size ≤ 21
  rw [List.size_toArray]; exact this
theorem num_any (n : Int) (h0 : -9223372036854775808 ≤ n) (h1 : n ≤ 9223372036854775807) (w : World) :
    Calls Tryz.prog 82 #[.int .i64 n] w fun e w' => e = .returned (.string (itoaS n)) ∧ ∃ m, w' = w.drewN m := by
  by_cases hn : n < 0
  · have HR := Lib.hid (itoaS_neg hn)
    have hu : Stamp.U (-(n + 1) + 1) := by unfold Stamp.U; omega
    have HC := Lib.hid (Stamp.refNum_any (-(n + 1) + 1).toNat (-(n + 1) + 1) w (by omega) hu)
    have hsz := Stamp.numS_size hu
    go_enter Tryz.func82, Tryz.ntmps82
    go_wp2_with fail
    go_at_call 118
    refine HC.out.mono ?_
    rintro e w' ⟨rfl, m, rfl⟩
    go_wp2_with fail
    go_ret
    exact ⟨by rw [HR.out]; rfl, m, rfl⟩
  · have HR := Lib.hid (itoaS_pos hn)
    have hu : Stamp.U n := by unfold Stamp.U; omega
    have HC := Lib.hid (Stamp.refNum_any n.toNat n w (by omega) hu)
    have hn0 : 0 ≤ n := by omega
    go_enter Tryz.func82, Tryz.ntmps82
    go_wp2_with fail
    go_at_call 118
    refine HC.out.mono ?_
    rintro e w' ⟨rfl, m, rfl⟩
    go_wp2_with fail
    go_ret
    exact ⟨by rw [HR.out]; rfl, m, rfl⟩
set_option maxRecDepth 100000 in
set_option maxHeartbeats 4000000 in
theorem word_any (k : Int) (h0 : 1 ≤ k) (h1 : k ≤ 14) (w : World) : Calls Tryz.prog 83 #[.int .i64 k] w fun e w' => e = .returned (.string (wordS k)) ∧ Below w.heap.size w w' := by
  have hk : k = 1 ∨ k = 2 ∨ k = 3 ∨ k = 4 ∨ k = 5 ∨ k = 6 ∨ k = 7 ∨ k = 8 ∨ k = 9 ∨ k = 10 ∨ k = 11 ∨ k = 12 ∨ k = 13 ∨ k = 14 := by omega
  clear h0 h1
  rcases hk with rfl | rfl | rfl | rfl | rfl | rfl | rfl | rfl | rfl | rfl | rfl | rfl | rfl | rfl
  all_goals
    go_enter Tryz.func83, Tryz.ntmps83
    go_wp2
    go_ret
    exact ⟨rfl, (Below.refl _ _).alloc (Nat.le_refl _) _⟩
set_option maxRecDepth 1000000 in
set_option maxHeartbeats 4000000 in
theorem refTextF_any {w : World} {v : Value} {l : List Pl} (k : Int) (h0 : 1 ≤ k) (h1 : k ≤ 14) (hv : Reads w v l) (hl : l.length ≤ 12) (hs : ∀ x ∈ l, Small x) :
    Calls Tryz.prog 38 #[v, .int .i64 k] w fun e w' => e = .returned (.string ⟨(textL l k).toArray⟩) ∧ Below w.heap.size w w' := by
  obtain ⟨ao, cap, rfl, hlen, hok, hcell⟩ := hv
  have HC := Lib.hid hcell
  have HS := Lib.hid hs
  clear hok hcell hs
  go_enter Tryz.func38, Tryz.ntmps38
  go_wp2
  go_loopg [5, 6] l.length (fun j o t wr => ∃ (i : Nat) (A : ByteArray), i + j = l.length ∧ t = .int .i64 i ∧ o = .string A ∧ A.data.toList = placesL (l.take i) ∧ Below w.heap.size w wr)
  case atStart => exact ⟨0, ⟨#[]⟩, by omega, rfl, rfl, rfl, Below.refl _ _⟩
  case round =>
    obtain ⟨i, A, hij, rfl, rfl, hA, hbw⟩ := hrel
    have HA := Lib.hid hA
    have HIJ := Lib.hid hij
    have HB := Lib.hid hbw
    have hAs : A.size ≤ 528 := by
      have e : A.size = A.data.toList.length := rfl
      have h3 := placesL_length (l.take i) (fun x hx => HS.out x (List.mem_of_mem_take hx))
      have h4 : (l.take i).length ≤ 12 := by rw [List.length_take]; omega
      rw [e, hA]; omega
    clear hA hij
    by_cases hlt1 : i < l.length
    · obtain ⟨s, n, hx⟩ : ∃ s n, l[i]? = some (s, n) := ⟨_, _, List.getElem?_eq_getElem hlt1⟩
      have hne : l ≠ [] := by intro e; rw [e] at hlt1; simp at hlt1
      obtain ⟨b, off, hao, hcc⟩ := HC.out.resolve_left hne
      obtain ⟨q0, q1⟩ := hcc i s n hx
      have hbl := Lib.lt_of_cell q0
      have c0 := (hbw.cell (p := ⟨b, off + i * 2, none⟩) hbl).trans q0
      have c1 := (hbw.cell (p := ⟨b, off + i * 2 + 1, none⟩) hbl).trans q1
      have HX := Lib.hid hx
      obtain ⟨hs1, hs2, hs3⟩ := HS.out (s, n) (List.mem_of_getElem? hx)
      simp only at hs1 hs2 hs3
      have hNs := itoaS_size hs2 hs3
      have HN := Lib.hid (fun W => num_any n hs2 hs3 W)
      subst hao
      have hi0 : (0 : Int) ≤ (i : Int) := Int.natCast_nonneg _
      have hi1 : (i : Int) < (l.length : Int) := by omega
      have HLT := Lib.hid hlt1
      clear hx hne hcc q0 q1 hbl HC hbw hs2 hs3
      go_wp2
      go_quiet ((go_at_call 82; exact Calls.quiet_of (HN.out _)))
      go_wp2
      go_roundg (gk - 1)
      case measure => have := HIJ.out; have := HLT.out; omega
      case rel =>
        refine ⟨i + 1, _, by have := HIJ.out; have := HLT.out; omega, by go_num, rfl, ?_, below_drewN HB.out _⟩
        have e1 : l.take (i + 1) = l.take i ++ [(s, n)] := by rw [List.take_add_one, HX.out]; rfl
        rw [e1, placesL_snoc, ← HA.out]
        simp [itoaS]
    · have hin : i = l.length := by have := HIJ.out; omega
      have hA2 : A.data.toList = placesL l := by have h := HA.out; rw [hin, List.take_length] at h; exact h
      have HA2 := Lib.hid hA2
      have hws := wordS_size k (by omega) h1
      clear hA2 hin HIJ hbw HC
      go_wp2_with fail
      go_at_call 83
      refine (word_any k h0 h1 _).mono ?_
      rintro e w1 ⟨rfl, hb1⟩
      go_wp2_with fail
      go_ret
      refine ⟨?_, HB.out.trans (hb1.mono HB.out.size)⟩
      have e : A ++ wordS k = ⟨(textL l k).toArray⟩ := by
        apply ByteArray.ext
        apply Array.ext'
        unfold textL
        rw [← HA2.out]
        simp
      exact congrArg (fun S => Ending.returned (Value.string S)) e
end Go.Proofs.YtlkljeedlkbkgaaGreatDoor.Fault
namespace Go.Proofs.YtlkljeedlkbkgaaGreatDoor.Gr
open Go.RowKit Go.Deep Go.Proofs.YtlkljeedlkbkgaaGreatDoor.Fault
set_option linter.unusedVariables false
set_option linter.unusedSimpArgs false
def SmallV (V : List Pl × Int) : Prop := (∀ x ∈ V.1, Small x) ∧ V.1.length ≤ 2 ∧ 0 ≤ V.2 ∧ V.2 ≤ 4
theorem small_of {s : ByteArray} {x : Int} (hs : s.size ≤ 20) (h0 : -9223372036854775808 ≤ x) (h1 : x ≤ 9223372036854775807) : Small (s, x) := ⟨hs, h0, h1⟩
theorem reads_rdp {w : World} {v : Value} {V : List Pl × Int} (h : RdP w v V.1) (hs : SmallV V) : Reads w v V.1 := by
  obtain ⟨ao, cap, rfl, hc⟩ := h
  exact ⟨ao, cap, rfl, by have := hs.2.1; omega, fun x hx => ⟨by have := (hs.1 x hx).1; omega, (hs.1 x hx).2⟩, hc⟩
def PV (n : Int) (E : List Ed) (I : List Int) (w : World) (v : Value) : Prop :=
  ((chkV n E I).2 = 0 ∧ ∃ (m : Nat) (M : Nat → Nat → Int) (b : Nat), n = m ∧ m ≤ 64 ∧ Mat w b v m M ∧ LeastM E true m M) ∨ ((chkV n E I).2 ≠ 0 ∧ v = .slice none 0 0)
theorem PV.below {n : Int} {E : List Ed} {I : List Int} {w w' : World} {v : Value} (h : PV n E I w v) (hb : Below w.heap.size w w') : PV n E I w' v := by
  rcases h with ⟨h0, m, M, b, hm, h6, hM, hl⟩ | h
  · exact .inl ⟨h0, m, M, b, hm, h6, hM.below hb, hl⟩
  · exact .inr h
theorem kind_pv {w : World} {v : Value} {V : List Pl × Int} (hL : LV w) (h : ErrIs w v V) :
    Calls Tryz.prog 37 #[v] w fun e w' => e = .returned (.int .i64 V.2) ∧ Below w.heap.size w w' := by
  rcases h with ⟨h0, _, rfl⟩ | ⟨_, hch, _⟩
  · rw [h0]; exact kind_nil w
  · exact kind_errno V.2 hL.typ hch
end Go.Proofs.YtlkljeedlkbkgaaGreatDoor.Gr
