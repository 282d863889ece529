/-
  PACKAGE clock: Before.
-/
import Derived.Test.YtneegocbknkhjaaCkRace
namespace Go.Proofs.Ytneegocbknkhjaa.Ck
open Go.RowKit Rw Mm Go.Maps Pk
set_option linter.unusedVariables false

/-! ### Before -/
structure BfS (n0 b10 gw gh nw nt : Nat) (who : Int) (W H : List Int) (w0 w : World) : Prop where
  aw : Own intK w 0 3 (.slice (some ⟨gw, 0, none⟩) nw nw) W
  ah : Own intK w 0 3 (.slice (some ⟨gh, 0, none⟩) nt nt) H
  d : gw ≠ gh
  n : n0 ≤ gw ∧ n0 ≤ gh
  c10 : w.heap[b10]? = some (.cells #[.int .i64 who, .slice (some ⟨gw, 0, none⟩) nw nw, .slice (some ⟨gh, 0, none⟩) nt nt] 140 (0, 0))
  x10 : b10 ≠ gw ∧ b10 ≠ gh
  bl : Below n0 w0 w
  nl : n0 ≤ w.heap.size
section
variable {n0 b10 gw gh nw nt : Nat} {who : Int} {W H W' H' : List Int} {w0 w w' : World}
theorem BfS.below (h : BfS n0 b10 gw gh nw nt who W H w0 w) (hb : Below w.heap.size w w') : BfS n0 b10 gw gh nw nt who W H w0 w' :=
  ⟨h.aw.below hb, h.ah.below hb, h.d, h.n, (hb.block _ (Array.getElem?_eq_some_iff.1 h.c10).1).trans h.c10, h.x10, h.bl.trans (hb.mono h.nl), Nat.le_trans h.nl hb.size⟩
theorem BfS.next (h : BfS n0 b10 gw gh nw nt who W H w0 w) (k : NextP gw gh nw nt w W' H' w') : BfS n0 b10 gw gh nw nt who W' H' w0 w' :=
  ⟨k.aw, k.ah, h.d, h.n, (k.out _ (Array.getElem?_eq_some_iff.1 h.c10).1 h.x10.1 h.x10.2).trans h.c10, h.x10, h.bl.trans (k.low h.n.1 h.n.2 h.nl), Nat.le_trans h.nl k.sz⟩
theorem bf_start {w3 w4 : World} (h1 : Own intK w4 w3.heap.size 3 (.slice (some ⟨gw, 0, none⟩) nw nw) (List.replicate nw 0)) (h2 : Own intK w4 w3.heap.size 3 (.slice (some ⟨gh, 0, none⟩) nt nt) (List.replicate nt 0)) (hne : gw ≠ gh) (hb : Below w3.heap.size w3 w4) (T : TypeId) (hT : T = 140) :
    BfS w3.heap.size w4.heap.size gw gh nw nt who (List.replicate nw 0) (List.replicate nt 0) w3 (w4.alloc (.cells #[.int .i64 who, .slice (some ⟨gw, 0, none⟩) nw nw, .slice (some ⟨gh, 0, none⟩) nt nt] T)) := by
  subst hT
  have b1 := World.ownsRow.lt h1 gw rfl
  have b2 := World.ownsRow.lt h2 gh rfl
  have hbx : Below w4.heap.size w4 (w4.alloc (.cells #[.int .i64 who, .slice (some ⟨gw, 0, none⟩) nw nw, .slice (some ⟨gh, 0, none⟩) nt nt] 140)) := (Below.refl _ _).alloc (Nat.le_refl _) _
  exact ⟨own_rebase (h1.below hbx) (Nat.zero_le _), own_rebase (h2.below hbx) (Nat.zero_le _), hne, ⟨b1.1, b2.1⟩, heap_alloc_new _ _, ⟨by omega, by omega⟩, hb.trans (hbx.mono hb.size), Nat.le_trans hb.size hbx.size⟩
end
/-- What is known to the Event behind which there are q. -/
def LastK (M : List Ev) (of : Int) (q : Nat) (kn : Int) : Prop := ∀ (k : Nat) e, q = k + 1 → M[k]? = some e → Th e → Top M of (fun i => HB M i k) kn
def BefP (l : List Ev) (i j : Int) : Prop := ∃ a b : Nat, i = a ∧ j = b ∧ HB l a b
def BefQ (l : List Ev) (i j : Int) (w : World) (r : Ending) (w' : World) : Prop := ∃ b, r = .returned (.bool b) ∧ (b = true ↔ BefP l i j) ∧ Below w.heap.size w w'
theorem bef_no {l : List Ev} {i j : Int} (h : i < 0 ∨ j ≤ i ∨ (l.length : Int) ≤ j) : ¬ BefP l i j := by
  rintro ⟨a, b, rfl, rfl, hb⟩
  have h1 := hb.lt
  obtain ⟨_, e, _, he, _⟩ := hb.th
  have := (List.getElem?_eq_some_iff.1 he).1
  omega
theorem bef_th {l : List Ev} {i j : Nat} {a b : Ev} (ha : l[i]? = some a) (hb : l[j]? = some b) (h : ¬ Th a ∨ ¬ Th b) : ¬ BefP l i j := by
  rintro ⟨a', b', h1, h2, hh⟩
  obtain rfl : i = a' := by omega
  obtain rfl : j = b' := by omega
  obtain ⟨x, y, hx, hy, tx, ty⟩ := hh.th
  rw [ha] at hx; cases hx
  rw [hb] at hy; cases hy
  exact h.elim (fun q => q tx) (fun q => q ty)
/-- At the last Event: something is known just where the first one happens before it. -/
theorem bef_top {l M : List Ev} {nw nt i j : Nat} {a b e0 : Ev} (hij : i < j) (hj : j < l.length) (hno : Norm ((l.take (j + 1)).drop i) M nw nt) (h0 : M[0]? = some e0) (ha : l[i]? = some a) (hb : l[j]? = some b) (ta : Th a) (tb : Th b) {kn : Int} (hk : LastK M e0.w M.length kn) : decide (0 < kn) = true ↔ BefP l (i : Int) (j : Int) := by
  have hlen : ((l.take (j + 1)).drop i).length = j + 1 - i := by rw [List.length_drop, List.length_take]; omega
  have hml : M.length = j + 1 - i := by rw [hno.len, hlen]
  have hsub : ∀ x, x < ((l.take (j + 1)).drop i).length → ((l.take (j + 1)).drop i)[x]? = l[i + x]? := fun x hx => by
    rw [hlen] at hx
    rw [List.getElem?_drop, List.getElem?_take_of_lt (by omega)]
  have ha' : ((l.take (j + 1)).drop i)[0]? = some a := by rw [hsub 0 (by omega)]; exact ha
  have hb' : ((l.take (j + 1)).drop i)[j - i]? = some b := by rw [hsub (j - i) (by omega), show i + (j - i) = j by omega]; exact hb
  obtain ⟨e1, h1⟩ := hno.fwd hb'
  have t0 : Th e0 := (hno.th ha' h0).2 ta
  have t1 : Th e1 := (hno.th hb' h1).2 tb
  have hT := hk (j - i) e1 (by omega) h1 t1
  have hiff := hT.iff h0 t0 rfl
  have hh : HB M 0 (j - i) ↔ HB l i j := by
    rw [hb_norm hno, hb_sub hsub (by omega), Nat.add_zero, show i + (j - i) = j by omega]
  rw [decide_eq_true_eq]
  constructor
  · intro h
    exact ⟨i, j, rfl, rfl, hh.1 (hiff.2 (by simpa using h))⟩
  · rintro ⟨a', b', q1, q2, hb⟩
    obtain rfl : i = a' := by omega
    obtain rfl : j = b' := by omega
    simpa using hiff.1 (hh.2 hb)

set_option maxRecDepth 1000000 in
set_option maxHeartbeats 16000000 in
theorem before_any {w : World} {v : Value} {l : List Ev} (hv : Rr evK w v l) (hl : l.length ≤ 1000) (i j : Int) : Calls Try.prog 31 #[v, .int .i64 i, .int .i64 j] w (BefQ l i j w) := by
  have HV := Lib.hid hv
  obtain ⟨ao, cap, rfl, hv1, hv2⟩ := hv.form
  have hlm : (l.length : Int) ≤ 1000 := by omega
  have HV1 := Lib.hid hv1
  have HVC : Hid (cap ≤ 9223372036854775807) := Lib.hid hv2
  clear hv hv1 hv2
  by_cases hn : i < 0 ∨ j ≤ i ∨ (l.length : Int) ≤ j
  · have HR := Lib.hid (bef_no hn)
    rcases (show i < 0 ∨ (¬ i < 0 ∧ j ≤ i) ∨ (¬ i < 0 ∧ ¬ j ≤ i ∧ (l.length : Int) ≤ j) by omega) with x1 | ⟨x1, x2⟩ | ⟨x1, x2, x3⟩
    all_goals
      clear hn hl
      go_enter Try.func31, Try.ntmps31
      go_wp2_with fail
      go_ret
      exact ⟨false, rfl, ⟨(fun h => by cases h), fun h => absurd h HR.out⟩, Below.refl _ _⟩
  · obtain ⟨a, rfl⟩ : ∃ a : Nat, i = (a : Int) := ⟨i.toNat, by omega⟩
    obtain ⟨b, rfl⟩ : ∃ b : Nat, j = (b : Int) := ⟨j.toNat, by omega⟩
    have hab : a < b := by omega
    have hbl : b < l.length := by omega
    obtain ⟨⟨aw, ak, aa, ax⟩, hx⟩ : ∃ x, l[a]? = some x := ⟨_, List.getElem?_eq_getElem (by omega)⟩
    obtain ⟨⟨bw, bk, ba, bx⟩, hy⟩ : ∃ x, l[b]? = some x := ⟨_, List.getElem?_eq_getElem hbl⟩
    obtain ⟨g, off, rfl, hgl, qx⟩ := HV.out.at hx
    obtain ⟨g', off', hgg, _, qy⟩ := HV.out.at hy
    simp only [Option.some.injEq, Addr.mk.injEq] at hgg
    obtain ⟨rfl, rfl, _⟩ := hgg
    have c0 := qx 0 _ (by decide) rfl
    have c1 := qx 1 _ (by decide) rfl
    have c2 := qx 2 _ (by decide) rfl
    have c3 := qx 3 _ (by decide) rfl
    have d0 := qy 0 _ (by decide) rfl
    have d1 := qy 1 _ (by decide) rfl
    have d2 := qy 2 _ (by decide) rfl
    have d3 := qy 3 _ (by decide) rfl
    simp only [show evK.k = 4 from rfl, Nat.add_zero] at c0 c1 c2 c3 d0 d1 d2 d3
    have n1 : ¬ (a : Int) < 0 := by omega
    have n2 : ¬ (b : Int) ≤ (a : Int) := by omega
    have n3 : ¬ (l.length : Int) ≤ (b : Int) := by omega
    have a0 : (0 : Int) ≤ (a : Int) := Int.natCast_nonneg _
    have b0 : (0 : Int) ≤ (b : Int) := Int.natCast_nonneg _
    have a1 : (a : Int) < (l.length : Int) := by omega
    have b1 : (b : Int) < (l.length : Int) := by omega
    have HAB := Lib.hid hab
    have HBL := Lib.hid hbl
    have HX := Lib.hid hx
    have HY := Lib.hid hy
    have HGL := Lib.hid hgl
    clear hn hl qx qy hx hy hgl
    by_cases ta : Th ⟨aw, ak, aa, ax⟩
    · have HTA := Lib.hid ta
      clear ta
      go_enter Try.func31, Try.ntmps31
      go_wp2_with fail
      go_at_call 75
      refine (there_yes ⟨aw, ak, aa, ax⟩ HTA.out _).mono ?_
      rintro r w1 ⟨rfl, hb1⟩
      replace d0 := (hb1.cell (p := ⟨g, off + b * 4, none⟩) HGL.out).trans d0
      replace d1 := (hb1.cell (p := ⟨g, off + b * 4 + 1, none⟩) HGL.out).trans d1
      replace d2 := (hb1.cell (p := ⟨g, off + b * 4 + 2, none⟩) HGL.out).trans d2
      replace d3 := (hb1.cell (p := ⟨g, off + b * 4 + 3, none⟩) HGL.out).trans d3
      have HB1 := Lib.hid hb1
      clear hb1 c0 c1 c2 c3
      by_cases tb : Th ⟨bw, bk, ba, bx⟩
      · have HTB := Lib.hid tb
        clear tb
        go_wp2_with fail
        go_at_call 75
        refine (there_yes ⟨bw, bk, ba, bx⟩ HTB.out _).mono ?_
        rintro r w2 ⟨rfl, hb2⟩
        have HB2 := Lib.hid (HB1.out.trans (hb2.mono HB1.out.size))
        clear hb2 d0 d1 d2 d3
        obtain ⟨P, hPe⟩ : ∃ P, P = (l.take (b + 1)).drop a := ⟨_, rfl⟩
        have hPl : P.length = b + 1 - a := by rw [hPe, List.length_drop, List.length_take]; omega
        have hP := rr_part (HV.out.below HB2.out) (N := a) (k := b + 1) (by have := HAB.out; omega) HBL.out (by have := HBL.out; omega)
        rw [← hPe, ← hPl] at hP
        have HP := Lib.hid hP
        have HPE := Lib.hid hPe
        have HPL := Lib.hid hPl
        have hPL2 : ((b + 1 - a : Nat)) = P.length := hPl.symm
        have hbc : (b : Int) + 1 ≤ (cap : Int) := by have := HV1.out; omega
        have hac : (a : Int) < (cap : Int) := by omega
        have hab1 : (a : Int) ≤ (b : Int) + 1 := by omega
        have hp0 : 0 < P.length := by omega
        have hp1 : P.length ≤ 1000 := by omega
        have HP0 := Lib.hid hp0
        have HP1 := Lib.hid hp1
        have HPL2 := Lib.hid hPL2
        clear hPe hPl hP hPL2 hp0 hp1
        go_wp2_with fail
        rw [HPL2.out]
        go_at_call 76
        refine (numbered_any HP.out HP1.out).mono ?_
        rintro r w3 ⟨g3, K, T, M, rfl, hp, how, hb3⟩
        have hno := numP_end hp
        have hkk := hp.kk
        have hkt := hp.kt
        have hml := hp.len
        have HNO := Lib.hid hno
        have HG := Lib.hid hno.gd
        have hwf := norm_wf hno HP.out.wf (by have := HP1.out; omega) (by have := HP1.out; omega)
        have HM := Lib.hid (how.sl hwf).rr
        have hk1 : K.length ≤ 1000 := by have := HP1.out; omega
        have ht1 : T.length ≤ 1000 := by have := HP1.out; omega
        have HML := Lib.hid hml
        obtain ⟨⟨zw, zk, za, zo⟩, hz⟩ : ∃ x, M[0]? = some x := ⟨_, List.getElem?_eq_getElem (by rw [hml]; exact HP0.out)⟩
        have qz := how.at hz
        have z0 := qz 0 _ (by decide) rfl
        simp only [show evK.k = 4 from rfl, Nat.zero_mul, Nat.add_zero] at z0
        have HZ := Lib.hid hz
        have hp0 : (0 : Int) < (P.length : Int) := by have := HP0.out; omega
        have HB3 := Lib.hid (HB2.out.trans (hb3.mono HB2.out.size))
        clear hp how hno hb3 hkk hkt hml hwf hz qz
        go_wp2_with fail
        go_at_call 77
        refine (begin_any zw K.length T.length hk1 ht1 _).mono ?_
        rintro r w4 ⟨gw, gh, rfl, h1, h2, hne, hb4⟩
        have HS0 := Lib.hid (bf_start (who := zw) h1 h2 hne hb4 140 rfl)
        have HI0 := Lib.hid (inv_start M zw K.length T.length)
        have HK0 : Hid (LastK M zw 0 0) := Lib.hid (fun k e h => by omega)
        clear h1 h2 hne hb4 z0
        go_wp2_with fail
        go_loopg [11, 62] P.length (fun k s t wr => ∃ (q : Nat) (W H : List Int) (kn : Int), q + k = P.length ∧ t = .int .i64 (q : Int) ∧ s = .int .i64 kn ∧ Hid (Inv M zw K.length T.length q W H) ∧ Hid (LastK M zw q kn) ∧ Hid (BfS w3.heap.size w4.heap.size gw gh K.length T.length zw W H w3 wr))
        case atStart => exact ⟨0, _, _, 0, by omega, rfl, rfl, HI0, HK0, HS0⟩
        case round =>
          obtain ⟨q, W, H, kn, hqk, rfl, rfl, HI, HK, HS⟩ := hrel
          clear HS0 HI0 HK0
          have HQK := Lib.hid hqk
          have hq0 : (0 : Int) ≤ (q : Int) := Int.natCast_nonneg _
          by_cases hlt : q < P.length
          · have hq1 : (q : Int) < (P.length : Int) := by omega
            have hq9 : (q : Int) ≤ 1000 := by have := HP1.out; omega
            have HLT := Lib.hid hlt
            obtain ⟨⟨ew, ek, ea, eo⟩, hx⟩ : ∃ x, M[q]? = some x := ⟨_, List.getElem?_eq_getElem (by rw [HML.out]; exact hlt)⟩
            obtain ⟨mb, moff, hmb, hmbl, qx⟩ := HM.out.at hx
            simp only [Option.some.injEq, Addr.mk.injEq] at hmb
            obtain ⟨rfl, rfl, _⟩ := hmb
            have qy := qx.below HS.out.bl hmbl
            have c0 := qy 0 _ (by decide) rfl
            have c1 := qy 1 _ (by decide) rfl
            have c2 := qy 2 _ (by decide) rfl
            have c3 := qy 3 _ (by decide) rfl
            simp only [show evK.k = 4 from rfl, Nat.zero_add, Nat.add_zero] at c0 c1 c2 c3
            obtain ⟨W1, hW1⟩ : ∃ W1, W1 = wr.alloc (.cells #[.int .i64 ew, .int .i64 ek, .int .i64 ea, .bool eo] 134) := ⟨_, rfl⟩
            have hbw : Below wr.heap.size wr W1 := by rw [hW1]; exact (Below.refl _ _).alloc (Nat.le_refl _) _
            have HM1 := Lib.hid (HS.out.below hbw)
            have HW1 := Lib.hid hW1
            have HX := Lib.hid hx
            have h10 := HS.out.c10
            have hb10 : w4.heap.size < wr.heap.size := (Array.getElem?_eq_some_iff.1 h10).1
            have a0 : wr.cell? ⟨w4.heap.size, 0, none⟩ = some (.int .i64 zw) := by simp [World.cell?, h10]
            have a1 : wr.cell? ⟨w4.heap.size, 1, none⟩ = some (.slice (some ⟨gw, 0, none⟩) K.length K.length) := by simp [World.cell?, h10]
            have a2 : wr.cell? ⟨w4.heap.size, 2, none⟩ = some (.slice (some ⟨gh, 0, none⟩) T.length T.length) := by simp [World.cell?, h10]
            have hmlt : g3 < wr.heap.size := Nat.lt_of_lt_of_le hmbl HS.out.bl.size
            clear hqk hlt hx qx qy hbw hW1 h10 hmbl
            by_cases te : Th ⟨ew, ek, ea, eo⟩
            · have HTE := Lib.hid te
              have HGY := Lib.hid (HG.out.yes q _ HX.out te)
              have HKT := Lib.hid (known_top HG.out HI.out HX.out te)
              have HI1 := Lib.hid (next_inv HG.out HI.out HX.out te)
              have HK1 : Hid (LastK M zw (q + 1) (knownF ⟨ew, ek, ea, eo⟩ W H)) := Lib.hid (fun k e h hk tk => by
                obtain rfl : k = q := by omega
                rw [HX.out] at hk; cases hk
                exact HKT.out)
              clear te
              go_wp2_with fail
              go_at_call 78
              rw [← HW1.out]
              refine (next_yes HM1.out.aw HM1.out.ah HM1.out.d HI.out.lw HI.out.lh hk1 ht1 zw q (by have := HLT.out; have := HP1.out; omega) ⟨ew, ek, ea, eo⟩ HTE.out HGY.out.1 HGY.out.2).mono ?_
              rintro r w5 ⟨rfl, hnx⟩
              have HM2 := Lib.hid (HM1.out.next hnx)
              obtain ⟨kv, hkv⟩ : ∃ kv, kv = knownF ⟨ew, ek, ea, eo⟩ W H := ⟨_, rfl⟩
              rw [← hkv] at HK1 ⊢
              clear hnx c0 c1 c2 c3 a0 a1 a2 hkv
              go_wp2_with fail
              go_roundg (gk - 1)
              case measure => have := HQK.out; have := HLT.out; omega
              case rel => exact ⟨q + 1, _, _, kv, by have := HQK.out; have := HLT.out; omega, by go_num, rfl, HI1, HK1, HM2⟩
            · have HTE := Lib.hid te
              have HI1 := Lib.hid (next_no HG.out HI.out HX.out te)
              have HK1 : Hid (LastK M zw (q + 1) 0) := Lib.hid (fun k e h hk tk => by
                obtain rfl : k = q := by omega
                rw [HX.out] at hk; cases hk
                exact absurd tk HTE.out)
              clear te
              go_wp2_with fail
              go_at_call 78
              rw [← HW1.out]
              refine (next_not HM1.out.aw HM1.out.ah HM1.out.d zw (q : Int) ⟨ew, ek, ea, eo⟩ HTE.out).mono ?_
              rintro r w5 ⟨rfl, hnx⟩
              have HM2 := Lib.hid (HM1.out.next hnx)
              clear hnx c0 c1 c2 c3 a0 a1 a2
              go_wp2_with fail
              go_roundg (gk - 1)
              case measure => have := HQK.out; have := HLT.out; omega
              case rel => exact ⟨q + 1, _, _, 0, by have := HQK.out; have := HLT.out; omega, by go_num, rfl, HI1, HK1, HM2⟩
          · have hq1 : ¬ (q : Int) < (P.length : Int) := by omega
            have hqe : q = M.length := by rw [HML.out]; omega
            have HR : Hid (decide (0 < kn) = true ↔ BefP l (a : Int) (b : Int)) := Lib.hid (bef_top HAB.out HBL.out (by rw [← HPE.out]; exact HNO.out) HZ.out HX.out HY.out HTA.out HTB.out (by rw [← hqe]; exact HK.out))
            have HBB := Lib.hid (HB3.out.trans (HS.out.bl.mono HB3.out.size))
            clear hqk hlt hqe
            go_wp2_with fail
            go_ret
            exact ⟨_, rfl, HR.out, HBB.out⟩
      · have HR := Lib.hid (bef_th HX.out HY.out (.inr tb))
        have HTB := Lib.hid tb
        clear tb
        go_wp2_with fail
        go_at_call 75
        refine (there_no ⟨bw, bk, ba, bx⟩ HTB.out _).mono ?_
        rintro r w2 ⟨rfl, hb2⟩
        have HB2 := Lib.hid (HB1.out.trans (hb2.mono HB1.out.size))
        clear hb2
        go_wp2_with fail
        go_ret
        exact ⟨false, rfl, ⟨(fun h => by cases h), fun h => absurd h HR.out⟩, HB2.out⟩
    · have HR := Lib.hid (bef_th HX.out HY.out (.inl ta))
      have HTA := Lib.hid ta
      clear ta
      go_enter Try.func31, Try.ntmps31
      go_wp2_with fail
      go_at_call 75
      refine (there_no ⟨aw, ak, aa, ax⟩ HTA.out _).mono ?_
      rintro r w1 ⟨rfl, hb1⟩
      have HB1 := Lib.hid hb1
      clear hb1
      go_wp2_with fail
      go_ret
      exact ⟨false, rfl, ⟨(fun h => by cases h), fun h => absurd h HR.out⟩, HB1.out⟩
end Go.Proofs.Ytneegocbknkhjaa.Ck
