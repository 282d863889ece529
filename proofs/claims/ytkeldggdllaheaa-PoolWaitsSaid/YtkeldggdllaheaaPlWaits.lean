/-
  THE LAW PoolWaits: its walk.
-/
import Derived.Test.YtkeldggdllaheaaPlWt
import Derived.Deep.CutRange
import Derived.BigQuiet
namespace Go.Proofs.Ytkeldggdllaheaa.Pl
open Go.RowKit Rw Pk Go.Maps Mm
open Batch (Ch tot sumsE sumsR)
set_option linter.unusedVariables false
theorem k_lt {k n : Nat} (h : k < n) (hn : 1 ≤ n ∧ n ≤ 8) : 0 ≤ 1 + (k : Int) ∧ 1 + (k : Int) ≤ 100000 := by omega
theorem i64_lt {x : Int} (h : 0 ≤ x ∧ x ≤ 100000) : I64 x := ⟨by omega, by omega⟩
def needB (n q : Nat) (l : List Ch) : Bool := l.any fun c => decide (c.p % (n : Int) = (q : Int))
theorem need_iff {n q : Nat} {l : List Ch} (hq : q < 8) : needB n q l = true ↔ q ∈ shQ n l := by
  unfold needB
  rw [List.any_eq_true, shQ_mem]
  constructor
  · rintro ⟨c, h1, h2⟩
    refine ⟨hq, fun e => ?_⟩
    have : c ∈ shB n l q := by unfold shB; rw [List.mem_filter]; exact ⟨h1, h2⟩
    rw [e] at this
    simp at this
  · rintro ⟨_, h⟩
    obtain ⟨c, hc⟩ := List.exists_mem_of_ne_nil _ h
    unfold shB at hc
    rw [List.mem_filter] at hc
    exact ⟨c, hc⟩
theorem need_snoc {n q i : Nat} {l : List Ch} {c : Ch} (hx : l[i]? = some c) : needB n q (l.take (i + 1)) = (needB n q (l.take i) || decide (c.p % (n : Int) = (q : Int))) := by
  unfold needB
  rw [Batch.take_succ' hx, List.any_append]
  simp
set_option maxRecDepth 1000000 in
set_option maxHeartbeats 16000000 in
theorem poolWaits_any {w : World} (x : Int) {v : Value} {l : List Ch} (hv : Batch.Rd w v l) (y : Int) :
    Calls Try.prog 5 #[.int .i64 x, v, .int .i64 y] w fun e w' => e = .returned (.bool true) ∧ Below w.heap.size w w' := by
  have HR := Lib.hid hv
  obtain ⟨vo, vn, vc, rfl⟩ : ∃ ao n c, v = .slice ao n c := by obtain ⟨ao, cap, h, _⟩ := hv; exact ⟨_, _, _, h⟩
  obtain ⟨q, hq, _, p2, p3⟩ := plport_of (n := 8) x (by decide) (by decide)
  obtain ⟨n, hnp⟩ : ∃ n : Nat, n = q + 1 := ⟨_, rfl⟩
  have HN : Hid (1 ≤ n ∧ n ≤ 8) := Lib.hid (by omega)
  obtain ⟨k, hkn, hun, r2, r3⟩ := plport_of (n := n) y HN.out.1 (by have := HN.out; omega)
  have HK := Lib.hid hkn
  have HP := Lib.hid (And.intro p2 p3)
  obtain ⟨p6, p7⟩ := plone_more hnp (Nat.lt_trans hq (by decide))
  obtain ⟨u6, u7⟩ : IntKind.i64.wrap (1 + (k : Int)) = 1 + (k : Int) ∧ wrap64 (1 + (k : Int)) = 1 + (k : Int) := ⟨w_id (i64_lt (k_lt hkn HN.out)), w64_id (i64_lt (k_lt hkn HN.out))⟩
  clear hq hnp p2 p3 hv hkn
  have p4 : wrap64 ((IntKind.u64.wrap x).tmod 8) = (q : Int) := HP.out.1
  have p5 : IntKind.i64.wrap ((IntKind.u64.wrap x).tmod 8) = (q : Int) := HP.out.2
  have hnz : ¬ ((n : Int) = 0) := by have := HN.out; omega
  have hnz2 : ((n : Int) == 0) = false := by rw [beq_eq_false_iff_ne]; exact hnz
  go_enter Try.func5, Try.ntmps5
  go_wp2_with fail
  go_at_call 7
  try rw [p6]
  refine (plbegin_any n HN.out w).mono ?_
  rintro e w1 ⟨p, s, zs0, rfl, h⟩
  have H0 := Lib.hid h
  clear h p4 p5 p6 p7
  go_wp2_with fail
  go_at_call 8
  refine (pltold_any w1).mono ?_
  rintro e w2 ⟨rfl, hb⟩
  have H1 := Lib.hid (H0.out.below hb)
  clear hb H0
  go_wp2_with fail
  go_at_call 19
  have hrd := HR.out.below (H1.out.kept)
  refine (Batch.fix_any hrd).mono ?_
  rintro e w4 ⟨v1, rfl, ho1, hb4⟩
  have hnice := Batch.fix_nice hrd.wf
  obtain ⟨bL, hbL⟩ : ∃ bL, Batch.fixL l = bL := ⟨_, rfl⟩
  rw [hbL] at ho1 hnice
  have HCB := Lib.hid (nice_cg hnice)
  have HV1 := Lib.hid (ho1.sl hnice.wf)
  obtain ⟨zs4, _, _, h4⟩ := H1.out.withO hb4 (fun g hg => World.ownsRow.lt ho1 g hg)
  have H4 := Lib.hid h4
  obtain ⟨v1o, v1n, v1c, rfl⟩ := own_open ho1
  clear h4
  have hv1n : v1n = bL.length := by
    rcases ho1.form with ⟨e1, e2⟩ | ⟨g, cap, e2, _⟩
    · simp at e2; rw [e1]; simp [e2]
    · simp at e2; exact e2.2.1
  subst hv1n
  have hbl : bL.length ≤ 12 := HCB.out.len
  clear ho1 hb4 hbL hnice hrd H1 r2 r3 hun
  go_wp2_with fail
  go_loopg [12, 13] (bL.length + 1) (fun m b t wr => ∃ i : Nat, i + m = bL.length + 1 ∧ i ≤ bL.length ∧ b = .bool (needB n k (bL.take i)) ∧ t = .int .i64 (i : Int) ∧ Hid (w4 = wr))
  case atStart => exact ⟨0, by omega, by omega, rfl, rfl, Lib.hid rfl⟩
  case round =>
    obtain ⟨i, him, hil, rfl, rfl, HW⟩ := hrel
    obtain rfl := HW.out
    have HIM := Lib.hid him
    clear him
    by_cases hlt : i < bL.length
    · obtain ⟨c, hx, hxm⟩ := Batch.at_of hlt
      have hcp := HCB.out.right.fit c hxm
      obtain ⟨b, off, rfl, hat⟩ := HV1.out.rd.at hx
      obtain ⟨c0, c1, c2⟩ := hat
      have hs := need_snoc (n := n) (q := k) hx
      have hlt' : (i : Int) < (bL.length : Int) := by omega
      have hi0 : (0 : Int) ≤ (i : Int) := Int.natCast_nonneg _
      have hwi : IntKind.i64.wrap ((i : Int) + 1) = (i : Int) + 1 := w_id (i64_lt (by omega))
      obtain ⟨g, hg⟩ : ∃ g : Int, c.p % (n : Int) = g := ⟨_, rfl⟩
      have htm : c.p.tmod (n : Int) = g := by rw [Int.tmod_eq_emod_of_nonneg hcp.1]; exact hg
      rw [hg] at hs
      have HLT := Lib.hid hlt
      obtain ⟨bl, hbl2⟩ : ∃ bl, needB n k (bL.take i) = bl := ⟨_, rfl⟩
      rw [hbl2] at hs
      obtain ⟨cp, ct, cd⟩ := c
      simp only at c0 c1 c2 htm
      clear hx hxm hcp hlt hg
      cases bl with
      | true =>
        have HS := Lib.hid hs
        rw [hbl2]
        clear hs hbl2
        go_wp2_with fail
        go_roundg (gk - 1)
        case measure => have := HIM.out; have := HLT.out; omega
        case rel => exact ⟨i + 1, by have := HIM.out; have := HLT.out; omega, by have := HLT.out; omega, by rw [HS.out]; rfl, by simp, Lib.hid rfl⟩
      | false =>
        rw [hbl2]
        by_cases he : g = (k : Int)
        · subst he
          have HS : Hid (needB n k (bL.take (i + 1)) = true) := Lib.hid (by rw [hs]; simp)
          clear hs hbl2
          go_wp2_with fail
          go_roundg (gk - 1)
          case measure => have := HIM.out; have := HLT.out; omega
          case rel => exact ⟨i + 1, by have := HIM.out; have := HLT.out; omega, by have := HLT.out; omega, by rw [HS.out], by simp, Lib.hid rfl⟩
        · have he2 : (g == (k : Int)) = false := by rw [beq_eq_false_iff_ne]; exact he
          have HS : Hid (needB n k (bL.take (i + 1)) = false) := Lib.hid (by rw [hs]; simp [he])
          clear hs hbl2
          go_wp2_with fail
          go_roundg (gk - 1)
          case measure => have := HIM.out; have := HLT.out; omega
          case rel => exact ⟨i + 1, by have := HIM.out; have := HLT.out; omega, by have := HLT.out; omega, by rw [HS.out], by simp, Lib.hid rfl⟩
    · have hie : i = bL.length := by omega
      subst hie
      have hlt' : ¬ ((bL.length : Int) < (bL.length : Int)) := by omega
      rw [List.take_length]
      obtain ⟨nd, hnd⟩ : ∃ nd, needB n k bL = nd := ⟨_, rfl⟩
      rw [hnd]
      have HND : Hid (nd = true ↔ k ∈ shQ n bL) := Lib.hid (by rw [← hnd]; exact need_iff (by have := HN.out; have := HK.out; omega))
      clear hlt hnd hil hnz hnz2
      go_wp2_with fail
      go_at_call 29
      try rw [u6]
      refine (H4.out.take50 (fun _ => rfl) HK.out HN.out.2 (by decide)).mono ?_
      rintro e w5 ⟨rfl, M5, hkx, h⟩
      have HV5 : Hid (Batch.Sl w5 (.slice v1o bL.length v1c) bL) := Lib.hid (blk_sl HV1.out (fun g hg => hkx.2 g (by simp [hg])))
      have H5 := Lib.hid (h.less (xs' := []) (by simp))
      clear h hkx H4 HV1
      go_wp2_with fail
      go_at_call 21
      refine (Batch.to_any HV5.out.rd (by omega)).mono ?_
      rintro e w6 ⟨v2, rfl, ho2, hb6⟩
      have HV2 := Lib.hid (ho2.sl HCB.out.wf)
      have H6 := Lib.hid (H5.out.below hb6)
      clear ho2 hb6 H5 HV5
      go_wp2_with fail
      go_at_call 20
      refine (ps_put (k := 0) H6.out rfl HN.out HV2.out HCB.out).mono ?_
      rintro e w7 ⟨X, zs7, rfl, _, hfx, _, _, _, h⟩
      have HFX := Lib.hid hfx
      have H7 := Lib.hid h
      clear h hfx H6 HV2
      go_wp2_with fail
      go_at_call 9
      refine (ps_drain (k := 1) H7.out rfl HN.out).mono ?_
      rintro e w8 ⟨Y, zs8, rfl, _, hfy, _, _, _, h⟩
      have HFY := Lib.hid hfy
      rw [two_new] at h
      obtain ⟨aX, hax⟩ : ∃ aX, X.a = aX := ⟨_, rfl⟩
      obtain ⟨aY, hay⟩ : ∃ aY, Y.a = aY := ⟨_, rfl⟩
      have HW8 : Hid (Wt w.heap.size w s p n bL aX aY (ext1 k) (1 + 0) X Y w8) := Lib.hid ⟨⟨_, _, [], 0, h, cg_nil (by decide), fun _ => rfl, by decide, by decide⟩, hax, hay, HFX.out.hq, HFY.out.hq, HFX.out.hdr, HFY.out.hdr, HFX.out.hb, HCB.out⟩
      have HE0 : ∀ q, ext1 k q ≠ some 0 := fun q => by unfold ext1; split <;> simp
      have HE1 : ∀ q, ext1 k q ≠ some 1 := fun q => by unfold ext1; split <;> simp
      replace HE0 := Lib.hid HE0
      replace HE1 := Lib.hid HE1
      rw [hax, hay]
      have HJ : Hid (X.j = 0 ∧ Y.j = 0) := Lib.hid ⟨HFX.out.hj, HFY.out.hj⟩
      clear h hfy H7 HFX HFY hax hay
      have hwi : ∀ i : Nat, i ≤ 1000 → IntKind.i64.wrap ((i : Int) + 1) = (i : Int) + 1 := fun i hi => w_id (i64_lt (by omega))
      go_wp2_with fail
      go_loopg [16] 201 (fun m t wr => ∃ (i : Nat) (X' : Ax), i + m = 201 ∧ i ≤ 200 ∧ t = .int .i64 (i : Int) ∧ Hid (Wt w.heap.size w s p n bL aX aY (ext1 k) (1 + i) X' Y wr) ∧ Hid ((nd = true → X'.j < X'.m ∧ ∀ x : Nat, X'.Q[x]? = some k → X'.j ≤ x) ∧ (nd = false → i ≤ X'.j ∨ 4 * X'.m + 1 ≤ X'.j)))
      case atStart =>
        refine ⟨0, X, by omega, by omega, rfl, HW8, Lib.hid ⟨fun h => ?_, fun _ => .inl (Nat.zero_le _)⟩⟩
        obtain ⟨x0, hx0⟩ := List.mem_iff_getElem?.1 (HND.out.1 h)
        have hm := (List.getElem?_eq_some_iff.1 hx0).1
        have hxq := HW8.out.xq
        have : X.m = (shQ n bL).length := by unfold Ax.m; rw [hxq]
        exact ⟨by have := HJ.out; omega, fun x _ => by have := HJ.out; omega⟩
      case round =>
        clear HW8
        obtain ⟨i, X', him, hil, rfl, HW, HL⟩ := hrel
        have HIM := Lib.hid him
        have hwi2 := hwi i (by omega)
        clear him
        by_cases hlt : i < 200
        · have hlt' : (i : Int) < 200 := by omega
          have HLT := Lib.hid hlt
          clear hlt hwi
          go_wp2_with fail
          go_at_call 26
          refine (wt_a HW.out HN.out (by omega) HE0.out).mono ?_
          rintro e w9 ⟨⟨bb, rfl⟩, X2, hw, hc⟩
          have HW2 := Lib.hid hw
          have HL2 : Hid ((nd = true → X2.j < X2.m ∧ ∀ x : Nat, X2.Q[x]? = some k → X2.j ≤ x) ∧ (nd = false → i + 1 ≤ X2.j ∨ 4 * X2.m + 1 ≤ X2.j)) := by
            have e1 : X2.m = X'.m := by unfold Ax.m; rw [hw.xq, HW.out.xq]
            have e2 : X2.Q = X'.Q := by rw [hw.xq, HW.out.xq]
            refine Lib.hid ⟨fun hnd => ?_, fun hnd => ?_⟩
            · obtain ⟨h1, h2⟩ := HL.out.1 hnd
              rcases hc with ⟨rfl, h3⟩ | ⟨rfl, _⟩ | ⟨h3, _, h4⟩
              · omega
              · exact ⟨h1, h2⟩
              · obtain ⟨x0, hx0⟩ := List.mem_iff_getElem?.1 (HND.out.1 hnd)
                rw [← HW.out.xq] at hx0
                have hne : ∀ x : Nat, X'.Q[x]? = some k → X'.j + 1 ≤ x := fun x hx => by
                  have := h2 x hx
                  by_cases e : x = X'.j
                  · subst e
                    have := h4 h1 k hx
                    unfold ext1 at this
                    rw [if_pos rfl] at this
                    cases this
                  · omega
                have h5 := hne x0 hx0
                have h6 : x0 < X'.m := (List.getElem?_eq_some_iff.1 hx0).1
                rw [e1, e2, h3]
                exact ⟨by omega, hne⟩
            · rcases hc with ⟨rfl, h3⟩ | ⟨rfl, h3, q', h4, h5⟩ | ⟨h3, h4, _⟩
              · exact .inr (by omega)
              · exfalso
                rcases h5 with ⟨k', h6⟩ | h6
                · unfold ext1 at h6
                  by_cases e : q' = k
                  · subst e
                    have := HND.out.2 (by rw [← HW.out.xq]; exact List.mem_of_getElem? h4)
                    rw [hnd] at this
                    cases this
                  · rw [if_neg e] at h6; cases h6
                · obtain ⟨_, _, h7, _⟩ := h6
                  have := HJ.out.2
                  omega
              · rcases HL.out.2 hnd with h5 | h5
                · exact .inl (by omega)
                · omega
          clear hw hc HW HL
          go_wp2_with fail
          go_roundg (gk - 1)
          case measure => have := HIM.out; have := HLT.out; omega
          case rel => exact ⟨i + 1, X2, by have := HIM.out; have := HLT.out; omega, by have := HLT.out; omega, by simp, HW2, HL2⟩
        · have hie : i = 200 := by omega
          subst hie
          have hlt' : ¬ ((200 : Int) < 200) := by decide
          obtain ⟨t1, t2, t3, t4, _, _, _, _, t9, _, t11, _⟩ := HW.out.tells
          have HX := Lib.hid (And.intro t1 t2)
          obtain ⟨_, _, hm8, _⟩ := HW.out.ex
          clear hlt hwi2
          cases nd with
          | true =>
            have hover : decide (X'.D = []) = false := decide_eq_false (fun e => by have := t4.1 e; have := (HL.out.1 rfl).1; omega)
            have hmk := t9 (by have := (HL.out.1 rfl).1; omega)
            clear t1 t2 t3 t4 t9 t11
            go_wp2_with fail
            go_at_call 10
            refine (plover_any HX.out.1 HX.out.2).mono ?_
            rw [hover]
            rintro e w9 ⟨rfl, rfl⟩
            go_wp2_with fail
            go_at_call 11
            refine (plmark_any HX.out.1).mono ?_
            rw [hmk]
            rintro e w9 ⟨rfl, rfl⟩
            have HB : Hid (bL.length ≤ 12) := Lib.hid hbl
            clear HX hover hmk HL hm8
            go_wp2_with fail
            go_loopg [17] 51 (fun m t wr => ∃ (i : Nat) (Y' : Ax), i + m = 51 ∧ i ≤ 50 ∧ t = .int .i64 (i : Int) ∧ Hid (Wt w.heap.size w s p n bL aX aY (ext1 k) (201 + i) X' Y' wr) ∧ Hid (Y'.j ≤ k))
            case atStart => exact ⟨0, Y, by omega, by omega, rfl, HW, Lib.hid (by have := HJ.out; omega)⟩
            case round =>
              clear HW
              obtain ⟨i, Y', him, hil, rfl, HW, HL⟩ := hrel
              have HIM := Lib.hid him
              have hwi2 := hwi i (by omega)
              clear him
              by_cases hlt : i < 50
              · have hlt' : (i : Int) < 50 := by omega
                have HLT := Lib.hid hlt
                clear hlt hwi
                go_wp2_with fail
                go_at_call 26
                refine (wt_d HW.out HN.out (by omega) HE1.out).mono ?_
                rintro e w10 ⟨⟨bb, rfl, hbb⟩, Y2, hw, hc⟩
                obtain rfl := hbb (by have := HL.out; have := HK.out; omega)
                have HL2 : Hid (Y2.j ≤ k) := Lib.hid (by
                  rcases hc with ⟨rfl, h3⟩ | ⟨rfl, _⟩ | ⟨h3, _, h4⟩
                  · exact HL.out
                  · exact HL.out
                  · have h5 := HL.out
                    by_cases e : Y'.j = k
                    · have := h4 (by have := HK.out; omega)
                      unfold ext1 at this
                      rw [if_pos e] at this
                      cases this
                    · omega)
                have HW2 := Lib.hid hw
                obtain ⟨_, _, _, _, t5, _, _, _, _, t10, _, _⟩ := hw.tells
                have hmk := t10 (by have := HL2.out; have := HK.out; omega)
                clear hw hc HW HL hbb t10
                go_wp2_with fail
                go_at_call 11
                refine (plmark_any t5).mono ?_
                rw [hmk]
                rintro e w11 ⟨rfl, rfl⟩
                clear t5 hmk
                go_wp2_with fail
                go_roundg (gk - 1)
                case measure => have := HIM.out; have := HLT.out; omega
                case rel => exact ⟨i + 1, Y2, by have := HIM.out; have := HLT.out; omega, by have := HLT.out; omega, by simp, HW2, HL2⟩
              · have hie : i = 50 := by omega
                subst hie
                have hlt' : ¬ ((50 : Int) < 50) := by decide
                have hlt2 : decide ((50 : Int) < 50) = false := by decide
                clear hlt hwi2
                go_wp2_with fail
                go_at_call 30
                try rw [u6]
                obtain ⟨zs, M, C, rnd, h1, h2, h3, h4⟩ := HW.out.ps
                refine (h1.free50 (fun k X hf => by
                  unfold two at hf
                  by_cases e : k = 0
                  · omega
                  · rw [if_neg e] at hf
                    by_cases e' : k = 1
                    · omega
                    · rw [if_neg e'] at hf; cases hf) HK.out HN.out.2 (by decide)).mono ?_
                rintro e w20 ⟨rfl, M', hp⟩
                have HF : Hid (Wt w.heap.size w s p n bL aX aY (fun _ => none) (252 + 2 * 0) X' Y' w20) := Lib.hid ⟨⟨zs, M', C, rnd, hp.more (by decide), h2, h3, by omega⟩, HW.out.xa, HW.out.ya, HW.out.xq, HW.out.yq, HW.out.xd, HW.out.yd, HW.out.xb, HW.out.cb⟩
                clear h1 h2 h3 h4 hp HW
                go_wp2_with fail
                go_loopg [18] 68 (fun m t wr => ∃ (i : Nat) (X3 Y3 : Ax), i + m = 68 ∧ t = .int .i64 (i : Int) ∧ Hid (Wt w.heap.size w s p n bL aX aY (fun _ => none) (252 + 2 * i) X3 Y3 wr) ∧ Hid ((4 * X3.m + 1 - X3.j) + (4 * n + 2 - Y3.j) + i ≤ 67 ∨ (X3.j = 4 * X3.m + 1 ∧ Y3.j = 4 * n + 2)))
                case atStart => exact ⟨0, X', Y', rfl, rfl, HF, Lib.hid (.inl (by have := HF.out.ex; have := HN.out; omega))⟩
                case round =>
                  clear HF
                  obtain ⟨i, X3, Y3, him, rfl, HW, HL⟩ := hrel
                  have HIM := Lib.hid him
                  have hi67 : i ≤ 68 := by omega
                  have hwi2 := hwi i (by omega)
                  clear him
                  obtain ⟨t1, t2, t3, t4, t5, t6, t7, t8, _, _, t11, t12⟩ := HW.out.tells
                  have HTX := Lib.hid (And.intro t1 (And.intro t2 t3))
                  have HTY := Lib.hid (And.intro t5 (And.intro t6 t7))
                  have hlt' : (i : Int) < 256 := by omega
                  by_cases hbo : X3.j = 4 * X3.m + 1 ∧ Y3.j = 4 * n + 2
                  · have hox : decide (X3.D = []) = true := decide_eq_true (t4.2 (by omega))
                    have hoy : decide (Y3.D = []) = true := decide_eq_true (t8.2 (by omega))
                    clear t1 t2 t3 t4 t5 t6 t7 t8 t11 t12 hbo
                    go_wp2_with fail
                    go_at_call 10
                    refine (plover_any HTX.out.1 HTX.out.2.1).mono ?_
                    rw [hox]
                    rintro e w21 ⟨rfl, rfl⟩
                    go_wp2_with fail
                    go_at_call 10
                    refine (plover_any HTY.out.1 HTY.out.2.1).mono ?_
                    rw [hoy]
                    rintro e w21 ⟨rfl, rfl⟩
                    go_wp2_with fail
                    go_at_call 10
                    refine (plover_any HTX.out.1 HTX.out.2.1).mono ?_
                    rw [hox]
                    rintro e w21 ⟨rfl, rfl⟩
                    go_wp2_with fail
                    go_at_call 10
                    refine (plover_any HTY.out.1 HTY.out.2.1).mono ?_
                    rw [hoy]
                    rintro e w21 ⟨rfl, rfl⟩
                    go_wp2_with fail
                    go_at_call 13
                    refine (plok_any HTX.out.1 HTX.out.2.1).mono ?_
                    rw [hox, HTX.out.2.2]
                    rintro e w21 ⟨rfl, rfl⟩
                    go_wp2_with fail
                    go_at_call 13
                    refine (plok_any HTY.out.1 HTY.out.2.1).mono ?_
                    rw [hoy, HTY.out.2.2]
                    rintro e w21 ⟨rfl, rfl⟩
                    go_wp2_with fail
                    go_ret
                    exact ⟨rfl, HW.out.kept⟩
                  · have HBO := Lib.hid hbo
                    have HJB : Hid (X3.j ≤ 4 * X3.m + 1 ∧ Y3.j ≤ 4 * n + 2) := Lib.hid ⟨t11, t12⟩
                    have hgo : (4 * X3.m + 1 - X3.j) + (4 * n + 2 - Y3.j) + i ≤ 67 := HL.out.resolve_right hbo
                    have HGO := Lib.hid hgo
                    have hstep : ∀ W : World, W = wr → True := fun _ _ => trivial
                    rcases Bool.eq_false_or_eq_true (decide (X3.D = [])) with hox | hox
                    · have hoy : decide (Y3.D = []) = false := decide_eq_false (fun e => hbo ⟨by have := t4.1 (of_decide_eq_true hox); omega, by have := t8.1 e; omega⟩)
                      clear t1 t2 t3 t4 t5 t6 t7 t8 t11 t12 hbo hgo hstep
                      go_wp2_with fail
                      go_at_call 10
                      refine (plover_any HTX.out.1 HTX.out.2.1).mono ?_
                      rw [hox]
                      rintro e w21 ⟨rfl, rfl⟩
                      go_wp2_with fail
                      go_at_call 10
                      refine (plover_any HTY.out.1 HTY.out.2.1).mono ?_
                      rw [hoy]
                      rintro e w21 ⟨rfl, rfl⟩
                      clear HTX HTY
                      go_wp2_with fail
                      go_at_call 26
                      refine (wt_a HW.out HN.out (by omega) (fun _ => by simp)).mono ?_
                      rintro e w22 ⟨⟨bb, rfl⟩, X4, hw4, hc4⟩
                      have HW4 := Lib.hid hw4
                      have HC4 := Lib.hid hc4
                      clear hw4 hc4
                      go_wp2_with fail
                      go_at_call 26
                      refine (wt_d HW4.out HN.out (by omega) (fun _ => by simp)).mono ?_
                      rintro e w23 ⟨⟨bb2, rfl, _⟩, Y4, hw5, hc5⟩
                      have HW5 := Lib.hid hw5
                      have HL5 : Hid ((4 * X4.m + 1 - X4.j) + (4 * n + 2 - Y4.j) + (i + 1) ≤ 67) := by
                        have e1 : X4.m = X3.m := by unfold Ax.m; rw [HW4.out.xq, HW.out.xq]
                        have g1 := HGO.out
                        have g2 := HBO.out
                        have g3 := HJB.out
                        have ee := HW.out.ex
                        have e2 : Y3.m = n := ee.2.2.2
                        have e3 := ee.2.1
                        have e4 := ee.1
                        refine Lib.hid ?_
                        rcases HC4.out with ⟨rfl, a1⟩ | ⟨rfl, a1, q', a2, a3⟩ | ⟨a1, a2, _⟩
                        · rcases hc5 with ⟨rfl, b1⟩ | ⟨rfl, b1, b2⟩ | ⟨b1, b2, _⟩
                          · exact absurd ⟨a1, b1⟩ g2
                          · exfalso
                            rcases b2 with ⟨_, b3⟩ | b3
                            · cases b3
                            · have := hold_on b3
                              omega
                          · omega
                        · have a4 : holds Y3 q' := by
                            rcases a3 with ⟨_, a3⟩ | a3
                            · cases a3
                            · exact a3
                          rcases hc5 with ⟨rfl, b1⟩ | ⟨rfl, b1, b2⟩ | ⟨b1, b2, _⟩
                          · exfalso
                            have h5 := hold_on a4
                            omega
                          · exfalso
                            rcases b2 with ⟨_, b3⟩ | b3
                            · cases b3
                            · exact wt_both HW.out a1 a2 b1 a4 b3
                          · omega
                        · rcases hc5 with ⟨rfl, b1⟩ | ⟨rfl, b1, b2⟩ | ⟨b1, b2, _⟩
                          · omega
                          · omega
                          · omega
                      clear hw5 hc5 HC4 HW4 HW HL HGO HBO HJB
                      go_wp2_with fail
                      go_roundg (gk - 1)
                      case measure => have := HIM.out; have := HL5.out; omega
                      case rel => exact ⟨i + 1, X4, Y4, by have := HIM.out; have := HL5.out; omega, by simp, HW5, Lib.hid (.inl HL5.out)⟩
                    · clear t1 t2 t3 t4 t5 t6 t7 t8 t11 t12 hbo hgo hstep
                      go_wp2_with fail
                      go_at_call 10
                      refine (plover_any HTX.out.1 HTX.out.2.1).mono ?_
                      rw [hox]
                      rintro e w21 ⟨rfl, rfl⟩
                      clear HTX HTY
                      go_wp2_with fail
                      go_at_call 26
                      refine (wt_a HW.out HN.out (by omega) (fun _ => by simp)).mono ?_
                      rintro e w22 ⟨⟨bb, rfl⟩, X4, hw4, hc4⟩
                      have HW4 := Lib.hid hw4
                      have HC4 := Lib.hid hc4
                      clear hw4 hc4
                      go_wp2_with fail
                      go_at_call 26
                      refine (wt_d HW4.out HN.out (by omega) (fun _ => by simp)).mono ?_
                      rintro e w23 ⟨⟨bb2, rfl, _⟩, Y4, hw5, hc5⟩
                      have HW5 := Lib.hid hw5
                      have HL5 : Hid ((4 * X4.m + 1 - X4.j) + (4 * n + 2 - Y4.j) + (i + 1) ≤ 67) := by
                        have e1 : X4.m = X3.m := by unfold Ax.m; rw [HW4.out.xq, HW.out.xq]
                        have g1 := HGO.out
                        have g2 := HBO.out
                        have g3 := HJB.out
                        have ee := HW.out.ex
                        have e2 : Y3.m = n := ee.2.2.2
                        have e3 := ee.2.1
                        have e4 := ee.1
                        refine Lib.hid ?_
                        rcases HC4.out with ⟨rfl, a1⟩ | ⟨rfl, a1, q', a2, a3⟩ | ⟨a1, a2, _⟩
                        · rcases hc5 with ⟨rfl, b1⟩ | ⟨rfl, b1, b2⟩ | ⟨b1, b2, _⟩
                          · exact absurd ⟨a1, b1⟩ g2
                          · exfalso
                            rcases b2 with ⟨_, b3⟩ | b3
                            · cases b3
                            · have := hold_on b3
                              omega
                          · omega
                        · have a4 : holds Y3 q' := by
                            rcases a3 with ⟨_, a3⟩ | a3
                            · cases a3
                            · exact a3
                          rcases hc5 with ⟨rfl, b1⟩ | ⟨rfl, b1, b2⟩ | ⟨b1, b2, _⟩
                          · exfalso
                            have h5 := hold_on a4
                            omega
                          · exfalso
                            rcases b2 with ⟨_, b3⟩ | b3
                            · cases b3
                            · exact wt_both HW.out a1 a2 b1 a4 b3
                          · omega
                        · rcases hc5 with ⟨rfl, b1⟩ | ⟨rfl, b1, b2⟩ | ⟨b1, b2, _⟩
                          · omega
                          · omega
                          · omega
                      clear hw5 hc5 HC4 HW4 HW HL HGO HBO HJB
                      go_wp2_with fail
                      go_roundg (gk - 1)
                      case measure => have := HIM.out; have := HL5.out; omega
                      case rel => exact ⟨i + 1, X4, Y4, by have := HIM.out; have := HL5.out; omega, by simp, HW5, Lib.hid (.inl HL5.out)⟩
          | false =>
            have hover : decide (X'.D = []) = true := decide_eq_true (t4.2 (by rcases HL.out.2 rfl with h | h <;> omega))
            clear t1 t2 t3 t4 t9 t11
            go_wp2_with fail
            go_at_call 10
            refine (plover_any HX.out.1 HX.out.2).mono ?_
            rw [hover]
            rintro e w9 ⟨rfl, rfl⟩
            clear HX hover HL hm8
            go_wp2_with fail
            go_loopg [17] 1 (fun m t wr => m = 1 ∧ t = .int .i64 0 ∧ Hid (Wt w.heap.size w s p n bL aX aY (ext1 k) (201 + 0) X' Y wr))
            case atStart => exact ⟨rfl, rfl, HW⟩
            case round =>
              clear HW
              obtain ⟨_, rfl, HW⟩ := hrel
              go_wp2_with fail
              go_at_call 30
              try rw [u6]
              obtain ⟨zs, M, C, rnd, h1, h2, h3, h4⟩ := HW.out.ps
              refine (h1.free50 (fun k X hf => by
                unfold two at hf
                by_cases e : k = 0
                · omega
                · rw [if_neg e] at hf
                  by_cases e' : k = 1
                  · omega
                  · rw [if_neg e'] at hf; cases hf) HK.out HN.out.2 (by decide)).mono ?_
              rintro e w20 ⟨rfl, M', hp⟩
              have HF : Hid (Wt w.heap.size w s p n bL aX aY (fun _ => none) (252 + 2 * 0) X' Y w20) := Lib.hid ⟨⟨zs, M', C, rnd, hp.more (by decide), h2, h3, by omega⟩, HW.out.xa, HW.out.ya, HW.out.xq, HW.out.yq, HW.out.xd, HW.out.yd, HW.out.xb, HW.out.cb⟩
              clear h1 h2 h3 h4 hp HW
              go_wp2_with fail
              go_loopg [18] 68 (fun m t wr => ∃ (i : Nat) (X3 Y3 : Ax), i + m = 68 ∧ t = .int .i64 (i : Int) ∧ Hid (Wt w.heap.size w s p n bL aX aY (fun _ => none) (252 + 2 * i) X3 Y3 wr) ∧ Hid ((4 * X3.m + 1 - X3.j) + (4 * n + 2 - Y3.j) + i ≤ 67 ∨ (X3.j = 4 * X3.m + 1 ∧ Y3.j = 4 * n + 2)))
              case atStart => exact ⟨0, X', Y, rfl, rfl, HF, Lib.hid (.inl (by have := HF.out.ex; have := HN.out; omega))⟩
              case round =>
                clear HF
                obtain ⟨i, X3, Y3, him, rfl, HW, HL⟩ := hrel
                have HIM := Lib.hid him
                have hi67 : i ≤ 68 := by omega
                have hwi2 := hwi i (by omega)
                clear him
                obtain ⟨t1, t2, t3, t4, t5, t6, t7, t8, _, _, t11, t12⟩ := HW.out.tells
                have HTX := Lib.hid (And.intro t1 (And.intro t2 t3))
                have HTY := Lib.hid (And.intro t5 (And.intro t6 t7))
                have hlt' : (i : Int) < 256 := by omega
                by_cases hbo : X3.j = 4 * X3.m + 1 ∧ Y3.j = 4 * n + 2
                · have hox : decide (X3.D = []) = true := decide_eq_true (t4.2 (by omega))
                  have hoy : decide (Y3.D = []) = true := decide_eq_true (t8.2 (by omega))
                  clear t1 t2 t3 t4 t5 t6 t7 t8 t11 t12 hbo
                  go_wp2_with fail
                  go_at_call 10
                  refine (plover_any HTX.out.1 HTX.out.2.1).mono ?_
                  rw [hox]
                  rintro e w21 ⟨rfl, rfl⟩
                  go_wp2_with fail
                  go_at_call 10
                  refine (plover_any HTY.out.1 HTY.out.2.1).mono ?_
                  rw [hoy]
                  rintro e w21 ⟨rfl, rfl⟩
                  go_wp2_with fail
                  go_at_call 10
                  refine (plover_any HTX.out.1 HTX.out.2.1).mono ?_
                  rw [hox]
                  rintro e w21 ⟨rfl, rfl⟩
                  go_wp2_with fail
                  go_at_call 10
                  refine (plover_any HTY.out.1 HTY.out.2.1).mono ?_
                  rw [hoy]
                  rintro e w21 ⟨rfl, rfl⟩
                  go_wp2_with fail
                  go_at_call 13
                  refine (plok_any HTX.out.1 HTX.out.2.1).mono ?_
                  rw [hox, HTX.out.2.2]
                  rintro e w21 ⟨rfl, rfl⟩
                  go_wp2_with fail
                  go_at_call 13
                  refine (plok_any HTY.out.1 HTY.out.2.1).mono ?_
                  rw [hoy, HTY.out.2.2]
                  rintro e w21 ⟨rfl, rfl⟩
                  go_wp2_with fail
                  go_ret
                  exact ⟨rfl, HW.out.kept⟩
                · have HBO := Lib.hid hbo
                  have HJB : Hid (X3.j ≤ 4 * X3.m + 1 ∧ Y3.j ≤ 4 * n + 2) := Lib.hid ⟨t11, t12⟩
                  have hgo : (4 * X3.m + 1 - X3.j) + (4 * n + 2 - Y3.j) + i ≤ 67 := HL.out.resolve_right hbo
                  have HGO := Lib.hid hgo
                  have hstep : ∀ W : World, W = wr → True := fun _ _ => trivial
                  rcases Bool.eq_false_or_eq_true (decide (X3.D = [])) with hox | hox
                  · have hoy : decide (Y3.D = []) = false := decide_eq_false (fun e => hbo ⟨by have := t4.1 (of_decide_eq_true hox); omega, by have := t8.1 e; omega⟩)
                    clear t1 t2 t3 t4 t5 t6 t7 t8 t11 t12 hbo hgo hstep
                    go_wp2_with fail
                    go_at_call 10
                    refine (plover_any HTX.out.1 HTX.out.2.1).mono ?_
                    rw [hox]
                    rintro e w21 ⟨rfl, rfl⟩
                    go_wp2_with fail
                    go_at_call 10
                    refine (plover_any HTY.out.1 HTY.out.2.1).mono ?_
                    rw [hoy]
                    rintro e w21 ⟨rfl, rfl⟩
                    clear HTX HTY
                    go_wp2_with fail
                    go_at_call 26
                    refine (wt_a HW.out HN.out (by omega) (fun _ => by simp)).mono ?_
                    rintro e w22 ⟨⟨bb, rfl⟩, X4, hw4, hc4⟩
                    have HW4 := Lib.hid hw4
                    have HC4 := Lib.hid hc4
                    clear hw4 hc4
                    go_wp2_with fail
                    go_at_call 26
                    refine (wt_d HW4.out HN.out (by omega) (fun _ => by simp)).mono ?_
                    rintro e w23 ⟨⟨bb2, rfl, _⟩, Y4, hw5, hc5⟩
                    have HW5 := Lib.hid hw5
                    have HL5 : Hid ((4 * X4.m + 1 - X4.j) + (4 * n + 2 - Y4.j) + (i + 1) ≤ 67) := by
                      have e1 : X4.m = X3.m := by unfold Ax.m; rw [HW4.out.xq, HW.out.xq]
                      have g1 := HGO.out
                      have g2 := HBO.out
                      have g3 := HJB.out
                      have ee := HW.out.ex
                      have e2 : Y3.m = n := ee.2.2.2
                      have e3 := ee.2.1
                      have e4 := ee.1
                      refine Lib.hid ?_
                      rcases HC4.out with ⟨rfl, a1⟩ | ⟨rfl, a1, q', a2, a3⟩ | ⟨a1, a2, _⟩
                      · rcases hc5 with ⟨rfl, b1⟩ | ⟨rfl, b1, b2⟩ | ⟨b1, b2, _⟩
                        · exact absurd ⟨a1, b1⟩ g2
                        · exfalso
                          rcases b2 with ⟨_, b3⟩ | b3
                          · cases b3
                          · have := hold_on b3
                            omega
                        · omega
                      · have a4 : holds Y3 q' := by
                          rcases a3 with ⟨_, a3⟩ | a3
                          · cases a3
                          · exact a3
                        rcases hc5 with ⟨rfl, b1⟩ | ⟨rfl, b1, b2⟩ | ⟨b1, b2, _⟩
                        · exfalso
                          have h5 := hold_on a4
                          omega
                        · exfalso
                          rcases b2 with ⟨_, b3⟩ | b3
                          · cases b3
                          · exact wt_both HW.out a1 a2 b1 a4 b3
                        · omega
                      · rcases hc5 with ⟨rfl, b1⟩ | ⟨rfl, b1, b2⟩ | ⟨b1, b2, _⟩
                        · omega
                        · omega
                        · omega
                    clear hw5 hc5 HC4 HW4 HW HL HGO HBO HJB
                    go_wp2_with fail
                    go_roundg (gk - 1)
                    case measure => have := HIM.out; have := HL5.out; omega
                    case rel => exact ⟨i + 1, X4, Y4, by have := HIM.out; have := HL5.out; omega, by simp, HW5, Lib.hid (.inl HL5.out)⟩
                  · clear t1 t2 t3 t4 t5 t6 t7 t8 t11 t12 hbo hgo hstep
                    go_wp2_with fail
                    go_at_call 10
                    refine (plover_any HTX.out.1 HTX.out.2.1).mono ?_
                    rw [hox]
                    rintro e w21 ⟨rfl, rfl⟩
                    clear HTX HTY
                    go_wp2_with fail
                    go_at_call 26
                    refine (wt_a HW.out HN.out (by omega) (fun _ => by simp)).mono ?_
                    rintro e w22 ⟨⟨bb, rfl⟩, X4, hw4, hc4⟩
                    have HW4 := Lib.hid hw4
                    have HC4 := Lib.hid hc4
                    clear hw4 hc4
                    go_wp2_with fail
                    go_at_call 26
                    refine (wt_d HW4.out HN.out (by omega) (fun _ => by simp)).mono ?_
                    rintro e w23 ⟨⟨bb2, rfl, _⟩, Y4, hw5, hc5⟩
                    have HW5 := Lib.hid hw5
                    have HL5 : Hid ((4 * X4.m + 1 - X4.j) + (4 * n + 2 - Y4.j) + (i + 1) ≤ 67) := by
                      have e1 : X4.m = X3.m := by unfold Ax.m; rw [HW4.out.xq, HW.out.xq]
                      have g1 := HGO.out
                      have g2 := HBO.out
                      have g3 := HJB.out
                      have ee := HW.out.ex
                      have e2 : Y3.m = n := ee.2.2.2
                      have e3 := ee.2.1
                      have e4 := ee.1
                      refine Lib.hid ?_
                      rcases HC4.out with ⟨rfl, a1⟩ | ⟨rfl, a1, q', a2, a3⟩ | ⟨a1, a2, _⟩
                      · rcases hc5 with ⟨rfl, b1⟩ | ⟨rfl, b1, b2⟩ | ⟨b1, b2, _⟩
                        · exact absurd ⟨a1, b1⟩ g2
                        · exfalso
                          rcases b2 with ⟨_, b3⟩ | b3
                          · cases b3
                          · have := hold_on b3
                            omega
                        · omega
                      · have a4 : holds Y3 q' := by
                          rcases a3 with ⟨_, a3⟩ | a3
                          · cases a3
                          · exact a3
                        rcases hc5 with ⟨rfl, b1⟩ | ⟨rfl, b1, b2⟩ | ⟨b1, b2, _⟩
                        · exfalso
                          have h5 := hold_on a4
                          omega
                        · exfalso
                          rcases b2 with ⟨_, b3⟩ | b3
                          · cases b3
                          · exact wt_both HW.out a1 a2 b1 a4 b3
                        · omega
                      · rcases hc5 with ⟨rfl, b1⟩ | ⟨rfl, b1, b2⟩ | ⟨b1, b2, _⟩
                        · omega
                        · omega
                        · omega
                    clear hw5 hc5 HC4 HW4 HW HL HGO HBO HJB
                    go_wp2_with fail
                    go_roundg (gk - 1)
                    case measure => have := HIM.out; have := HL5.out; omega
                    case rel => exact ⟨i + 1, X4, Y4, by have := HIM.out; have := HL5.out; omega, by simp, HW5, Lib.hid (.inl HL5.out)⟩
end Go.Proofs.Ytkeldggdllaheaa.Pl
