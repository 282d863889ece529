/-
  THE LAW RingTurns: its walk.
-/
import Derived.Test.YtjmkcgkkgamafaaRgRtq
import Derived.Test.YtjmkcgkkgamafaaJoined13
import Derived.Test.YtjmkcgkkgamafaaRgAloneLaw
import Derived.Test.YtjmkcgkkgamafaaCkRace
import Derived.Test.YtjmkcgkkgamafaaCkNumd
namespace Go.Proofs.Ytjmkcgkkgamafaa.Rg
open Go.RowKit Rw Pk Go.Maps Mm
set_option linter.unusedVariables false
/-- The pusher's act, if one is under way. -/
def PuSt (r : Nat) (I : List (List Batch.Ch)) (aj : Nat) (p0 : Option Nat) (A0 : Ac) (l l0 : List Batch.Ch) (pu s' x : Nat) (s0 : Int) (ps : Bool) : Prop :=
  (p0 = none ∧ s' = 0 ∧ ps = false) ∨ ∃ a pu' po' bv j c, p0 = some a ∧ ps = true ∧ A0 = ⟨r, 0, false, bv, (s' : Int), pu', po', false, false, 0⟩ ∧ l = l0 ∧ s' ≤ 3 ∧ (1 ≤ s' → pu' = (pu : Int)) ∧ (2 ≤ s' → po' = (x : Int)) ∧ s0 = (s' : Int) ∧ aj = j + 1 ∧ I[j]? = some c ∧ l = Batch.fixL c
def PoSt (r : Nat) (p1 : Option Nat) (A1 : Ac) (b l1 : List Batch.Ch) (po t' : Nat) (s1 : Int) (pp : Bool) : Prop :=
  (p1 = none ∧ t' = 0 ∧ pp = false) ∨ ∃ a pu' po' bv, p1 = some a ∧ pp = true ∧ A1 = ⟨r, 1, true, bv, (t' : Int), pu', po', false, false, 0⟩ ∧ t' ≤ 4 ∧ (1 ≤ t' → po' = (po : Int)) ∧ (3 ≤ t' → l1 = b) ∧ l1.length ≤ 1000 ∧ s1 = (t' : Int)
theorem Rt.cellsG {n r nw st q N a : Nat} {w0 w w' : World} {zs zs' fs fq : List Nat} {L : List (List Batch.Ch)} {R R' : Ri} {M M' : Mm.St} {v : Value} {ss : List Sv} {p0 p1 : Option Nat} {A0 A1 A' : Ac} {l0 l1 l' : List Batch.Ch} {s0 s1 : Int} (h : Rt n w0 r nw st q N zs fs fq L R M w v ss p0 p1 A0 A1 l0 l1 s0 s1) (hg : Rg n w0 w fs zs' a r R' A' l' M' w') (ha : w.heap.size ≤ a) :
    w'.cell? ⟨nw, 0, none⟩ = some (pt p0) ∧ w'.cell? ⟨nw, 1, none⟩ = some (pt p1) ∧ w'.cell? ⟨st, 0, none⟩ = some (.int .i64 s0) ∧ w'.cell? ⟨st, 1, none⟩ = some (.int .i64 s1) ∧ (∀ o, w'.frozen? ⟨nw, o, none⟩ = false) ∧ ∀ o, w'.frozen? ⟨st, o, none⟩ = false := by
  obtain ⟨T, hT⟩ := h.cn
  obtain ⟨S, hS⟩ := h.cs
  have k : ∀ j ∈ wl nw st q p0 p1, w'.heap[j]? = w.heap[j]? := fun j hj => hg.fr j (h.wf j hj) (fun e => by have := h.lt j (h.wf j hj); omega) (h.nwr hj)
  rw [← k nw mem_nw] at hT
  rw [← k st mem_st] at hS
  simp [World.cell?, World.frozen?, hT, hS]
theorem half_pick (x : Int) : (IntKind.i64.wrap ((IntKind.u64.wrap x).tmod 2) = 0 ∧ wrap64 ((IntKind.u64.wrap x).tmod 2) = 0) ∨ (IntKind.i64.wrap ((IntKind.u64.wrap x).tmod 2) = 1 ∧ wrap64 ((IntKind.u64.wrap x).tmod 2) = 1) := by
  have h1 : wrap64 ((IntKind.u64.wrap x).tmod 2) = whoF x 2 := whoF_of (by decide) (by decide)
  have h2 := whoF_in (p := x) (m := 2) (by decide)
  have h3 : IntKind.i64.wrap ((IntKind.u64.wrap x).tmod 2) = wrap64 ((IntKind.u64.wrap x).tmod 2) := by
    rw [IntKind.wrap_i64]; unfold wrap64; omega
  rcases (show whoF x 2 = 0 ∨ whoF x 2 = 1 by omega) with e | e
  · exact .inl ⟨by rw [h3, h1, e], by rw [h1, e]⟩
  · exact .inr ⟨by rw [h3, h1, e], by rw [h1, e]⟩
set_option maxRecDepth 1000000 in
set_option maxHeartbeats 16000000 in
theorem ringTurns_any {w : World} (x : Int) {v1 v2 : Value} {I : List (List Batch.Ch)} {P : List Int} (hl : Fr.RdL w v1 I) (hp : Rr intK w v2 P) :
    Calls Try.prog 4 #[.int .i64 x, v1, v2] w fun e w' => e = .returned (.bool true) ∧ Below w.heap.size w w' := by
  have HL := Lib.hid hl
  have HP := Lib.hid hp
  obtain ⟨po, pc, rfl, hp1, hp2⟩ := hp.form
  obtain ⟨lo, lc, rfl, hl1, _⟩ := hl
  have hlP : P.length ≤ 9223372036854775807 := by omega
  clear hp hp1
  go_enter Try.func4, Try.ntmps4
  go_wp2_with fail
  go_at_call 11
  refine (rgsize_any x w).mono ?_
  rintro e w1 ⟨N, hN, rfl, hb⟩
  have HN := Lib.hid hN
  have HB1 := Lib.hid hb
  have hN1 : 1 ≤ N := by rcases hN with rfl | rfl | rfl | rfl | rfl <;> decide
  have hN64 : N ≤ 64 := by rcases hN with rfl | rfl | rfl | rfl | rfl <;> decide
  clear hN hb
  go_wp2_with fail
  go_at_call 12
  refine (rgbegin_any HN.out w1).mono ?_
  rintro e w2 ⟨p, r, zs, rfl, hq⟩
  have HQ := Lib.hid hq
  clear hq
  go_wp2_with fail
  go_at_call 13
  refine (rgtold_any w2).mono ?_
  rintro e w3 ⟨rfl, hb⟩
  have HB3 := Lib.hid hb
  clear hb
  go_wp2_with fail
  have HRT : Hid (∀ T1 T2, ∃ zs', Rt w1.heap.size w1 r w3.heap.size (w3.heap.size + 1) (w3.heap.size + 1 + 1) N zs' [w3.heap.size, w3.heap.size + 1, w3.heap.size + 1 + 1] [w3.heap.size + 1 + 1] [] ⟨p, 1, 1, N, false, false⟩ (initS 4 (N + 2) 0) (((w3.alloc (.cells #[.pointer none, .pointer none] T1)).alloc (.cells #[.int .i64 0, .int .i64 0] T2)).alloc (.cells #[.slice none 0 0, .int .i64 (N : Int)] 32)) (.slice none 0 0) [] none none ⟨r, 0, false, .slice none 0 0, 0, 0, 0, false, false, 0⟩ ⟨r, 0, false, .slice none 0 0, 0, 0, 0, false, false, 0⟩ [] [] 0 0) :=
    Lib.hid (fun T1 T2 => by
      have hh := Ck.heap3 w3 (.cells #[.pointer none, .pointer none] T1) (.cells #[.int .i64 0, .int .i64 0] T2) (.cells #[.slice none 0 0, .int .i64 (N : Int)] 32)
      exact rt_start HQ.out (((HB3.out.alloc HB3.out.size _).alloc (by have := HB3.out.size; simp; omega) _).alloc (by have := HB3.out.size; simp; omega) _) HB3.out.size (by omega) (by omega) hh.1 hh.2.1 hh.2.2)
  obtain ⟨zs', hrt⟩ := HRT.out 51 52
  have HRT0 := Lib.hid hrt
  have HGI0 := Lib.hid (gi_init hN1)
  have HRC0 := Lib.hid (rc_nil N)
  clear hrt HQ HB3
  go_loopg [13, 14] 1000 (fun k t s wr => ∃ (i aj : Nat) (zs fs fq : List Nat) (L : List (List Batch.Ch)) (pu po s' t' x k' : Nat) (l l0 l1 b : List Batch.Ch) (M : Mm.St) (v : Value) (ss : List Sv) (p0 p1 : Option Nat) (A0 A1 : Ac) (s0 s1 : Int) (ps pp : Bool), i + k = 1000 ∧ i ≤ P.length ∧ t = .int .i64 (aj : Int) ∧ s = .int .i64 (i : Int) ∧ aj ≤ i ∧ pu ≤ i ∧ k' ≤ i ∧
    Hid (Rt w1.heap.size w1 r w3.heap.size (w3.heap.size + 1) (w3.heap.size + 1 + 1) N zs fs fq L ⟨p, 1, 1, N, ps, pp⟩ M wr v ss p0 p1 A0 A1 l0 l1 s0 s1) ∧ Hid (Gi N L pu po s' t' l x b k' M) ∧ Hid (Rc N pu po s' t' x M.lg) ∧ Hid (PuSt r I aj p0 A0 l l0 pu s' x s0 ps) ∧ Hid (PoSt r p1 A1 b l1 po t' s1 pp) ∧ Hid (∀ l ∈ L, l.length ≤ 1000))
  case atStart => exact ⟨0, 0, _, _, _, _, 0, 0, 0, 0, 0, 0, [], _, _, [], _, _, _, _, _, _, _, _, _, _, _, rfl, by omega, rfl, rfl, by omega, by omega, by omega, HRT0, HGI0, HRC0, Lib.hid (.inl ⟨rfl, rfl, rfl⟩), Lib.hid (.inl ⟨rfl, rfl, rfl⟩), Lib.hid (by simp)⟩
  case round =>
    obtain ⟨i, aj, zs, fs, fq, L, pu, po', s', t', x', k', l, l0, l1, b, M, v, ss, p0, p1, A0, A1, s0, s1, ps, pp, hik, hil, rfl, rfl, hji, hpu, hk', HT, HGI, HRC, HPU, HPO, HLL⟩ := hrel
    have HIK := Lib.hid hik
    have HJ := Lib.hid (And.intro hji (And.intro hpu hk'))
    have hi3 : i ≤ 1000 := by omega
    have hi0 : (0 : Int) ≤ (i : Int) := Int.natCast_nonneg _
    have hj0 : (0 : Int) ≤ (aj : Int) := Int.natCast_nonneg _
    have hj3 : aj ≤ 1000 := by omega
    clear hik HRT0 HGI0 HRC0 hji hpu hk'
    by_cases hend : i < P.length ∧ i < 1000
    · obtain ⟨h1, h2⟩ := hend
      have h1' : (i : Int) < (P.length : Int) := by omega
      have h2' : (i : Int) < 1000 := by omega
      have HEND := Lib.hid (And.intro h1 h2)
      obtain ⟨y, hx⟩ : ∃ x, P[i]? = some x := ⟨_, List.getElem?_eq_getElem h1⟩
      obtain ⟨pb, poff, rfl, hbl, qx⟩ := HP.out.at hx
      have HKP := Lib.hid (HB1.out.trans (HT.out.hq.mz.kept.mono HB1.out.size))
      have c0 := at1 (qx.below HKP.out hbl)
      simp only [intK_k, Nat.mul_one] at c0
      have hik1 : IntKind.i64.wrap ((i : Int) + 1) = ((i + 1 : Nat) : Int) := by simp [IntKind.wrap, IntKind.bits, IntKind.signed]; omega
      have hjk1 : IntKind.i64.wrap ((aj : Int) + 1) = ((aj + 1 : Nat) : Int) := by simp [IntKind.wrap, IntKind.bits, IntKind.signed]; omega
      clear hx qx hbl h1 h2
      obtain ⟨n0, n1, q0, q1, nf, qf⟩ := HT.out.cells
      rcases half_pick y with ⟨hk1, hk2⟩ | ⟨hk1, hk2⟩
      · rcases HPU.out with ⟨rfl, rfl, rfl⟩ | ⟨a, pu', po2, bv, j, c, rfl, rfl, rfl, rfl, hs3, hpu', hpo', rfl, haj, hcc, hle⟩
        · by_cases hat : aj < I.length
          · clear n0 n1 q0 q1 nf qf
            obtain ⟨c, hcc⟩ : ∃ l, I[aj]? = some l := ⟨_, List.getElem?_eq_getElem hat⟩
            obtain ⟨lb, loff, u0, rfl, hu0, hr0⟩ := rgrdl_at HL.out hcc
            have hcell := (HKP.out.cell (p := ⟨lb, loff + aj, none⟩) (Lib.lt_of_cell hu0)).trans hu0
            have HR := Lib.hid (hr0.below HKP.out)
            have HNI0 := Lib.hid (Batch.fix_nice hr0.wf)
            have HCC0 := Lib.hid hcc
            obtain ⟨uo0, uc0, rfl, _⟩ := id hr0
            have hat' : (aj : Int) < (I.length : Int) := by omega
            clear hu0 hr0 hcc hat
            obtain ⟨n0, n1, q0, q1, nf, qf⟩ := HT.out.cells
            replace n0 : wr.cell? ⟨w3.heap.size, 0, none⟩ = some (.pointer none) := n0
            go_wp2_with fail
            go_at_call 24
            refine (Batch.fix_any HR.out).mono ?_
            rintro e w5 ⟨v1, rfl, ho, hb⟩
            obtain ⟨xo, xc, rfl⟩ := bown_form0 ho
            have HO5 := Lib.hid ho
            have HT5 := Lib.hid (HT.out.below hb)
            clear ho hb
            go_wp2_with fail
            go_at_call 26
            refine (Batch.to_any (Batch.Own.rd HO5.out HNI0.out.wf) (by have := HNI0.out.len; omega)).mono ?_
            rintro e w6 ⟨v2, rfl, ho, hb⟩
            have HO6 := Lib.hid ho
            have HT6 := Lib.hid (HT5.out.below hb)
            have HLT6 := Lib.hid (Nat.lt_of_lt_of_le HT5.out.hq.ri.lt (Nat.le_refl _))
            obtain ⟨_, _, rfl⟩ := bown_form0 ho
            clear ho hb hcell n0 n1 q0 q1 nf qf
            go_wp2_with fail
            go_at_call 25
            refine (rgpush_yesf HT6.out.hq rfl 0 (Batch.Own.sl HO6.out HNI0.out.wf) (by have := HNI0.out.len; omega) (fun g hg => by
              have h1 := (World.ownsRow.lt HO6.out g hg).1
              have h2 := HLT6.out
              omega)).mono ?_
            rintro e w7 ⟨a, rfl, ha, bv, zs1, hv, z1, z2, hg⟩
            have HG := Lib.hid (show Rg w1.heap.size w1 w6 fs zs1 a r ⟨p, 1, 1, N, true, pp⟩ ⟨r, 0, false, bv, 0, 0, 0, false, false, 0⟩ (Batch.fixL c) M w7 from hg)
            have HT8 := Lib.hid (show Rt w1.heap.size w1 r w3.heap.size (w3.heap.size + 1) (w3.heap.size + 1 + 1) N zs1 (a :: (bv.ownBlock.toList ++ fs)) fq L ⟨p, 1, 1, N, true, pp⟩ M ((w7.setCell ⟨w3.heap.size, 0, none⟩ (.pointer (some ⟨a, 0, none⟩))).setCell ⟨w3.heap.size + 1, 0, none⟩ (.int .i64 ((0 : Nat) : Int))) v ss (some a) p1 ⟨r, 0, false, bv, ((0 : Nat) : Int), 0, 0, false, false, 0⟩ A1 (Batch.fixL c) l1 ((0 : Nat) : Int) s1 from (HT6.out.new0 HG.out ha hv).setS0 0)
            obtain ⟨n0, n1, q0, q1, nf, qf⟩ := HT6.out.cellsG HG.out ha
            clear hg z1 z2 hv ha
            go_upto_region 20 with fail
            replace HT8 : Hid (Rt w1.heap.size w1 r w3.heap.size (w3.heap.size + 1) (w3.heap.size + 1 + 1) N zs1 (a :: (bv.ownBlock.toList ++ fs)) fq L ⟨p, 1, 1, N, true, pp⟩ M ((w7.setCell ⟨w3.heap.size, 0, none⟩ (.pointer (some ⟨a, 0, none⟩))).setCell ⟨w3.heap.size + 1, 0, none⟩ (.int .i64 0)) v ss (some a) p1 ⟨r, 0, false, bv, ((0 : Nat) : Int), 0, 0, false, false, 0⟩ A1 (Batch.fixL c) l1 ((0 : Nat) : Int) s1) := HT8
            clear n0 n1 q0 q1 nf qf HT HT5 HT6 HKP HR HO5 HO6 HG HLT6
            generalize ((w7.setCell ⟨w3.heap.size, 0, none⟩ (.pointer (some ⟨a, 0, none⟩))).setCell ⟨w3.heap.size + 1, 0, none⟩ (.int .i64 0)) = wr at *
            generalize hfs : (a :: (bv.ownBlock.toList ++ fs)) = fs at *
            clear hfs
            have HT := HT8
            clear HT8
            obtain ⟨l, hle⟩ : ∃ l, l = Batch.fixL c := ⟨_, rfl⟩
            rw [← hle] at HT
            have hcc := HCC0.out
            replace HGI := Lib.hid (HGI.out.pushN l)
            obtain ⟨s', hs0, HT, HGI, HRC⟩ : ∃ s' : Nat, s' = 0 ∧ Hid (Rt w1.heap.size w1 r w3.heap.size (w3.heap.size + 1) (w3.heap.size + 1 + 1) N zs1 fs fq L ⟨p, 1, 1, N, true, pp⟩ M wr v ss (some a) p1 ⟨r, 0, false, bv, (s' : Int), 0, 0, false, false, 0⟩ A1 l l1 (s' : Int) s1) ∧ Hid (Gi N L pu po' s' t' l x' b k' M) ∧ Hid (Rc N pu po' s' t' x' M.lg) := ⟨0, rfl, HT, HGI, HRC⟩
            have HS3 : Hid (s' ≤ 3 ∧ (1 ≤ s' → (0 : Int) = (pu : Int)) ∧ (2 ≤ s' → (0 : Int) = (x' : Int))) := Lib.hid ⟨by omega, fun h => by omega, fun h => by omega⟩
            clear hs0
            obtain ⟨j, hjj⟩ : ∃ j : Nat, j = aj := ⟨_, rfl⟩
            obtain ⟨aq, haj⟩ : ∃ x : Nat, x = j + 1 := ⟨_, rfl⟩
            have haq : (aj : Int) + 1 = (aq : Int) := by omega
            rw [haq]
            rw [← hjj] at hcc
            have HJ2 := Lib.hid (show aq ≤ i + 1 ∧ pu ≤ i ∧ k' ≤ i by have := HJ.out; omega)
            have hj9 : j ≤ 1000 := by omega
            clear HJ haq hjj hjk1 hj0 hj3 hat'
            have HJ := HJ2
            obtain ⟨aj, hrf⟩ : ∃ x, x = aq := ⟨_, rfl⟩
            subst hrf

            have HLE := Lib.hid hle
            have HCC := Lib.hid hcc
            have HAJ := Lib.hid haj
            obtain ⟨lb1, loff1, u, hlo, hu, hr⟩ := rgrdl_at HL.out hcc
            cases hlo
            have HNI := Lib.hid (Batch.fix_nice hr.wf)
            have HLN := Lib.hid (show l.length ≤ 1000 ∧ ∀ z ∈ l, z.Wf from by rw [hle]; exact ⟨by have := HNI.out.len; omega, HNI.out.wf⟩)
            have HCELL := Lib.hid hu
            have HRD := Lib.hid hr
            obtain ⟨uo, uc, rfl, _⟩ := id hr
            have hjI : (j : Int) < (I.length : Int) := by have := (List.getElem?_eq_some_iff.1 hcc).1; omega
            have hsb1 : IntKind.i64.wrap ((aj : Int) - 1) = (j : Int) := by simp [IntKind.wrap, IntKind.bits, IntKind.signed]; omega
            have hsb2 : wrap64 ((aj : Int) - 1) = (j : Int) := by unfold wrap64; omega
            have hjp : (0 : Int) ≤ (j : Int) := Int.natCast_nonneg _
            have HSC : Hid (∀ {zs' fs' fq' L' R' M' v' ss' p0' p1' A0' A1' l0' l1' s0' s1'} (W : World), Rt w1.heap.size w1 r w3.heap.size (w3.heap.size + 1) (w3.heap.size + 1 + 1) N zs' fs' fq' L' R' M' W v' ss' p0' p1' A0' A1' l0' l1' s0' s1' → W.cell? ⟨lb, loff + j, none⟩ = some (.slice uo c.length uc)) := Lib.hid (fun W h => ((HB1.out.trans (h.hq.mz.kept.mono HB1.out.size)).cell (p := ⟨lb, loff + j, none⟩) (Lib.lt_of_cell HCELL.out)).trans HCELL.out)
            have HRR : Hid (∀ {zs' fs' fq' L' R' M' v' ss' p0' p1' A0' A1' l0' l1' s0' s1'} (W : World), Rt w1.heap.size w1 r w3.heap.size (w3.heap.size + 1) (w3.heap.size + 1 + 1) N zs' fs' fq' L' R' M' W v' ss' p0' p1' A0' A1' l0' l1' s0' s1' → Batch.Rd W (.slice uo c.length uc) c) := Lib.hid (fun W h => HRD.out.below (HB1.out.trans (h.hq.mz.kept.mono HB1.out.size)))
            clear hle hcc haj hu hr

            obtain ⟨n0, n1, q0, q1, nf, qf⟩ := HT.out.cells
            replace n0 : wr.cell? ⟨w3.heap.size, 0, none⟩ = some (.pointer (some ⟨a, 0, none⟩)) := n0
            go_wp2_with fail
            go_at_call 14
            refine (mz_time HT.out.hq.mz).mono ?_
            rintro e w4 ⟨rfl, rfl⟩
            go_wp2_with fail
            go_at_call 28
            refine (rtstep_push HT.out HGI.out HRC.out HS3.out.1 HS3.out.2.1 HS3.out.2.2 hN64 (by have := HJ.out; omega) (by have := HJ.out; omega) HLN.out).mono ?_
            rintro e w5 ⟨M', hlen, hor⟩
            have hwt : IntKind.i64.wrap ((M.lg.length : Int) + 1) = (M.lg.length : Int) + 1 := by have := HGI.out.good.l; have := HJ.out; simp [IntKind.wrap, IntKind.bits, IntKind.signed]; omega
            have hgt : ¬ ((M.lg.length : Int) + 1 < (M'.lg.length : Int)) := by omega
            have hst : IntKind.i64.wrap ((s' : Int) + 1) = (s' : Int) + 1 := by have := HS3.out.1; simp [IntKind.wrap, IntKind.bits, IntKind.signed]; omega
            have hs8 : ¬ (8 < (s' : Int) + 1) := by have := HS3.out.1; omega
            clear hlen n0 n1 q0 q1 nf qf
            rcases hor with ⟨rfl, pu2, po2, x2, hrt, hgi, hrc, h3, h4, h5⟩ | ⟨rfl, ok, acc, pu2, po2, hrt, hor⟩
            · obtain ⟨n0, n1, q0, q1, nf, qf⟩ := hrt.cells
              have HT' := Lib.hid (hrt.setS0 ((s' : Int) + 1))
              have HGI' := Lib.hid hgi
              have HRC' := Lib.hid hrc
              have HS3' := Lib.hid (And.intro h3 (And.intro h4 h5))
              clear hrt hgi hrc h3 h4 h5
              go_wp2_with fail
              go_at_call 14
              try rw [hst]
              clear n0 n1 q0 q1 nf qf
              generalize w5.setCell ⟨w3.heap.size + 1, 0, none⟩ (.int .i64 ((s' : Int) + 1)) = W at *
              obtain ⟨n0, n1, q0, q1, nf, qf⟩ := HT'.out.cells
              have HA6 := Lib.hid (HT'.out.a0 a rfl).ac
              refine (mz_time HT'.out.hq.mz).mono ?_
              rintro e w6 ⟨rfl, rfl⟩
              go_wp2_with fail
              go_at_call 16
              refine (rgover_any HA6.out).mono ?_
              rintro e w6 ⟨rfl, rfl⟩
              go_wp2_with fail
              go_at_call 23
              refine (rgmark_any HA6.out).mono ?_
              rintro e w6 ⟨rfl, rfl⟩
              go_wp2_with fail
              go_at_call 19
              refine (rgok_any HA6.out).mono ?_
              rintro e w6 ⟨rfl, rfl⟩
              go_wp2_with fail
              go_roundg (gk - 1)
              case measure => have := HIK.out; have := HEND.out; omega
              case rel => exact ⟨i + 1, aj, _, _, _, _, pu, po', s' + 1, t', x2, k' + 1, l, _, _, b, _, _, _, some a, p1, _, _, _, _, _, _, by have := HIK.out; have := HEND.out; omega, by have := HEND.out; omega, rfl, by go_num, by have := HJ.out; omega, by have := HJ.out; omega, by have := HJ.out; omega, HT', HGI', HRC', Lib.hid (.inr ⟨a, _, _, bv, j, c, rfl, rfl, rfl, rfl, HS3'.out.1, HS3'.out.2.1, HS3'.out.2.2, by omega, HAJ.out, HCC.out, HLE.out⟩), HPO, HLL⟩
            · obtain ⟨n0, n1, q0, q1, nf, qf⟩ := hrt.cells
              have HT' := Lib.hid (hrt.setS0 ((s' : Int) + 1))
              clear hrt
              go_wp2_with fail
              go_at_call 14
              try rw [hst]
              clear n0 n1 q0 q1 nf qf
              generalize w5.setCell ⟨w3.heap.size + 1, 0, none⟩ (.int .i64 ((s' : Int) + 1)) = W at *
              obtain ⟨n0, n1, q0, q1, nf, qf⟩ := HT'.out.cells
              refine (mz_time HT'.out.hq.mz).mono ?_
              rintro e w6 ⟨rfl, rfl⟩
              go_wp2_with fail
              go_at_call 16
              refine (rgover_any (HT'.out.a0 a rfl).ac).mono ?_
              rintro e w6 ⟨rfl, rfl⟩
              clear n0 n1 q0 q1 nf qf
              rcases hor with ⟨rfl, hn, hgi, hrc⟩ | ⟨rfl, hn, hgi, hrc⟩
              · have HGI' := Lib.hid hgi
                have HRC' := Lib.hid hrc
                clear hgi hrc
                have HA6 := Lib.hid (HT'.out.a0 a rfl).ac
                have HSS : Hid (ss.length = L.length) := Lib.hid HT'.out.qs.len
                have HNN : Hid (N ≤ L.length) := Lib.hid (Nat.le_of_eq hn.symm)
                clear hn
                go_upto_region 33 with fail
                replace HT' := Lib.hid (HT'.out.below (Below.refl _ _).drew)
                replace HA6 := Lib.hid (HT'.out.a0 a rfl).ac
                refine wp_region_held_drew (S := (fun w' => w'.cell? ⟨lb, loff + j, none⟩ = some (.slice uo c.length uc))) (by kernel_rfl) ?_ (fun hHeld => ?_)
                · ((try dsimp only); first | exact HSC.out _ HT'.out | exact HSC.out _ (HT'.out.below (Below.refl _ _).drew))
                refine wpAnyH_take (i := 0) (v := ?_) rfl (by kernel_rfl) (by kernel_rfl) (by kernel_rfl) (fun _ _ _ h => h) (Or.inl ⟨by rfl, ?_⟩) (by assumption) ?_
                rotate_left 1
                · (intro w hSw; (try dsimp only at hSw); first | (go_simp; done) | (go_simp; with_reducible rfl))
                try simp only [Act.put, List.setIfInBounds_toArray, List.set_cons_zero, List.set_cons_succ, List.getElem_toArray, List.getElem_cons_zero]
                refine wpAnyH_take (i := 2) (v := ?_) rfl (by kernel_rfl) (by kernel_rfl) (by kernel_rfl) (fun _ _ _ h => h) (Or.inl ⟨by rfl, ?_⟩) (by assumption) ?_
                rotate_left 1
                · (intro w hSw; (try dsimp only at hSw); first | (go_simp; done) | (go_simp; with_reducible rfl))
                try simp only [Act.put, List.setIfInBounds_toArray, List.set_cons_zero, List.set_cons_succ, List.getElem_toArray, List.getElem_cons_zero, List.getElem_cons_succ]
                refine wpAnyH_take (i := 3) (v := ?_) rfl (by kernel_rfl) (by kernel_rfl) (by kernel_rfl) (fun _ _ _ h => h) (Or.inl ⟨by rfl, ?_⟩) (by assumption) ?_
                rotate_left 1
                · (intro w hSw; (try dsimp only at hSw); first | (go_simp; done) | (go_simp; with_reducible rfl))
                try simp only [Act.put, List.setIfInBounds_toArray, List.set_cons_zero, List.set_cons_succ, List.getElem_toArray, List.getElem_cons_zero, List.getElem_cons_succ]
                refine wpAnyH_take (i := 4) (v := ?_) rfl (by kernel_rfl) (by kernel_rfl) (by kernel_rfl) (fun _ _ _ h => h) (Or.inl ⟨by rfl, ?_⟩) (by assumption) ?_
                rotate_left 1
                · (intro w hSw; (try dsimp only at hSw); first | (go_simp; done) | (go_simp; with_reducible rfl))
                try simp only [Act.put, List.setIfInBounds_toArray, List.set_cons_zero, List.set_cons_succ, List.getElem_toArray, List.getElem_cons_zero, List.getElem_cons_succ]
                refine wpAnyH_take (i := 5) (v := ?_) rfl (by kernel_rfl) (by kernel_rfl) (by kernel_rfl) (fun _ _ _ h => h) (Or.inl ⟨by rfl, ?_⟩) (by assumption) ?_
                rotate_left 1
                · (intro w hSw; (try dsimp only at hSw); first | (go_simp; done) | (go_simp; with_reducible rfl))
                try simp only [Act.put, List.setIfInBounds_toArray, List.set_cons_zero, List.set_cons_succ, List.getElem_toArray, List.getElem_cons_zero, List.getElem_cons_succ]
                refine wpAnyH_take (i := 6) (v := ?_) rfl (by kernel_rfl) (by kernel_rfl) (by kernel_rfl) (fun _ _ _ h => h) (Or.inl ⟨by rfl, ?_⟩) (by assumption) ?_
                rotate_left 1
                · (intro w hSw; (try dsimp only at hSw); first | (go_simp; done) | (go_simp; with_reducible rfl))
                try simp only [Act.put, List.setIfInBounds_toArray, List.set_cons_zero, List.set_cons_succ, List.getElem_toArray, List.getElem_cons_zero, List.getElem_cons_succ]
                refine wpAnyH_take (i := 7) (v := ?_) rfl (by kernel_rfl) (by kernel_rfl) (by kernel_rfl) (fun _ _ _ h => h) (Or.inl ⟨by rfl, ?_⟩) (by assumption) ?_
                rotate_left 1
                · (intro w hSw; (try dsimp only at hSw); first | (go_simp; done) | (go_simp; with_reducible rfl))
                try simp only [Act.put, List.setIfInBounds_toArray, List.set_cons_zero, List.set_cons_succ, List.getElem_toArray, List.getElem_cons_zero, List.getElem_cons_succ]
                refine wpAnyH_ready (rs := [1]) (by kernel_rfl) (by simp) ?_
                refine AllReadyH.cons rfl (fun K hK => ?_) AllReadyH.nil
                go_simp
                go_at_call 19
                refine (rgok_any HA6.out).mono ?_
                rintro e w7 ⟨rfl, rfl⟩
                try go_wp2_with fail
                refine hK.out _ _ ?_ (fun hHeld => ?_)
                · ((try dsimp only); first | exact HSC.out _ HT'.out | exact HSC.out _ (HT'.out.below (Below.refl _ _).drew))
                clear hK K
                try simp only [Act.put, List.setIfInBounds_toArray, List.set_cons_zero, List.set_cons_succ, List.getElem_toArray, List.getElem_cons_zero, List.getElem_cons_succ]
                refine wpAnyH_ready (rs := [8]) (by kernel_rfl) (by simp) ?_
                refine AllReadyH.cons rfl (fun K hK => ?_) AllReadyH.nil
                go_simp
                go_at_call 24
                refine (Batch.fix_any (HRR.out _ (by first | exact HT'.out | exact HT'.out.below (Below.refl _ _).drew | exact HT'.out.below (below_drewN (Below.refl _ _) _)))).mono ?_
                rintro e w8 ⟨vf, rfl, ho, hb⟩
                have HT8 := Lib.hid (HT'.out.below hb)
                obtain ⟨xo, xc, rfl⟩ := bown_form0 ho
                have HO8 := Lib.hid ho
                have HB8 := Lib.hid hb
                clear ho hb
                try go_wp2_with fail
                refine hK.out _ _ ?_ (fun hHeld => ?_)
                · ((try dsimp only); exact HSC.out _ HT8.out)
                clear hK K
                try simp only [Act.put, List.setIfInBounds_toArray, List.set_cons_zero, List.set_cons_succ, List.getElem_toArray, List.getElem_cons_zero, List.getElem_cons_succ]
                refine wpAnyH_ready (rs := [9]) (by kernel_rfl) (by simp) ?_
                refine AllReadyH.cons rfl (fun K hK => ?_) AllReadyH.nil
                go_simp
                go_at_call 27
                have hqa := HT8.out.qs.qa
                obtain ⟨vo, vc, hvf, _⟩ := HT8.out.qs.row
                rw [hvf] at hqa
                refine (rgqpush_no hqa (by rw [HSS.out]; exact HNN.out) _).mono ?_
                rintro e W2 ⟨rfl, hb⟩
                have HT10 := Lib.hid (HT8.out.below hb)
                clear hb hqa hvf
                try go_wp2_with fail
                refine hK.out _ _ ?_ (fun hHeld => ?_)
                · ((try dsimp only); exact HSC.out _ HT10.out)
                clear hK K
                try simp only [Act.put, List.setIfInBounds_toArray, List.set_cons_zero, List.set_cons_succ, List.getElem_toArray, List.getElem_cons_zero, List.getElem_cons_succ]
                refine wpAnyH_take (i := 10) (v := ?_) rfl (by kernel_rfl) (by kernel_rfl) (by kernel_rfl) (fun _ _ _ h => h) (Or.inl ⟨by rfl, ?_⟩) (by assumption) ?_
                rotate_left 1
                · (intro w hSw; (try dsimp only at hSw); first | (go_simp; done) | (go_simp; with_reducible rfl))
                try simp only [Act.put, List.setIfInBounds_toArray, List.set_cons_zero, List.set_cons_succ, List.getElem_toArray, List.getElem_cons_zero, List.getElem_cons_succ]
                refine wpAnyH_done (by kernel_rfl) ?_ _

                go_wp2_with fail
                have HA10 := Lib.hid (HT10.out.a0 a rfl).ac
                obtain ⟨n0, n1, q0, q1, nf, qf⟩ := HT10.out.cells
                go_at_call 23
                refine (rgmark_any HA10.out).mono ?_
                rintro e w14 ⟨rfl, rfl⟩
                go_wp2_with fail
                go_at_call 14
                refine (mz_time HT10.out.hq.mz).mono ?_
                rintro e w15 ⟨rfl, rfl⟩
                go_wp2_with fail
                have HTE := Lib.hid (HT10.out.end0 ⟨r, 0, false, .slice none 0 0, 0, 0, 0, false, false, 0⟩ [])
                go_roundg (gk - 1)
                case measure => have := HIK.out; have := HEND.out; omega
                case rel => exact ⟨i + 1, aj, _, _, _, _, pu, po', 0, t', x', k' + 1, l, _, _, b, _, _, _, none, p1, _, _, _, _, _, _, by have := HIK.out; have := HEND.out; omega, by have := HEND.out; omega, rfl, by go_num, by have := HJ.out; omega, by have := HJ.out; omega, by have := HJ.out; omega, HTE, HGI', HRC', Lib.hid (.inl ⟨rfl, rfl, rfl⟩), HPO, HLL⟩

              · have HGI' := Lib.hid hgi
                have HRC' := Lib.hid hrc
                clear hgi hrc
                have HA6 := Lib.hid (HT'.out.a0 a rfl).ac
                have HSS : Hid (ss.length = L.length) := Lib.hid HT'.out.qs.len
                have HNN : Hid (L.length < N) := Lib.hid hn
                clear hn
                go_upto_region 33 with fail
                replace HT' := Lib.hid (HT'.out.below (Below.refl _ _).drew)
                replace HA6 := Lib.hid (HT'.out.a0 a rfl).ac
                refine wp_region_held_drew (S := (fun w' => w'.cell? ⟨lb, loff + j, none⟩ = some (.slice uo c.length uc))) (by kernel_rfl) ?_ (fun hHeld => ?_)
                · ((try dsimp only); first | exact HSC.out _ HT'.out | exact HSC.out _ (HT'.out.below (Below.refl _ _).drew))
                refine wpAnyH_take (i := 0) (v := ?_) rfl (by kernel_rfl) (by kernel_rfl) (by kernel_rfl) (fun _ _ _ h => h) (Or.inl ⟨by rfl, ?_⟩) (by assumption) ?_
                rotate_left 1
                · (intro w hSw; (try dsimp only at hSw); first | (go_simp; done) | (go_simp; with_reducible rfl))
                try simp only [Act.put, List.setIfInBounds_toArray, List.set_cons_zero, List.set_cons_succ, List.getElem_toArray, List.getElem_cons_zero]
                refine wpAnyH_take (i := 2) (v := ?_) rfl (by kernel_rfl) (by kernel_rfl) (by kernel_rfl) (fun _ _ _ h => h) (Or.inl ⟨by rfl, ?_⟩) (by assumption) ?_
                rotate_left 1
                · (intro w hSw; (try dsimp only at hSw); first | (go_simp; done) | (go_simp; with_reducible rfl))
                try simp only [Act.put, List.setIfInBounds_toArray, List.set_cons_zero, List.set_cons_succ, List.getElem_toArray, List.getElem_cons_zero, List.getElem_cons_succ]
                refine wpAnyH_take (i := 3) (v := ?_) rfl (by kernel_rfl) (by kernel_rfl) (by kernel_rfl) (fun _ _ _ h => h) (Or.inl ⟨by rfl, ?_⟩) (by assumption) ?_
                rotate_left 1
                · (intro w hSw; (try dsimp only at hSw); first | (go_simp; done) | (go_simp; with_reducible rfl))
                try simp only [Act.put, List.setIfInBounds_toArray, List.set_cons_zero, List.set_cons_succ, List.getElem_toArray, List.getElem_cons_zero, List.getElem_cons_succ]
                refine wpAnyH_take (i := 4) (v := ?_) rfl (by kernel_rfl) (by kernel_rfl) (by kernel_rfl) (fun _ _ _ h => h) (Or.inl ⟨by rfl, ?_⟩) (by assumption) ?_
                rotate_left 1
                · (intro w hSw; (try dsimp only at hSw); first | (go_simp; done) | (go_simp; with_reducible rfl))
                try simp only [Act.put, List.setIfInBounds_toArray, List.set_cons_zero, List.set_cons_succ, List.getElem_toArray, List.getElem_cons_zero, List.getElem_cons_succ]
                refine wpAnyH_take (i := 5) (v := ?_) rfl (by kernel_rfl) (by kernel_rfl) (by kernel_rfl) (fun _ _ _ h => h) (Or.inl ⟨by rfl, ?_⟩) (by assumption) ?_
                rotate_left 1
                · (intro w hSw; (try dsimp only at hSw); first | (go_simp; done) | (go_simp; with_reducible rfl))
                try simp only [Act.put, List.setIfInBounds_toArray, List.set_cons_zero, List.set_cons_succ, List.getElem_toArray, List.getElem_cons_zero, List.getElem_cons_succ]
                refine wpAnyH_take (i := 6) (v := ?_) rfl (by kernel_rfl) (by kernel_rfl) (by kernel_rfl) (fun _ _ _ h => h) (Or.inl ⟨by rfl, ?_⟩) (by assumption) ?_
                rotate_left 1
                · (intro w hSw; (try dsimp only at hSw); first | (go_simp; done) | (go_simp; with_reducible rfl))
                try simp only [Act.put, List.setIfInBounds_toArray, List.set_cons_zero, List.set_cons_succ, List.getElem_toArray, List.getElem_cons_zero, List.getElem_cons_succ]
                refine wpAnyH_take (i := 7) (v := ?_) rfl (by kernel_rfl) (by kernel_rfl) (by kernel_rfl) (fun _ _ _ h => h) (Or.inl ⟨by rfl, ?_⟩) (by assumption) ?_
                rotate_left 1
                · (intro w hSw; (try dsimp only at hSw); first | (go_simp; done) | (go_simp; with_reducible rfl))
                try simp only [Act.put, List.setIfInBounds_toArray, List.set_cons_zero, List.set_cons_succ, List.getElem_toArray, List.getElem_cons_zero, List.getElem_cons_succ]
                refine wpAnyH_ready (rs := [1]) (by kernel_rfl) (by simp) ?_
                refine AllReadyH.cons rfl (fun K hK => ?_) AllReadyH.nil
                go_simp
                go_at_call 19
                refine (rgok_any HA6.out).mono ?_
                rintro e w7 ⟨rfl, rfl⟩
                try go_wp2_with fail
                refine hK.out _ _ ?_ (fun hHeld => ?_)
                · ((try dsimp only); first | exact HSC.out _ HT'.out | exact HSC.out _ (HT'.out.below (Below.refl _ _).drew))
                clear hK K
                try simp only [Act.put, List.setIfInBounds_toArray, List.set_cons_zero, List.set_cons_succ, List.getElem_toArray, List.getElem_cons_zero, List.getElem_cons_succ]
                refine wpAnyH_ready (rs := [8]) (by kernel_rfl) (by simp) ?_
                refine AllReadyH.cons rfl (fun K hK => ?_) AllReadyH.nil
                go_simp
                go_at_call 24
                refine (Batch.fix_any (HRR.out _ (by first | exact HT'.out | exact HT'.out.below (Below.refl _ _).drew | exact HT'.out.below (below_drewN (Below.refl _ _) _)))).mono ?_
                rintro e w8 ⟨vf, rfl, ho, hb⟩
                have HT8 := Lib.hid (HT'.out.below hb)
                obtain ⟨xo, xc, rfl⟩ := bown_form0 ho
                have HO8 := Lib.hid ho
                have HB8 := Lib.hid hb
                clear ho hb
                try go_wp2_with fail
                refine hK.out _ _ ?_ (fun hHeld => ?_)
                · ((try dsimp only); exact HSC.out _ HT8.out)
                clear hK K
                try simp only [Act.put, List.setIfInBounds_toArray, List.set_cons_zero, List.set_cons_succ, List.getElem_toArray, List.getElem_cons_zero, List.getElem_cons_succ]
                refine wpAnyH_ready (rs := [9]) (by kernel_rfl) (by simp) ?_
                refine AllReadyH.cons rfl (fun K hK => ?_) AllReadyH.nil
                go_simp
                go_at_call 27
                obtain ⟨zs9, ht9, hm9⟩ := HT'.out.with HB8.out (u := .slice xo (Batch.fixL c).length xc) (fun g hg => World.ownsRow.lt HO8.out g hg)
                have HT9 := Lib.hid ht9
                have HM9 := Lib.hid (show ∀ g, (Sv.mk xo (Batch.fixL c).length xc).val.ownBlock = some g → g ∈ (Value.slice xo (Batch.fixL c).length xc).ownBlock.toList ++ fq ∧ g ≠ w3.heap.size + 1 + 1 from hm9)
                clear ht9 hm9
                refine (rgqpush_yes HT9.out.qs.qa HT9.out.qs.row (by rw [HSS.out]; exact HNN.out) hN64 xo (Batch.fixL c).length xc).mono ?_
                rintro e w9 ⟨rfl, w10, v', hb, ho, rfl⟩
                obtain ⟨zs10, ht10⟩ := HT9.out.qpush (c := l) (s := ⟨xo, (Batch.fixL c).length, xc⟩) hb ho (by rw [HLE.out]; exact Batch.Own.rd HO8.out HNI.out.wf) HM9.out
                have HT10 := Lib.hid ht10
                clear hb ho ht10
                generalize w10.setCell ⟨w3.heap.size + 1 + 1, 0, none⟩ v' = W2 at *
                try go_wp2_with fail
                refine hK.out _ _ ?_ (fun hHeld => ?_)
                · ((try dsimp only); exact HSC.out _ HT10.out)
                clear hK K
                try simp only [Act.put, List.setIfInBounds_toArray, List.set_cons_zero, List.set_cons_succ, List.getElem_toArray, List.getElem_cons_zero, List.getElem_cons_succ]
                refine wpAnyH_take (i := 10) (v := ?_) rfl (by kernel_rfl) (by kernel_rfl) (by kernel_rfl) (fun _ _ _ h => h) (Or.inl ⟨by rfl, ?_⟩) (by assumption) ?_
                rotate_left 1
                · (intro w hSw; (try dsimp only at hSw); first | (go_simp; done) | (go_simp; with_reducible rfl))
                try simp only [Act.put, List.setIfInBounds_toArray, List.set_cons_zero, List.set_cons_succ, List.getElem_toArray, List.getElem_cons_zero, List.getElem_cons_succ]
                refine wpAnyH_done (by kernel_rfl) ?_ _

                go_wp2_with fail
                have HA10 := Lib.hid (HT10.out.a0 a rfl).ac
                obtain ⟨n0, n1, q0, q1, nf, qf⟩ := HT10.out.cells
                go_at_call 23
                refine (rgmark_any HA10.out).mono ?_
                rintro e w14 ⟨rfl, rfl⟩
                go_wp2_with fail
                go_at_call 14
                refine (mz_time HT10.out.hq.mz).mono ?_
                rintro e w15 ⟨rfl, rfl⟩
                go_wp2_with fail
                have HTE := Lib.hid (HT10.out.end0 ⟨r, 0, false, .slice none 0 0, 0, 0, 0, false, false, 0⟩ [])
                go_roundg (gk - 1)
                case measure => have := HIK.out; have := HEND.out; omega
                case rel => exact ⟨i + 1, aj, _, _, _, _, pu + 1, po', 0, t', x', k' + 1, l, _, _, b, _, _, _, none, p1, _, _, _, _, _, _, by have := HIK.out; have := HEND.out; omega, by have := HEND.out; omega, rfl, by go_num, by have := HJ.out; omega, by have := HJ.out; omega, by have := HJ.out; omega, HTE, HGI', HRC', Lib.hid (.inl ⟨rfl, rfl, rfl⟩), HPO, Lib.hid (fun l hl => (List.mem_append.1 hl).elim (HLL.out l) (fun h => by obtain rfl := List.mem_singleton.1 h; exact HLN.out.1))⟩

          · have hat' : ¬ (aj : Int) < (I.length : Int) := by omega
            replace n0 : wr.cell? ⟨w3.heap.size, 0, none⟩ = some (.pointer none) := n0
            go_wp2_with fail
            go_roundg (gk - 1)
            case measure => have := HIK.out; have := HEND.out; omega
            case rel => exact ⟨i + 1, aj, _, _, _, _, pu, po', 0, t', x', k', l, _, _, b, _, _, _, none, p1, _, _, _, _, _, _, by have := HIK.out; have := HEND.out; omega, by have := HEND.out; omega, rfl, by go_num, by have := HJ.out; omega, by have := HJ.out; omega, by have := HJ.out; omega, HT, HGI, HRC, HPU, HPO, HLL⟩
        · have HS3 := Lib.hid (And.intro hs3 (And.intro hpu' hpo'))
          clear hs3 hpu' hpo' n0 n1 q0 q1 nf qf
          have HLE := Lib.hid hle
          have HCC := Lib.hid hcc
          have HAJ := Lib.hid haj
          obtain ⟨lb, loff, u, rfl, hu, hr⟩ := rgrdl_at HL.out hcc
          have HNI := Lib.hid (Batch.fix_nice hr.wf)
          have HLN := Lib.hid (show l.length ≤ 1000 ∧ ∀ z ∈ l, z.Wf from by rw [hle]; exact ⟨by have := HNI.out.len; omega, HNI.out.wf⟩)
          have HCELL := Lib.hid hu
          have HRD := Lib.hid hr
          obtain ⟨uo, uc, rfl, _⟩ := id hr
          have hjI : (j : Int) < (I.length : Int) := by have := (List.getElem?_eq_some_iff.1 hcc).1; omega
          have hsb1 : IntKind.i64.wrap ((aj : Int) - 1) = (j : Int) := by simp [IntKind.wrap, IntKind.bits, IntKind.signed]; omega
          have hsb2 : wrap64 ((aj : Int) - 1) = (j : Int) := by unfold wrap64; omega
          have hjp : (0 : Int) ≤ (j : Int) := Int.natCast_nonneg _
          have HSC : Hid (∀ {zs' fs' fq' L' R' M' v' ss' p0' p1' A0' A1' l0' l1' s0' s1'} (W : World), Rt w1.heap.size w1 r w3.heap.size (w3.heap.size + 1) (w3.heap.size + 1 + 1) N zs' fs' fq' L' R' M' W v' ss' p0' p1' A0' A1' l0' l1' s0' s1' → W.cell? ⟨lb, loff + j, none⟩ = some (.slice uo c.length uc)) := Lib.hid (fun W h => ((HB1.out.trans (h.hq.mz.kept.mono HB1.out.size)).cell (p := ⟨lb, loff + j, none⟩) (Lib.lt_of_cell HCELL.out)).trans HCELL.out)
          have HRR : Hid (∀ {zs' fs' fq' L' R' M' v' ss' p0' p1' A0' A1' l0' l1' s0' s1'} (W : World), Rt w1.heap.size w1 r w3.heap.size (w3.heap.size + 1) (w3.heap.size + 1 + 1) N zs' fs' fq' L' R' M' W v' ss' p0' p1' A0' A1' l0' l1' s0' s1' → Batch.Rd W (.slice uo c.length uc) c) := Lib.hid (fun W h => HRD.out.below (HB1.out.trans (h.hq.mz.kept.mono HB1.out.size)))
          clear hle hcc haj hu hr

          obtain ⟨n0, n1, q0, q1, nf, qf⟩ := HT.out.cells
          replace n0 : wr.cell? ⟨w3.heap.size, 0, none⟩ = some (.pointer (some ⟨a, 0, none⟩)) := n0
          go_wp2_with fail
          go_at_call 14
          refine (mz_time HT.out.hq.mz).mono ?_
          rintro e w4 ⟨rfl, rfl⟩
          go_wp2_with fail
          go_at_call 28
          refine (rtstep_push HT.out HGI.out HRC.out HS3.out.1 HS3.out.2.1 HS3.out.2.2 hN64 (by have := HJ.out; omega) (by have := HJ.out; omega) HLN.out).mono ?_
          rintro e w5 ⟨M', hlen, hor⟩
          have hwt : IntKind.i64.wrap ((M.lg.length : Int) + 1) = (M.lg.length : Int) + 1 := by have := HGI.out.good.l; have := HJ.out; simp [IntKind.wrap, IntKind.bits, IntKind.signed]; omega
          have hgt : ¬ ((M.lg.length : Int) + 1 < (M'.lg.length : Int)) := by omega
          have hst : IntKind.i64.wrap ((s' : Int) + 1) = (s' : Int) + 1 := by have := HS3.out.1; simp [IntKind.wrap, IntKind.bits, IntKind.signed]; omega
          have hs8 : ¬ (8 < (s' : Int) + 1) := by have := HS3.out.1; omega
          clear hlen n0 n1 q0 q1 nf qf
          rcases hor with ⟨rfl, pu2, po2, x2, hrt, hgi, hrc, h3, h4, h5⟩ | ⟨rfl, ok, acc, pu2, po2, hrt, hor⟩
          · obtain ⟨n0, n1, q0, q1, nf, qf⟩ := hrt.cells
            have HT' := Lib.hid (hrt.setS0 ((s' : Int) + 1))
            have HGI' := Lib.hid hgi
            have HRC' := Lib.hid hrc
            have HS3' := Lib.hid (And.intro h3 (And.intro h4 h5))
            clear hrt hgi hrc h3 h4 h5
            go_wp2_with fail
            go_at_call 14
            try rw [hst]
            clear n0 n1 q0 q1 nf qf
            generalize w5.setCell ⟨w3.heap.size + 1, 0, none⟩ (.int .i64 ((s' : Int) + 1)) = W at *
            obtain ⟨n0, n1, q0, q1, nf, qf⟩ := HT'.out.cells
            have HA6 := Lib.hid (HT'.out.a0 a rfl).ac
            refine (mz_time HT'.out.hq.mz).mono ?_
            rintro e w6 ⟨rfl, rfl⟩
            go_wp2_with fail
            go_at_call 16
            refine (rgover_any HA6.out).mono ?_
            rintro e w6 ⟨rfl, rfl⟩
            go_wp2_with fail
            go_at_call 23
            refine (rgmark_any HA6.out).mono ?_
            rintro e w6 ⟨rfl, rfl⟩
            go_wp2_with fail
            go_at_call 19
            refine (rgok_any HA6.out).mono ?_
            rintro e w6 ⟨rfl, rfl⟩
            go_wp2_with fail
            go_roundg (gk - 1)
            case measure => have := HIK.out; have := HEND.out; omega
            case rel => exact ⟨i + 1, aj, _, _, _, _, pu, po', s' + 1, t', x2, k' + 1, l, _, _, b, _, _, _, some a, p1, _, _, _, _, _, _, by have := HIK.out; have := HEND.out; omega, by have := HEND.out; omega, rfl, by go_num, by have := HJ.out; omega, by have := HJ.out; omega, by have := HJ.out; omega, HT', HGI', HRC', Lib.hid (.inr ⟨a, _, _, bv, j, c, rfl, rfl, rfl, rfl, HS3'.out.1, HS3'.out.2.1, HS3'.out.2.2, by omega, HAJ.out, HCC.out, HLE.out⟩), HPO, HLL⟩
          · obtain ⟨n0, n1, q0, q1, nf, qf⟩ := hrt.cells
            have HT' := Lib.hid (hrt.setS0 ((s' : Int) + 1))
            clear hrt
            go_wp2_with fail
            go_at_call 14
            try rw [hst]
            clear n0 n1 q0 q1 nf qf
            generalize w5.setCell ⟨w3.heap.size + 1, 0, none⟩ (.int .i64 ((s' : Int) + 1)) = W at *
            obtain ⟨n0, n1, q0, q1, nf, qf⟩ := HT'.out.cells
            refine (mz_time HT'.out.hq.mz).mono ?_
            rintro e w6 ⟨rfl, rfl⟩
            go_wp2_with fail
            go_at_call 16
            refine (rgover_any (HT'.out.a0 a rfl).ac).mono ?_
            rintro e w6 ⟨rfl, rfl⟩
            clear n0 n1 q0 q1 nf qf
            rcases hor with ⟨rfl, hn, hgi, hrc⟩ | ⟨rfl, hn, hgi, hrc⟩
            · have HGI' := Lib.hid hgi
              have HRC' := Lib.hid hrc
              clear hgi hrc
              have HA6 := Lib.hid (HT'.out.a0 a rfl).ac
              have HSS : Hid (ss.length = L.length) := Lib.hid HT'.out.qs.len
              have HNN : Hid (N ≤ L.length) := Lib.hid (Nat.le_of_eq hn.symm)
              clear hn
              go_upto_region 33 with fail
              replace HT' := Lib.hid (HT'.out.below (Below.refl _ _).drew)
              replace HA6 := Lib.hid (HT'.out.a0 a rfl).ac
              refine wp_region_held_drew (S := (fun w' => w'.cell? ⟨lb, loff + j, none⟩ = some (.slice uo c.length uc))) (by kernel_rfl) ?_ (fun hHeld => ?_)
              · ((try dsimp only); first | exact HSC.out _ HT'.out | exact HSC.out _ (HT'.out.below (Below.refl _ _).drew))
              refine wpAnyH_take (i := 0) (v := ?_) rfl (by kernel_rfl) (by kernel_rfl) (by kernel_rfl) (fun _ _ _ h => h) (Or.inl ⟨by rfl, ?_⟩) (by assumption) ?_
              rotate_left 1
              · (intro w hSw; (try dsimp only at hSw); first | (go_simp; done) | (go_simp; with_reducible rfl))
              try simp only [Act.put, List.setIfInBounds_toArray, List.set_cons_zero, List.set_cons_succ, List.getElem_toArray, List.getElem_cons_zero]
              refine wpAnyH_take (i := 2) (v := ?_) rfl (by kernel_rfl) (by kernel_rfl) (by kernel_rfl) (fun _ _ _ h => h) (Or.inl ⟨by rfl, ?_⟩) (by assumption) ?_
              rotate_left 1
              · (intro w hSw; (try dsimp only at hSw); first | (go_simp; done) | (go_simp; with_reducible rfl))
              try simp only [Act.put, List.setIfInBounds_toArray, List.set_cons_zero, List.set_cons_succ, List.getElem_toArray, List.getElem_cons_zero, List.getElem_cons_succ]
              refine wpAnyH_take (i := 3) (v := ?_) rfl (by kernel_rfl) (by kernel_rfl) (by kernel_rfl) (fun _ _ _ h => h) (Or.inl ⟨by rfl, ?_⟩) (by assumption) ?_
              rotate_left 1
              · (intro w hSw; (try dsimp only at hSw); first | (go_simp; done) | (go_simp; with_reducible rfl))
              try simp only [Act.put, List.setIfInBounds_toArray, List.set_cons_zero, List.set_cons_succ, List.getElem_toArray, List.getElem_cons_zero, List.getElem_cons_succ]
              refine wpAnyH_take (i := 4) (v := ?_) rfl (by kernel_rfl) (by kernel_rfl) (by kernel_rfl) (fun _ _ _ h => h) (Or.inl ⟨by rfl, ?_⟩) (by assumption) ?_
              rotate_left 1
              · (intro w hSw; (try dsimp only at hSw); first | (go_simp; done) | (go_simp; with_reducible rfl))
              try simp only [Act.put, List.setIfInBounds_toArray, List.set_cons_zero, List.set_cons_succ, List.getElem_toArray, List.getElem_cons_zero, List.getElem_cons_succ]
              refine wpAnyH_take (i := 5) (v := ?_) rfl (by kernel_rfl) (by kernel_rfl) (by kernel_rfl) (fun _ _ _ h => h) (Or.inl ⟨by rfl, ?_⟩) (by assumption) ?_
              rotate_left 1
              · (intro w hSw; (try dsimp only at hSw); first | (go_simp; done) | (go_simp; with_reducible rfl))
              try simp only [Act.put, List.setIfInBounds_toArray, List.set_cons_zero, List.set_cons_succ, List.getElem_toArray, List.getElem_cons_zero, List.getElem_cons_succ]
              refine wpAnyH_take (i := 6) (v := ?_) rfl (by kernel_rfl) (by kernel_rfl) (by kernel_rfl) (fun _ _ _ h => h) (Or.inl ⟨by rfl, ?_⟩) (by assumption) ?_
              rotate_left 1
              · (intro w hSw; (try dsimp only at hSw); first | (go_simp; done) | (go_simp; with_reducible rfl))
              try simp only [Act.put, List.setIfInBounds_toArray, List.set_cons_zero, List.set_cons_succ, List.getElem_toArray, List.getElem_cons_zero, List.getElem_cons_succ]
              refine wpAnyH_take (i := 7) (v := ?_) rfl (by kernel_rfl) (by kernel_rfl) (by kernel_rfl) (fun _ _ _ h => h) (Or.inl ⟨by rfl, ?_⟩) (by assumption) ?_
              rotate_left 1
              · (intro w hSw; (try dsimp only at hSw); first | (go_simp; done) | (go_simp; with_reducible rfl))
              try simp only [Act.put, List.setIfInBounds_toArray, List.set_cons_zero, List.set_cons_succ, List.getElem_toArray, List.getElem_cons_zero, List.getElem_cons_succ]
              refine wpAnyH_ready (rs := [1]) (by kernel_rfl) (by simp) ?_
              refine AllReadyH.cons rfl (fun K hK => ?_) AllReadyH.nil
              go_simp
              go_at_call 19
              refine (rgok_any HA6.out).mono ?_
              rintro e w7 ⟨rfl, rfl⟩
              try go_wp2_with fail
              refine hK.out _ _ ?_ (fun hHeld => ?_)
              · ((try dsimp only); first | exact HSC.out _ HT'.out | exact HSC.out _ (HT'.out.below (Below.refl _ _).drew))
              clear hK K
              try simp only [Act.put, List.setIfInBounds_toArray, List.set_cons_zero, List.set_cons_succ, List.getElem_toArray, List.getElem_cons_zero, List.getElem_cons_succ]
              refine wpAnyH_ready (rs := [8]) (by kernel_rfl) (by simp) ?_
              refine AllReadyH.cons rfl (fun K hK => ?_) AllReadyH.nil
              go_simp
              go_at_call 24
              refine (Batch.fix_any (HRR.out _ (by first | exact HT'.out | exact HT'.out.below (Below.refl _ _).drew | exact HT'.out.below (below_drewN (Below.refl _ _) _)))).mono ?_
              rintro e w8 ⟨vf, rfl, ho, hb⟩
              have HT8 := Lib.hid (HT'.out.below hb)
              obtain ⟨xo, xc, rfl⟩ := bown_form0 ho
              have HO8 := Lib.hid ho
              have HB8 := Lib.hid hb
              clear ho hb
              try go_wp2_with fail
              refine hK.out _ _ ?_ (fun hHeld => ?_)
              · ((try dsimp only); exact HSC.out _ HT8.out)
              clear hK K
              try simp only [Act.put, List.setIfInBounds_toArray, List.set_cons_zero, List.set_cons_succ, List.getElem_toArray, List.getElem_cons_zero, List.getElem_cons_succ]
              refine wpAnyH_ready (rs := [9]) (by kernel_rfl) (by simp) ?_
              refine AllReadyH.cons rfl (fun K hK => ?_) AllReadyH.nil
              go_simp
              go_at_call 27
              have hqa := HT8.out.qs.qa
              obtain ⟨vo, vc, hvf, _⟩ := HT8.out.qs.row
              rw [hvf] at hqa
              refine (rgqpush_no hqa (by rw [HSS.out]; exact HNN.out) _).mono ?_
              rintro e W2 ⟨rfl, hb⟩
              have HT10 := Lib.hid (HT8.out.below hb)
              clear hb hqa hvf
              try go_wp2_with fail
              refine hK.out _ _ ?_ (fun hHeld => ?_)
              · ((try dsimp only); exact HSC.out _ HT10.out)
              clear hK K
              try simp only [Act.put, List.setIfInBounds_toArray, List.set_cons_zero, List.set_cons_succ, List.getElem_toArray, List.getElem_cons_zero, List.getElem_cons_succ]
              refine wpAnyH_take (i := 10) (v := ?_) rfl (by kernel_rfl) (by kernel_rfl) (by kernel_rfl) (fun _ _ _ h => h) (Or.inl ⟨by rfl, ?_⟩) (by assumption) ?_
              rotate_left 1
              · (intro w hSw; (try dsimp only at hSw); first | (go_simp; done) | (go_simp; with_reducible rfl))
              try simp only [Act.put, List.setIfInBounds_toArray, List.set_cons_zero, List.set_cons_succ, List.getElem_toArray, List.getElem_cons_zero, List.getElem_cons_succ]
              refine wpAnyH_done (by kernel_rfl) ?_ _

              go_wp2_with fail
              have HA10 := Lib.hid (HT10.out.a0 a rfl).ac
              obtain ⟨n0, n1, q0, q1, nf, qf⟩ := HT10.out.cells
              go_at_call 23
              refine (rgmark_any HA10.out).mono ?_
              rintro e w14 ⟨rfl, rfl⟩
              go_wp2_with fail
              go_at_call 14
              refine (mz_time HT10.out.hq.mz).mono ?_
              rintro e w15 ⟨rfl, rfl⟩
              go_wp2_with fail
              have HTE := Lib.hid (HT10.out.end0 ⟨r, 0, false, .slice none 0 0, 0, 0, 0, false, false, 0⟩ [])
              go_roundg (gk - 1)
              case measure => have := HIK.out; have := HEND.out; omega
              case rel => exact ⟨i + 1, aj, _, _, _, _, pu, po', 0, t', x', k' + 1, l, _, _, b, _, _, _, none, p1, _, _, _, _, _, _, by have := HIK.out; have := HEND.out; omega, by have := HEND.out; omega, rfl, by go_num, by have := HJ.out; omega, by have := HJ.out; omega, by have := HJ.out; omega, HTE, HGI', HRC', Lib.hid (.inl ⟨rfl, rfl, rfl⟩), HPO, HLL⟩

            · have HGI' := Lib.hid hgi
              have HRC' := Lib.hid hrc
              clear hgi hrc
              have HA6 := Lib.hid (HT'.out.a0 a rfl).ac
              have HSS : Hid (ss.length = L.length) := Lib.hid HT'.out.qs.len
              have HNN : Hid (L.length < N) := Lib.hid hn
              clear hn
              go_upto_region 33 with fail
              replace HT' := Lib.hid (HT'.out.below (Below.refl _ _).drew)
              replace HA6 := Lib.hid (HT'.out.a0 a rfl).ac
              refine wp_region_held_drew (S := (fun w' => w'.cell? ⟨lb, loff + j, none⟩ = some (.slice uo c.length uc))) (by kernel_rfl) ?_ (fun hHeld => ?_)
              · ((try dsimp only); first | exact HSC.out _ HT'.out | exact HSC.out _ (HT'.out.below (Below.refl _ _).drew))
              refine wpAnyH_take (i := 0) (v := ?_) rfl (by kernel_rfl) (by kernel_rfl) (by kernel_rfl) (fun _ _ _ h => h) (Or.inl ⟨by rfl, ?_⟩) (by assumption) ?_
              rotate_left 1
              · (intro w hSw; (try dsimp only at hSw); first | (go_simp; done) | (go_simp; with_reducible rfl))
              try simp only [Act.put, List.setIfInBounds_toArray, List.set_cons_zero, List.set_cons_succ, List.getElem_toArray, List.getElem_cons_zero]
              refine wpAnyH_take (i := 2) (v := ?_) rfl (by kernel_rfl) (by kernel_rfl) (by kernel_rfl) (fun _ _ _ h => h) (Or.inl ⟨by rfl, ?_⟩) (by assumption) ?_
              rotate_left 1
              · (intro w hSw; (try dsimp only at hSw); first | (go_simp; done) | (go_simp; with_reducible rfl))
              try simp only [Act.put, List.setIfInBounds_toArray, List.set_cons_zero, List.set_cons_succ, List.getElem_toArray, List.getElem_cons_zero, List.getElem_cons_succ]
              refine wpAnyH_take (i := 3) (v := ?_) rfl (by kernel_rfl) (by kernel_rfl) (by kernel_rfl) (fun _ _ _ h => h) (Or.inl ⟨by rfl, ?_⟩) (by assumption) ?_
              rotate_left 1
              · (intro w hSw; (try dsimp only at hSw); first | (go_simp; done) | (go_simp; with_reducible rfl))
              try simp only [Act.put, List.setIfInBounds_toArray, List.set_cons_zero, List.set_cons_succ, List.getElem_toArray, List.getElem_cons_zero, List.getElem_cons_succ]
              refine wpAnyH_take (i := 4) (v := ?_) rfl (by kernel_rfl) (by kernel_rfl) (by kernel_rfl) (fun _ _ _ h => h) (Or.inl ⟨by rfl, ?_⟩) (by assumption) ?_
              rotate_left 1
              · (intro w hSw; (try dsimp only at hSw); first | (go_simp; done) | (go_simp; with_reducible rfl))
              try simp only [Act.put, List.setIfInBounds_toArray, List.set_cons_zero, List.set_cons_succ, List.getElem_toArray, List.getElem_cons_zero, List.getElem_cons_succ]
              refine wpAnyH_take (i := 5) (v := ?_) rfl (by kernel_rfl) (by kernel_rfl) (by kernel_rfl) (fun _ _ _ h => h) (Or.inl ⟨by rfl, ?_⟩) (by assumption) ?_
              rotate_left 1
              · (intro w hSw; (try dsimp only at hSw); first | (go_simp; done) | (go_simp; with_reducible rfl))
              try simp only [Act.put, List.setIfInBounds_toArray, List.set_cons_zero, List.set_cons_succ, List.getElem_toArray, List.getElem_cons_zero, List.getElem_cons_succ]
              refine wpAnyH_take (i := 6) (v := ?_) rfl (by kernel_rfl) (by kernel_rfl) (by kernel_rfl) (fun _ _ _ h => h) (Or.inl ⟨by rfl, ?_⟩) (by assumption) ?_
              rotate_left 1
              · (intro w hSw; (try dsimp only at hSw); first | (go_simp; done) | (go_simp; with_reducible rfl))
              try simp only [Act.put, List.setIfInBounds_toArray, List.set_cons_zero, List.set_cons_succ, List.getElem_toArray, List.getElem_cons_zero, List.getElem_cons_succ]
              refine wpAnyH_take (i := 7) (v := ?_) rfl (by kernel_rfl) (by kernel_rfl) (by kernel_rfl) (fun _ _ _ h => h) (Or.inl ⟨by rfl, ?_⟩) (by assumption) ?_
              rotate_left 1
              · (intro w hSw; (try dsimp only at hSw); first | (go_simp; done) | (go_simp; with_reducible rfl))
              try simp only [Act.put, List.setIfInBounds_toArray, List.set_cons_zero, List.set_cons_succ, List.getElem_toArray, List.getElem_cons_zero, List.getElem_cons_succ]
              refine wpAnyH_ready (rs := [1]) (by kernel_rfl) (by simp) ?_
              refine AllReadyH.cons rfl (fun K hK => ?_) AllReadyH.nil
              go_simp
              go_at_call 19
              refine (rgok_any HA6.out).mono ?_
              rintro e w7 ⟨rfl, rfl⟩
              try go_wp2_with fail
              refine hK.out _ _ ?_ (fun hHeld => ?_)
              · ((try dsimp only); first | exact HSC.out _ HT'.out | exact HSC.out _ (HT'.out.below (Below.refl _ _).drew))
              clear hK K
              try simp only [Act.put, List.setIfInBounds_toArray, List.set_cons_zero, List.set_cons_succ, List.getElem_toArray, List.getElem_cons_zero, List.getElem_cons_succ]
              refine wpAnyH_ready (rs := [8]) (by kernel_rfl) (by simp) ?_
              refine AllReadyH.cons rfl (fun K hK => ?_) AllReadyH.nil
              go_simp
              go_at_call 24
              refine (Batch.fix_any (HRR.out _ (by first | exact HT'.out | exact HT'.out.below (Below.refl _ _).drew | exact HT'.out.below (below_drewN (Below.refl _ _) _)))).mono ?_
              rintro e w8 ⟨vf, rfl, ho, hb⟩
              have HT8 := Lib.hid (HT'.out.below hb)
              obtain ⟨xo, xc, rfl⟩ := bown_form0 ho
              have HO8 := Lib.hid ho
              have HB8 := Lib.hid hb
              clear ho hb
              try go_wp2_with fail
              refine hK.out _ _ ?_ (fun hHeld => ?_)
              · ((try dsimp only); exact HSC.out _ HT8.out)
              clear hK K
              try simp only [Act.put, List.setIfInBounds_toArray, List.set_cons_zero, List.set_cons_succ, List.getElem_toArray, List.getElem_cons_zero, List.getElem_cons_succ]
              refine wpAnyH_ready (rs := [9]) (by kernel_rfl) (by simp) ?_
              refine AllReadyH.cons rfl (fun K hK => ?_) AllReadyH.nil
              go_simp
              go_at_call 27
              obtain ⟨zs9, ht9, hm9⟩ := HT'.out.with HB8.out (u := .slice xo (Batch.fixL c).length xc) (fun g hg => World.ownsRow.lt HO8.out g hg)
              have HT9 := Lib.hid ht9
              have HM9 := Lib.hid (show ∀ g, (Sv.mk xo (Batch.fixL c).length xc).val.ownBlock = some g → g ∈ (Value.slice xo (Batch.fixL c).length xc).ownBlock.toList ++ fq ∧ g ≠ w3.heap.size + 1 + 1 from hm9)
              clear ht9 hm9
              refine (rgqpush_yes HT9.out.qs.qa HT9.out.qs.row (by rw [HSS.out]; exact HNN.out) hN64 xo (Batch.fixL c).length xc).mono ?_
              rintro e w9 ⟨rfl, w10, v', hb, ho, rfl⟩
              obtain ⟨zs10, ht10⟩ := HT9.out.qpush (c := l) (s := ⟨xo, (Batch.fixL c).length, xc⟩) hb ho (by rw [HLE.out]; exact Batch.Own.rd HO8.out HNI.out.wf) HM9.out
              have HT10 := Lib.hid ht10
              clear hb ho ht10
              generalize w10.setCell ⟨w3.heap.size + 1 + 1, 0, none⟩ v' = W2 at *
              try go_wp2_with fail
              refine hK.out _ _ ?_ (fun hHeld => ?_)
              · ((try dsimp only); exact HSC.out _ HT10.out)
              clear hK K
              try simp only [Act.put, List.setIfInBounds_toArray, List.set_cons_zero, List.set_cons_succ, List.getElem_toArray, List.getElem_cons_zero, List.getElem_cons_succ]
              refine wpAnyH_take (i := 10) (v := ?_) rfl (by kernel_rfl) (by kernel_rfl) (by kernel_rfl) (fun _ _ _ h => h) (Or.inl ⟨by rfl, ?_⟩) (by assumption) ?_
              rotate_left 1
              · (intro w hSw; (try dsimp only at hSw); first | (go_simp; done) | (go_simp; with_reducible rfl))
              try simp only [Act.put, List.setIfInBounds_toArray, List.set_cons_zero, List.set_cons_succ, List.getElem_toArray, List.getElem_cons_zero, List.getElem_cons_succ]
              refine wpAnyH_done (by kernel_rfl) ?_ _

              go_wp2_with fail
              have HA10 := Lib.hid (HT10.out.a0 a rfl).ac
              obtain ⟨n0, n1, q0, q1, nf, qf⟩ := HT10.out.cells
              go_at_call 23
              refine (rgmark_any HA10.out).mono ?_
              rintro e w14 ⟨rfl, rfl⟩
              go_wp2_with fail
              go_at_call 14
              refine (mz_time HT10.out.hq.mz).mono ?_
              rintro e w15 ⟨rfl, rfl⟩
              go_wp2_with fail
              have HTE := Lib.hid (HT10.out.end0 ⟨r, 0, false, .slice none 0 0, 0, 0, 0, false, false, 0⟩ [])
              go_roundg (gk - 1)
              case measure => have := HIK.out; have := HEND.out; omega
              case rel => exact ⟨i + 1, aj, _, _, _, _, pu + 1, po', 0, t', x', k' + 1, l, _, _, b, _, _, _, none, p1, _, _, _, _, _, _, by have := HIK.out; have := HEND.out; omega, by have := HEND.out; omega, rfl, by go_num, by have := HJ.out; omega, by have := HJ.out; omega, by have := HJ.out; omega, HTE, HGI', HRC', Lib.hid (.inl ⟨rfl, rfl, rfl⟩), HPO, Lib.hid (fun l hl => (List.mem_append.1 hl).elim (HLL.out l) (fun h => by obtain rfl := List.mem_singleton.1 h; exact HLN.out.1))⟩

      · rcases HPO.out with ⟨rfl, rfl, rfl⟩ | ⟨a, pu', po2, bv, rfl, rfl, rfl, ht4, hpo', hl1', hl1n, rfl⟩
        · skip
          replace n1 : wr.cell? ⟨w3.heap.size, 1, none⟩ = some (.pointer none) := n1
          go_wp2_with fail
          go_at_call 15
          refine (rgpop_yes HT.out.hq rfl 1).mono ?_
          rintro e w7 ⟨a, rfl, ha, zs1, z1, z2, hg⟩
          have HG := Lib.hid (show Rg w1.heap.size w1 wr fs zs1 a r ⟨p, 1, 1, N, ps, true⟩ ⟨r, 1, true, .slice none 0 0, 0, 0, 0, false, false, 0⟩ [] M w7 from hg)
          have HT8 : Hid (Rt w1.heap.size w1 r w3.heap.size (w3.heap.size + 1) (w3.heap.size + 1 + 1) N zs1 (a :: fs) fq L ⟨p, 1, 1, N, ps, true⟩ M ((w7.setCell ⟨w3.heap.size, 1, none⟩ (.pointer (some ⟨a, 0, none⟩))).setCell ⟨w3.heap.size + 1, 1, none⟩ (.int .i64 0)) v ss p0 (some a) A0 ⟨r, 1, true, .slice none 0 0, ((0 : Nat) : Int), 0, 0, false, false, 0⟩ l0 [] s0 ((0 : Nat) : Int)) := Lib.hid ((HT.out.new1 HG.out ha rfl).setS1 0)
          clear n0 n1 q0 q1 nf qf
          obtain ⟨n0, n1, q0, q1, nf, qf⟩ := HT.out.cellsG HG.out ha
          clear hg z1 z2 ha
          go_upto_region 20 with fail
          clear n0 n1 q0 q1 nf qf HT HKP HG
          generalize ((w7.setCell ⟨w3.heap.size, 1, none⟩ (.pointer (some ⟨a, 0, none⟩))).setCell ⟨w3.heap.size + 1, 1, none⟩ (.int .i64 0)) = wr at *
          generalize hfs : (a :: fs) = fs at *
          clear hfs
          have HT := HT8
          clear HT8
          obtain ⟨t', ht0, HT, HGI, HRC⟩ : ∃ t' : Nat, t' = 0 ∧ Hid (Rt w1.heap.size w1 r w3.heap.size (w3.heap.size + 1) (w3.heap.size + 1 + 1) N zs1 fs fq L ⟨p, 1, 1, N, ps, true⟩ M wr v ss p0 (some a) A0 ⟨r, 1, true, .slice none 0 0, (t' : Int), 0, 0, false, false, 0⟩ l0 [] s0 (t' : Int)) ∧ Hid (Gi N L pu po' s' t' l x' b k' M) ∧ Hid (Rc N pu po' s' t' x' M.lg) := ⟨0, rfl, HT, HGI, HRC⟩
          have HT4 : Hid (t' ≤ 4 ∧ (1 ≤ t' → (0 : Int) = (po' : Int)) ∧ (3 ≤ t' → ([] : List Batch.Ch) = b) ∧ ([] : List Batch.Ch).length ≤ 1000) := Lib.hid ⟨by omega, fun h => by omega, fun h => by omega, by decide⟩
          clear ht0

          obtain ⟨n0, n1, q0, q1, nf, qf⟩ := HT.out.cells
          replace n1 : wr.cell? ⟨w3.heap.size, 1, none⟩ = some (.pointer (some ⟨a, 0, none⟩)) := n1
          go_wp2_with fail
          go_at_call 14
          refine (mz_time HT.out.hq.mz).mono ?_
          rintro e w4 ⟨rfl, rfl⟩
          go_wp2_with fail
          go_at_call 28
          refine (rtstep_pop HT.out HGI.out HRC.out HT4.out.1 HT4.out.2.1 HT4.out.2.2.1 HT4.out.2.2.2 hN64 (by have := HJ.out; omega) (by have := HJ.out; omega)).mono ?_
          rintro e w5 ⟨M', zs5, fs5, hlen, hor⟩
          have hwt : IntKind.i64.wrap ((M.lg.length : Int) + 1) = (M.lg.length : Int) + 1 := by have := HGI.out.good.l; have := HJ.out; simp [IntKind.wrap, IntKind.bits, IntKind.signed]; omega
          have hgt : ¬ ((M.lg.length : Int) + 1 < (M'.lg.length : Int)) := by omega
          have hst : IntKind.i64.wrap ((t' : Int) + 1) = (t' : Int) + 1 := by have := HT4.out.1; simp [IntKind.wrap, IntKind.bits, IntKind.signed]; omega
          have hs8 : ¬ (8 < (t' : Int) + 1) := by have := HT4.out.1; omega
          clear hlen n0 n1 q0 q1 nf qf
          rcases hor with ⟨rfl, bv2, pu2, po3, l2, b2, hrt, hgi, hrc, h3, h4, h5, h6⟩ | ⟨rfl, ok, bv2, acc, pu2, po3, l2, b2, hl2, hrt, hor⟩
          · obtain ⟨n0, n1, q0, q1, nf, qf⟩ := hrt.cells
            have HT' := Lib.hid (hrt.setS1 ((t' : Int) + 1))
            have HGI' := Lib.hid hgi
            have HRC' := Lib.hid hrc
            have HT4' := Lib.hid (And.intro h3 (And.intro h4 (And.intro h5 h6)))
            clear hrt hgi hrc h3 h4 h5 h6
            go_wp2_with fail
            go_at_call 14
            try rw [hst]
            clear n0 n1 q0 q1 nf qf
            generalize w5.setCell ⟨w3.heap.size + 1, 1, none⟩ (.int .i64 ((t' : Int) + 1)) = W at *
            obtain ⟨n0, n1, q0, q1, nf, qf⟩ := HT'.out.cells
            have HA6 := Lib.hid (HT'.out.a1 a rfl).ac
            refine (mz_time HT'.out.hq.mz).mono ?_
            rintro e w6 ⟨rfl, rfl⟩
            go_wp2_with fail
            go_at_call 16
            refine (rgover_any HA6.out).mono ?_
            rintro e w6 ⟨rfl, rfl⟩
            go_wp2_with fail
            go_at_call 23
            refine (rgmark_any HA6.out).mono ?_
            rintro e w6 ⟨rfl, rfl⟩
            go_wp2_with fail
            go_at_call 19
            refine (rgok_any HA6.out).mono ?_
            rintro e w6 ⟨rfl, rfl⟩
            go_wp2_with fail
            go_roundg (gk - 1)
            case measure => have := HIK.out; have := HEND.out; omega
            case rel => exact ⟨i + 1, aj, _, _, _, _, pu, po', s', t' + 1, x', k' + 1, l, _, _, b2, _, _, _, p0, some a, _, _, _, _, _, _, by have := HIK.out; have := HEND.out; omega, by have := HEND.out; omega, rfl, by go_num, by have := HJ.out; omega, by have := HJ.out; omega, by have := HJ.out; omega, HT', HGI', HRC', HPU, Lib.hid (.inr ⟨a, _, _, bv2, rfl, rfl, rfl, HT4'.out.1, HT4'.out.2.1, HT4'.out.2.2.1, HT4'.out.2.2.2, by omega⟩), HLL⟩
          · obtain ⟨n0, n1, q0, q1, nf, qf⟩ := hrt.cells
            have HT' := Lib.hid (hrt.setS1 ((t' : Int) + 1))
            have HL2 := Lib.hid hl2
            clear hrt hl2
            go_wp2_with fail
            go_at_call 14
            try rw [hst]
            clear n0 n1 q0 q1 nf qf
            generalize w5.setCell ⟨w3.heap.size + 1, 1, none⟩ (.int .i64 ((t' : Int) + 1)) = W at *
            obtain ⟨n0, n1, q0, q1, nf, qf⟩ := HT'.out.cells
            refine (mz_time HT'.out.hq.mz).mono ?_
            rintro e w6 ⟨rfl, rfl⟩
            go_wp2_with fail
            go_at_call 16
            refine (rgover_any (HT'.out.a1 a rfl).ac).mono ?_
            rintro e w6 ⟨rfl, rfl⟩
            clear n0 n1 q0 q1 nf qf
            rcases hor with ⟨rfl, hL, hgi, hrc⟩ | ⟨rfl, hL, hgi, hrc⟩
            · have HGI' := Lib.hid hgi
              have HRC' := Lib.hid hrc
              clear hgi hrc
              subst hL
              have hqa := HT'.out.qs.qa
              have hqr := HT'.out.qs.row
              obtain ⟨vo, vc, hvf, _⟩ := hqr
              have hs0 : ss.length = 0 := HT'.out.qs.len
              rw [hvf, hs0] at hqa
              have HQA := Lib.hid hqa
              clear hqa hvf hs0
              go_wp2_with fail
              go_at_call 18
              refine (rgqpop_no HQA.out).mono ?_
              rintro e w7 ⟨rfl, rfl⟩
              go_wp2_with fail
              go_at_call 19
              refine (rgok_any (HT'.out.a1 a rfl).ac).mono ?_
              rintro e w7 ⟨rfl, rfl⟩
              go_wp2_with fail
              go_at_call 22
              refine (rgbatch_any (HT'.out.a1 a rfl).ac (HT'.out.a1 a rfl).sl HL2.out).mono ?_
              rintro e w11 ⟨v4, rfl, ho, hb4⟩
              have HO4 := Lib.hid (show Batch.Own w11 W.heap.size 85 v4 [] from ho)
              have HB4 := Lib.hid hb4
              obtain ⟨_, _, rfl⟩ := bown_form0 HO4.out
              clear ho hb4
              go_wp2_with fail
              go_at_call 21
              refine (Batch.from_any (Batch.Own.rd HO4.out (by simp)) (by decide)).mono ?_
              rintro e w12 ⟨v5, rfl, ho, hb5⟩
              have HO5 := Lib.hid ho
              have HB5 := Lib.hid hb5
              obtain ⟨_, _, rfl⟩ := bown_form0 HO5.out
              clear ho hb5
              go_wp2_with fail
              go_at_call 20
              refine (Batch.refsame_any (Batch.Own.rd HO5.out (by simp)) (Batch.Rd.nil _)).mono ?_
              rintro e w13 ⟨rfl, hb6⟩
              rw [Batch.eqL_self]
              have HB6 := Lib.hid ((HB4.out.trans (HB5.out.mono HB4.out.size)).trans (hb6.mono (Nat.le_trans HB4.out.size HB5.out.size)))
              have HT9 := Lib.hid (HT'.out.below HB6.out)
              have HA9 := Lib.hid (HT9.out.a1 a rfl).ac
              obtain ⟨n0, n1, q0, q1, nf, qf⟩ := HT9.out.cells
              clear hb6
              go_wp2_with fail
              go_at_call 23
              refine (rgmark_any HA9.out).mono ?_
              rintro e w14 ⟨rfl, rfl⟩
              go_wp2_with fail
              go_at_call 14
              refine (mz_time HT9.out.hq.mz).mono ?_
              rintro e w15 ⟨rfl, rfl⟩
              go_wp2_with fail
              have HTE := Lib.hid (HT9.out.end1 ⟨r, 1, true, .slice none 0 0, 0, 0, 0, false, false, 0⟩ [])
              go_roundg (gk - 1)
              case measure => have := HIK.out; have := HEND.out; omega
              case rel => exact ⟨i + 1, aj, _, _, _, _, pu, po', s', 0, x', k' + 1, l, _, _, b2, _, _, _, p0, none, _, _, _, _, _, _, by have := HIK.out; have := HEND.out; omega, by have := HEND.out; omega, rfl, by go_num, by have := HJ.out; omega, by have := HJ.out; omega, by have := HJ.out; omega, HTE, HGI', HRC', HPU, Lib.hid (.inl ⟨rfl, rfl, rfl⟩), HLL⟩

            · have HGI' := Lib.hid hgi
              have HRC' := Lib.hid hrc
              clear hgi hrc
              cases L with
              | nil => simp at hL
              | cons c L' =>
              obtain rfl : c = l2 := by simpa using hL
              simp only [List.tail_cons] at HGI' HRC'
              have hsl : ss.length = L'.length + 1 := HT'.out.qs.len
              cases ss with
              | nil => simp at hsl
              | cons sv ss' =>
              have HSL : Hid (ss'.length ≤ 64) := Lib.hid (by
                have h1 := HGI.out.lN
                simp at hsl h1
                omega)
              obtain ⟨sa, sn, sc⟩ := sv
              clear hsl hL
              go_wp2_with fail
              go_at_call 18
              refine (rgqpop_yes HT'.out.qs.qa HT'.out.qs.row HSL.out).mono ?_
              rintro e w9 ⟨he9, w10, v', hb, ho, rfl⟩
              change e = .returned (.tuple #[.slice sa sn sc, .bool true]) at he9
              subst he9
              obtain ⟨zs10, ht10⟩ := HT'.out.qpop hb ho
              have HT10 := Lib.hid ht10
              have HRS := Lib.hid (show Batch.Rd (w10.setCell ⟨w3.heap.size + 1 + 1, 0, none⟩ v') (.slice sa sn sc) c from HT'.out.first hb v')
              generalize w10.setCell ⟨w3.heap.size + 1 + 1, 0, none⟩ v' = W2 at *
              clear hb ho ht10
              go_wp2_with fail
              go_at_call 19
              refine (rgok_any (HT10.out.a1 a rfl).ac).mono ?_
              rintro e w7 ⟨rfl, rfl⟩
              go_wp2_with fail
              go_at_call 22
              refine (rgbatch_any (HT10.out.a1 a rfl).ac (HT10.out.a1 a rfl).sl HL2.out).mono ?_
              rintro e w11 ⟨v4, rfl, ho, hb4⟩
              have HO4 := Lib.hid (show Batch.Own w11 W2.heap.size 85 v4 c from ho)
              have HB4 := Lib.hid hb4
              obtain ⟨_, _, rfl⟩ := bown_form0 HO4.out
              clear ho hb4
              go_wp2_with fail
              go_at_call 21
              refine (Batch.from_any (Batch.Own.rd HO4.out HRS.out.wf) (by have := HL2.out; omega)).mono ?_
              rintro e w12 ⟨v5, rfl, ho, hb5⟩
              have HO5 := Lib.hid ho
              have HB5 := Lib.hid hb5
              obtain ⟨_, _, rfl⟩ := bown_form0 HO5.out
              clear ho hb5
              go_wp2_with fail
              go_at_call 20
              refine (Batch.refsame_any (Batch.Own.rd HO5.out HRS.out.wf) ((HRS.out.below HB4.out).below HB5.out)).mono ?_
              rintro e w13 ⟨rfl, hb6⟩
              rw [Batch.eqL_self]
              have HB6 := Lib.hid ((HB4.out.trans (HB5.out.mono HB4.out.size)).trans (hb6.mono (Nat.le_trans HB4.out.size HB5.out.size)))
              have HT9 := Lib.hid (HT10.out.below HB6.out)
              have HA9 := Lib.hid (HT9.out.a1 a rfl).ac
              obtain ⟨n0, n1, q0, q1, nf, qf⟩ := HT9.out.cells
              clear hb6
              go_wp2_with fail
              go_at_call 23
              refine (rgmark_any HA9.out).mono ?_
              rintro e w14 ⟨rfl, rfl⟩
              go_wp2_with fail
              go_at_call 14
              refine (mz_time HT9.out.hq.mz).mono ?_
              rintro e w15 ⟨rfl, rfl⟩
              go_wp2_with fail
              have HTE := Lib.hid (HT9.out.end1 ⟨r, 1, true, .slice none 0 0, 0, 0, 0, false, false, 0⟩ [])
              go_roundg (gk - 1)
              case measure => have := HIK.out; have := HEND.out; omega
              case rel => exact ⟨i + 1, aj, _, _, _, _, pu, po' + 1, s', 0, x', k' + 1, l, _, _, b2, _, _, _, p0, none, _, _, _, _, _, _, by have := HIK.out; have := HEND.out; omega, by have := HEND.out; omega, rfl, by go_num, by have := HJ.out; omega, by have := HJ.out; omega, by have := HJ.out; omega, HTE, HGI', HRC', HPU, Lib.hid (.inl ⟨rfl, rfl, rfl⟩), Lib.hid (fun l hl => HLL.out l (List.mem_cons_of_mem _ hl))⟩

        · have HT4 := Lib.hid (And.intro ht4 (And.intro hpo' (And.intro hl1' hl1n)))
          clear ht4 hpo' hl1' hl1n n0 n1 q0 q1 nf qf
          obtain ⟨n0, n1, q0, q1, nf, qf⟩ := HT.out.cells
          replace n1 : wr.cell? ⟨w3.heap.size, 1, none⟩ = some (.pointer (some ⟨a, 0, none⟩)) := n1
          go_wp2_with fail
          go_at_call 14
          refine (mz_time HT.out.hq.mz).mono ?_
          rintro e w4 ⟨rfl, rfl⟩
          go_wp2_with fail
          go_at_call 28
          refine (rtstep_pop HT.out HGI.out HRC.out HT4.out.1 HT4.out.2.1 HT4.out.2.2.1 HT4.out.2.2.2 hN64 (by have := HJ.out; omega) (by have := HJ.out; omega)).mono ?_
          rintro e w5 ⟨M', zs5, fs5, hlen, hor⟩
          have hwt : IntKind.i64.wrap ((M.lg.length : Int) + 1) = (M.lg.length : Int) + 1 := by have := HGI.out.good.l; have := HJ.out; simp [IntKind.wrap, IntKind.bits, IntKind.signed]; omega
          have hgt : ¬ ((M.lg.length : Int) + 1 < (M'.lg.length : Int)) := by omega
          have hst : IntKind.i64.wrap ((t' : Int) + 1) = (t' : Int) + 1 := by have := HT4.out.1; simp [IntKind.wrap, IntKind.bits, IntKind.signed]; omega
          have hs8 : ¬ (8 < (t' : Int) + 1) := by have := HT4.out.1; omega
          clear hlen n0 n1 q0 q1 nf qf
          rcases hor with ⟨rfl, bv2, pu2, po3, l2, b2, hrt, hgi, hrc, h3, h4, h5, h6⟩ | ⟨rfl, ok, bv2, acc, pu2, po3, l2, b2, hl2, hrt, hor⟩
          · obtain ⟨n0, n1, q0, q1, nf, qf⟩ := hrt.cells
            have HT' := Lib.hid (hrt.setS1 ((t' : Int) + 1))
            have HGI' := Lib.hid hgi
            have HRC' := Lib.hid hrc
            have HT4' := Lib.hid (And.intro h3 (And.intro h4 (And.intro h5 h6)))
            clear hrt hgi hrc h3 h4 h5 h6
            go_wp2_with fail
            go_at_call 14
            try rw [hst]
            clear n0 n1 q0 q1 nf qf
            generalize w5.setCell ⟨w3.heap.size + 1, 1, none⟩ (.int .i64 ((t' : Int) + 1)) = W at *
            obtain ⟨n0, n1, q0, q1, nf, qf⟩ := HT'.out.cells
            have HA6 := Lib.hid (HT'.out.a1 a rfl).ac
            refine (mz_time HT'.out.hq.mz).mono ?_
            rintro e w6 ⟨rfl, rfl⟩
            go_wp2_with fail
            go_at_call 16
            refine (rgover_any HA6.out).mono ?_
            rintro e w6 ⟨rfl, rfl⟩
            go_wp2_with fail
            go_at_call 23
            refine (rgmark_any HA6.out).mono ?_
            rintro e w6 ⟨rfl, rfl⟩
            go_wp2_with fail
            go_at_call 19
            refine (rgok_any HA6.out).mono ?_
            rintro e w6 ⟨rfl, rfl⟩
            go_wp2_with fail
            go_roundg (gk - 1)
            case measure => have := HIK.out; have := HEND.out; omega
            case rel => exact ⟨i + 1, aj, _, _, _, _, pu, po', s', t' + 1, x', k' + 1, l, _, _, b2, _, _, _, p0, some a, _, _, _, _, _, _, by have := HIK.out; have := HEND.out; omega, by have := HEND.out; omega, rfl, by go_num, by have := HJ.out; omega, by have := HJ.out; omega, by have := HJ.out; omega, HT', HGI', HRC', HPU, Lib.hid (.inr ⟨a, _, _, bv2, rfl, rfl, rfl, HT4'.out.1, HT4'.out.2.1, HT4'.out.2.2.1, HT4'.out.2.2.2, by omega⟩), HLL⟩
          · obtain ⟨n0, n1, q0, q1, nf, qf⟩ := hrt.cells
            have HT' := Lib.hid (hrt.setS1 ((t' : Int) + 1))
            have HL2 := Lib.hid hl2
            clear hrt hl2
            go_wp2_with fail
            go_at_call 14
            try rw [hst]
            clear n0 n1 q0 q1 nf qf
            generalize w5.setCell ⟨w3.heap.size + 1, 1, none⟩ (.int .i64 ((t' : Int) + 1)) = W at *
            obtain ⟨n0, n1, q0, q1, nf, qf⟩ := HT'.out.cells
            refine (mz_time HT'.out.hq.mz).mono ?_
            rintro e w6 ⟨rfl, rfl⟩
            go_wp2_with fail
            go_at_call 16
            refine (rgover_any (HT'.out.a1 a rfl).ac).mono ?_
            rintro e w6 ⟨rfl, rfl⟩
            clear n0 n1 q0 q1 nf qf
            rcases hor with ⟨rfl, hL, hgi, hrc⟩ | ⟨rfl, hL, hgi, hrc⟩
            · have HGI' := Lib.hid hgi
              have HRC' := Lib.hid hrc
              clear hgi hrc
              subst hL
              have hqa := HT'.out.qs.qa
              have hqr := HT'.out.qs.row
              obtain ⟨vo, vc, hvf, _⟩ := hqr
              have hs0 : ss.length = 0 := HT'.out.qs.len
              rw [hvf, hs0] at hqa
              have HQA := Lib.hid hqa
              clear hqa hvf hs0
              go_wp2_with fail
              go_at_call 18
              refine (rgqpop_no HQA.out).mono ?_
              rintro e w7 ⟨rfl, rfl⟩
              go_wp2_with fail
              go_at_call 19
              refine (rgok_any (HT'.out.a1 a rfl).ac).mono ?_
              rintro e w7 ⟨rfl, rfl⟩
              go_wp2_with fail
              go_at_call 22
              refine (rgbatch_any (HT'.out.a1 a rfl).ac (HT'.out.a1 a rfl).sl HL2.out).mono ?_
              rintro e w11 ⟨v4, rfl, ho, hb4⟩
              have HO4 := Lib.hid (show Batch.Own w11 W.heap.size 85 v4 [] from ho)
              have HB4 := Lib.hid hb4
              obtain ⟨_, _, rfl⟩ := bown_form0 HO4.out
              clear ho hb4
              go_wp2_with fail
              go_at_call 21
              refine (Batch.from_any (Batch.Own.rd HO4.out (by simp)) (by decide)).mono ?_
              rintro e w12 ⟨v5, rfl, ho, hb5⟩
              have HO5 := Lib.hid ho
              have HB5 := Lib.hid hb5
              obtain ⟨_, _, rfl⟩ := bown_form0 HO5.out
              clear ho hb5
              go_wp2_with fail
              go_at_call 20
              refine (Batch.refsame_any (Batch.Own.rd HO5.out (by simp)) (Batch.Rd.nil _)).mono ?_
              rintro e w13 ⟨rfl, hb6⟩
              rw [Batch.eqL_self]
              have HB6 := Lib.hid ((HB4.out.trans (HB5.out.mono HB4.out.size)).trans (hb6.mono (Nat.le_trans HB4.out.size HB5.out.size)))
              have HT9 := Lib.hid (HT'.out.below HB6.out)
              have HA9 := Lib.hid (HT9.out.a1 a rfl).ac
              obtain ⟨n0, n1, q0, q1, nf, qf⟩ := HT9.out.cells
              clear hb6
              go_wp2_with fail
              go_at_call 23
              refine (rgmark_any HA9.out).mono ?_
              rintro e w14 ⟨rfl, rfl⟩
              go_wp2_with fail
              go_at_call 14
              refine (mz_time HT9.out.hq.mz).mono ?_
              rintro e w15 ⟨rfl, rfl⟩
              go_wp2_with fail
              have HTE := Lib.hid (HT9.out.end1 ⟨r, 1, true, .slice none 0 0, 0, 0, 0, false, false, 0⟩ [])
              go_roundg (gk - 1)
              case measure => have := HIK.out; have := HEND.out; omega
              case rel => exact ⟨i + 1, aj, _, _, _, _, pu, po', s', 0, x', k' + 1, l, _, _, b2, _, _, _, p0, none, _, _, _, _, _, _, by have := HIK.out; have := HEND.out; omega, by have := HEND.out; omega, rfl, by go_num, by have := HJ.out; omega, by have := HJ.out; omega, by have := HJ.out; omega, HTE, HGI', HRC', HPU, Lib.hid (.inl ⟨rfl, rfl, rfl⟩), HLL⟩

            · have HGI' := Lib.hid hgi
              have HRC' := Lib.hid hrc
              clear hgi hrc
              cases L with
              | nil => simp at hL
              | cons c L' =>
              obtain rfl : c = l2 := by simpa using hL
              simp only [List.tail_cons] at HGI' HRC'
              have hsl : ss.length = L'.length + 1 := HT'.out.qs.len
              cases ss with
              | nil => simp at hsl
              | cons sv ss' =>
              have HSL : Hid (ss'.length ≤ 64) := Lib.hid (by
                have h1 := HGI.out.lN
                simp at hsl h1
                omega)
              obtain ⟨sa, sn, sc⟩ := sv
              clear hsl hL
              go_wp2_with fail
              go_at_call 18
              refine (rgqpop_yes HT'.out.qs.qa HT'.out.qs.row HSL.out).mono ?_
              rintro e w9 ⟨he9, w10, v', hb, ho, rfl⟩
              change e = .returned (.tuple #[.slice sa sn sc, .bool true]) at he9
              subst he9
              obtain ⟨zs10, ht10⟩ := HT'.out.qpop hb ho
              have HT10 := Lib.hid ht10
              have HRS := Lib.hid (show Batch.Rd (w10.setCell ⟨w3.heap.size + 1 + 1, 0, none⟩ v') (.slice sa sn sc) c from HT'.out.first hb v')
              generalize w10.setCell ⟨w3.heap.size + 1 + 1, 0, none⟩ v' = W2 at *
              clear hb ho ht10
              go_wp2_with fail
              go_at_call 19
              refine (rgok_any (HT10.out.a1 a rfl).ac).mono ?_
              rintro e w7 ⟨rfl, rfl⟩
              go_wp2_with fail
              go_at_call 22
              refine (rgbatch_any (HT10.out.a1 a rfl).ac (HT10.out.a1 a rfl).sl HL2.out).mono ?_
              rintro e w11 ⟨v4, rfl, ho, hb4⟩
              have HO4 := Lib.hid (show Batch.Own w11 W2.heap.size 85 v4 c from ho)
              have HB4 := Lib.hid hb4
              obtain ⟨_, _, rfl⟩ := bown_form0 HO4.out
              clear ho hb4
              go_wp2_with fail
              go_at_call 21
              refine (Batch.from_any (Batch.Own.rd HO4.out HRS.out.wf) (by have := HL2.out; omega)).mono ?_
              rintro e w12 ⟨v5, rfl, ho, hb5⟩
              have HO5 := Lib.hid ho
              have HB5 := Lib.hid hb5
              obtain ⟨_, _, rfl⟩ := bown_form0 HO5.out
              clear ho hb5
              go_wp2_with fail
              go_at_call 20
              refine (Batch.refsame_any (Batch.Own.rd HO5.out HRS.out.wf) ((HRS.out.below HB4.out).below HB5.out)).mono ?_
              rintro e w13 ⟨rfl, hb6⟩
              rw [Batch.eqL_self]
              have HB6 := Lib.hid ((HB4.out.trans (HB5.out.mono HB4.out.size)).trans (hb6.mono (Nat.le_trans HB4.out.size HB5.out.size)))
              have HT9 := Lib.hid (HT10.out.below HB6.out)
              have HA9 := Lib.hid (HT9.out.a1 a rfl).ac
              obtain ⟨n0, n1, q0, q1, nf, qf⟩ := HT9.out.cells
              clear hb6
              go_wp2_with fail
              go_at_call 23
              refine (rgmark_any HA9.out).mono ?_
              rintro e w14 ⟨rfl, rfl⟩
              go_wp2_with fail
              go_at_call 14
              refine (mz_time HT9.out.hq.mz).mono ?_
              rintro e w15 ⟨rfl, rfl⟩
              go_wp2_with fail
              have HTE := Lib.hid (HT9.out.end1 ⟨r, 1, true, .slice none 0 0, 0, 0, 0, false, false, 0⟩ [])
              go_roundg (gk - 1)
              case measure => have := HIK.out; have := HEND.out; omega
              case rel => exact ⟨i + 1, aj, _, _, _, _, pu, po' + 1, s', 0, x', k' + 1, l, _, _, b2, _, _, _, p0, none, _, _, _, _, _, _, by have := HIK.out; have := HEND.out; omega, by have := HEND.out; omega, rfl, by go_num, by have := HJ.out; omega, by have := HJ.out; omega, by have := HJ.out; omega, HTE, HGI', HRC', HPU, Lib.hid (.inl ⟨rfl, rfl, rfl⟩), Lib.hid (fun l hl => HLL.out l (List.mem_cons_of_mem _ hl))⟩
    · have HLB := Lib.hid (HB1.out.trans (HT.out.hq.mz.kept.mono HB1.out.size))
      have HZ := Lib.hid HT.out.hq.mz
      have HG := Lib.hid HGI.out.good
      have HNO := Lib.hid HRC.out.no
      have HLG : Hid (M.lg.length ≤ 1000) := Lib.hid (by have := HGI.out.good.l; have := HJ.out; omega)
      have HK9 : Hid (k' ≤ 100000) := Lib.hid (by have := HJ.out; omega)
      have HWS : Hid (w1.heap.size ≤ wr.heap.size) := Lib.hid HT.out.hq.mz.nl
      by_cases hlt : i < P.length
      case' pos =>
        have h2 : ¬ (i : Int) < 1000 := by omega
        have h1 : (i : Int) < (P.length : Int) := by omega
      case' neg => have h1 : ¬ (i : Int) < (P.length : Int) := by omega
      all_goals
        clear hend hlt
        go_wp2_with fail
        go_at_call 30
        refine (mz_log HZ.out HG.out (by decide) (by omega) (by decide) HK9.out).mono ?_
        rintro e w4 ⟨vl, rfl, hrl, hbl⟩
        have HRL := Lib.hid hrl
        have HB4 := Lib.hid (HLB.out.trans (hbl.mono (Nat.le_trans HB1.out.size HWS.out)))
        have HN4 := Lib.hid (Nat.le_trans (Nat.le_trans HB1.out.size HWS.out) hbl.size)
        clear hrl hbl
        go_wp2_with fail
        go_at_call 29
        refine (Ck.race_any HRL.out HLG.out).mono ?_
        rintro e w5 ⟨xx, yy, rfl, hf, hb5⟩
        have HB5 := Lib.hid (HB4.out.trans (hb5.mono HN4.out))
        obtain ⟨rfl, rfl⟩ : xx = -1 ∧ yy = -1 := by
          rcases hf with ⟨h1, h2, _⟩ | ⟨i, k, _, _, h3, _⟩
          · exact ⟨h1, h2⟩
          · exact absurd h3 (HNO.out i k)
        clear hf hb5
        go_wp2_with fail
        go_ret
        exact ⟨rfl, HB5.out⟩
end Go.Proofs.Ytjmkcgkkgamafaa.Rg
