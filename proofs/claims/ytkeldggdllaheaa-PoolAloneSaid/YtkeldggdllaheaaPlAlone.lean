/-
  THE LAW PoolAlone: its walk.
-/
import Derived.Test.YtkeldggdllaheaaJoined11
import Derived.Deep.CutRange
import Derived.Deep.RegionHeldLaw
import Derived.BigQuiet
namespace Go.Proofs.Ytkeldggdllaheaa.Pl
open Go.RowKit Rw Pk Go.Maps Mm
open Batch (Ch tot sumsE sumsR)
set_option linter.unusedVariables false
theorem eqL_same (l : List Ch) : Batch.eqL l l = true := by first | exact Batch.eqL_self l | (unfold Batch.eqL; simp) | simp [Batch.eqL]
theorem tmod4 (i : Nat) : ((i : Int)).tmod 4 = ((i % 4 : Nat) : Int) := by rw [Int.tmod_eq_emod_of_nonneg (by omega)]; omega
set_option maxRecDepth 1000000 in
set_option maxHeartbeats 16000000 in
theorem poolAlone_any {w : World} (x : Int) {v : Value} {J : List Jb} (hv : RdJb w v J) :
    Calls Try.prog 3 #[.int .i64 x, v] w fun e w' => e = .returned (.bool true) ∧ Below w.heap.size w w' := by
  have HJ := Lib.hid hv
  obtain ⟨jo, jc, rfl, hjl, _⟩ := hv
  obtain ⟨q, hq, _, p2, p3⟩ := plport_of (n := 8) x (by decide) (by decide)
  obtain ⟨n, hnp⟩ : ∃ n : Nat, n = q + 1 := ⟨_, rfl⟩
  have HN : Hid (1 ≤ n ∧ n ≤ 8) := Lib.hid (by omega)
  have HP := Lib.hid (And.intro p2 p3)
  obtain ⟨p6, p7⟩ := plone_more hnp (Nat.lt_trans hq (by decide))
  clear hq hnp p2 p3
  have p4 : wrap64 ((IntKind.u64.wrap x).tmod 8) = (q : Int) := HP.out.1
  have p5 : IntKind.i64.wrap ((IntKind.u64.wrap x).tmod 8) = (q : Int) := HP.out.2
  go_enter Try.func3, Try.ntmps3
  go_wp2_with fail
  go_at_call 7
  try rw [p6]
  refine (plbegin_any n HN.out w).mono ?_
  rintro e w1 ⟨p, s, zs0, rfl, h⟩
  have H0 := Lib.hid h
  clear h p4 p5 p6 p7
  go_wp2_with fail
  go_at_call 8
  refine (pltold_any w1).mono ?_
  rintro e w2 ⟨rfl, hb⟩
  have H1 := Lib.hid (H0.out.below hb)
  clear hb H0
  go_upto_region 7 with fail
  have hb3 : Below w2.heap.size w2 (w2.alloc (.cells #[.slice none 0 0, .int .u64 0] 32)) := (Below.refl _ _).alloc (Nat.le_refl _) _
  have hn3 := heap_alloc_new w2 (.cells #[.slice none 0 0, .int .u64 0] 32)
  obtain ⟨zs1, _, _, hp3⟩ := H1.out.with hb3 (g := w2.heap.size) (Nat.le_refl _) (by simp)
  have HL0 := Lib.hid (show La w.heap.size w s p n (40 * 0) w2.heap.size zs1 [] (.slice none 0 0) (fun _ => none) [] 0 _ _ from ⟨hp3, ⟨_, hn3⟩, Batch.Sl.nil _, by simp [Value.ownBlock], by simp⟩)
  have HG0 : Hid (Cg (12000 * ((0 : Nat) : Int)) (12 * 0) [] ∧ (0 : Int) ≤ 0 ∧ (0 : Int) ≤ ((0 : Nat) : Int)) := Lib.hid ⟨cg_nil (by decide), by decide, by decide⟩
  clear hb3 hn3 hp3 H1
  generalize w2.heap.size = r at *
  generalize w2.alloc (.cells #[.slice none 0 0, .int .u64 0] 32) = w3 at *
  go_loopg [9] 60 (fun k t wr => ∃ (i : Nat) (zs : List Nat) (vB : Value) (C : List Ch) (rnd : Int) (M : Mm.St), i + k = 60 ∧ i ≤ J.length ∧ t = .int .i64 (i : Int) ∧ Hid (La w.heap.size w s p n (40 * i) r zs [] vB (fun _ => none) C rnd M wr) ∧ Hid (Cg (12000 * (i : Int)) (12 * i) C ∧ 0 ≤ rnd ∧ rnd ≤ (i : Int)))
  case atStart => exact ⟨0, zs1, _, [], 0, _, rfl, by omega, rfl, HL0, HG0⟩
  case round =>
    obtain ⟨i, zs, vB, C, rnd, M, hik, hil, rfl, HL, HG⟩ := hrel
    have HIK := Lib.hid hik
    have hi60 : i ≤ 60 := by omega
    have hi0 : (0 : Int) ≤ (i : Int) := Int.natCast_nonneg _
    clear hik HL0 HG0
    have HKB := Lib.hid HL.out.ps.kept
    have HCW := Lib.hid HG.out.1.wf
    by_cases hend : i < J.length ∧ i < 60
    · obtain ⟨h1, h2⟩ := hend
      have h1' : (i : Int) < (J.length : Int) := by omega
      have h2' : (i : Int) < 60 := by omega
      have hwi : IntKind.i64.wrap ((i : Int) + 1) = (i : Int) + 1 := w_id ⟨by omega, by omega⟩
      have HI := Lib.hid (And.intro h1 h2)
      obtain ⟨jb, hx⟩ : ∃ jb, J[i]? = some jb := ⟨_, List.getElem?_eq_getElem h1⟩
      obtain ⟨b, off, rfl, hjb⟩ := HJ.out.at hx
      obtain ⟨c0, u, c1, hrl⟩ := hjb.below HKB.out
      have HRL := Lib.hid hrl
      clear hjb h1 h2 hil hx
      rcases Bool.eq_false_or_eq_true jb.dr with hd | hd
      · rw [hd] at c0
        go_wp2_with fail
        go_at_call 9
        refine (ps_drain (k := 9) HL.out.ps rfl HN.out).mono ?_
        rintro e w4 ⟨X, zs4, rfl, _, hfr, _, _, hkx, hp⟩
        have HF := Lib.hid hfr
        have H4 := Lib.hid (HL.out.keep hkx hp)
        clear hfr hkx hp c0 c1 HRL HL
        go_upto_region 11 with fail
        go_cut [87] from 49 to 87 (fun t wx => t = .bool false ∧ ∃ zs M, Hid (La w.heap.size w s p n (40 * i + 34) r zs [] (.slice none 0 0) (fun _ => none) [] (rnd + 1) M wx))
        case first =>
          have HD := Lib.hid (H4.out.below (Below.refl _ _).drew)
          refine wp_region_held_drew (S := (fun _ => True)) (by kernel_rfl) ?_ (fun hHeld => ?_)
          · ((try dsimp only); all_goals trivial)
          refine wpAnyH_take (i := 0) (v := ?_) rfl (by kernel_rfl) (by kernel_rfl) (by kernel_rfl) (fun _ _ _ h => h) (Or.inl ⟨by rfl, ?_⟩) (by assumption) ?_
          rotate_left 1
          · (intro w hSw; (try dsimp only at hSw); first | (go_simp; done) | (go_simp; with_reducible rfl))
          try simp only [Act.put, List.setIfInBounds_toArray, List.set_cons_zero, List.set_cons_succ, List.getElem_toArray, List.getElem_cons_zero]
          refine wpAnyH_take (i := 1) (v := ?_) rfl (by kernel_rfl) (by kernel_rfl) (by kernel_rfl) (fun _ _ _ h => h) (Or.inl ⟨by rfl, ?_⟩) (by assumption) ?_
          rotate_left 1
          · (intro w hSw; (try dsimp only at hSw); first | (go_simp; done) | (go_simp; with_reducible rfl))
          try simp only [Act.put, List.setIfInBounds_toArray, List.set_cons_zero, List.set_cons_succ, List.getElem_toArray, List.getElem_cons_zero, List.getElem_cons_succ]
          refine wpAnyH_take (i := 2) (v := ?_) rfl (by kernel_rfl) (by kernel_rfl) (by kernel_rfl) (fun _ _ _ h => h) (Or.inl ⟨by rfl, ?_⟩) (by assumption) ?_
          rotate_left 1
          · (intro w hSw; (try dsimp only at hSw); first | (go_simp; done) | (go_simp; with_reducible rfl))
          try simp only [Act.put, List.setIfInBounds_toArray, List.set_cons_zero, List.set_cons_succ, List.getElem_toArray, List.getElem_cons_zero, List.getElem_cons_succ]
          refine wpAnyH_take (i := 3) (v := ?_) rfl (by kernel_rfl) (by kernel_rfl) (by kernel_rfl) (fun _ _ _ h => h) (Or.inl ⟨by rfl, ?_⟩) (by assumption) ?_
          rotate_left 1
          · (intro w hSw; (try dsimp only at hSw); first | (go_simp; done) | (go_simp; with_reducible rfl))
          try simp only [Act.put, List.setIfInBounds_toArray, List.set_cons_zero, List.set_cons_succ, List.getElem_toArray, List.getElem_cons_zero, List.getElem_cons_succ]
          refine wpAnyH_ready (rs := [4]) (by kernel_rfl) (by simp) ?_
          refine AllReadyH.cons rfl (fun K hK => ?_) AllReadyH.nil
          go_simp
          go_at_call 10
          obtain ⟨o1, o2, _, _, o5⟩ := HD.out.ps.over (updF_same _ _ _)
          refine (plover_any o1 o2).mono ?_
          have h3 : 1 ≤ X.e := by unfold Ax.e eN; split <;> omega
          rw [decide_eq_false (fun e => by have := o5.1 e; rw [HF.out.hj] at this; omega)]
          rintro e w5 ⟨rfl, rfl⟩
          clear o1 o2 o5 h3
          try go_wp2_with fail
          refine hK.out _ _ ?_ (fun hHeld => ?_)
          · ((try dsimp only); all_goals trivial)
          clear hK K
          try simp only [Act.put, List.setIfInBounds_toArray, List.set_cons_zero, List.set_cons_succ, List.getElem_toArray, List.getElem_cons_zero, List.getElem_cons_succ]
          refine wpAnyH_take (i := 5) (v := ?_) rfl (by kernel_rfl) (by kernel_rfl) (by kernel_rfl) (fun _ _ _ h => h) (Or.inl ⟨by rfl, ?_⟩) (by assumption) ?_
          rotate_left 1
          · (intro w hSw; (try dsimp only at hSw); first | (go_simp; done) | (go_simp; with_reducible rfl))
          try simp only [Act.put, List.setIfInBounds_toArray, List.set_cons_zero, List.set_cons_succ, List.getElem_toArray, List.getElem_cons_zero, List.getElem_cons_succ]
          refine wpAnyH_take (i := 6) (v := ?_) rfl (by kernel_rfl) (by kernel_rfl) (by kernel_rfl) (fun _ _ _ h => h) (Or.inl ⟨by rfl, ?_⟩) (by assumption) ?_
          rotate_left 1
          · (intro w hSw; (try dsimp only at hSw); first | (go_simp; done) | (go_simp; with_reducible rfl))
          try simp only [Act.put, List.setIfInBounds_toArray, List.set_cons_zero, List.set_cons_succ, List.getElem_toArray, List.getElem_cons_zero, List.getElem_cons_succ]
          refine wpAnyH_take (i := 7) (v := ?_) rfl (by kernel_rfl) (by kernel_rfl) (by kernel_rfl) (fun _ _ _ h => h) (Or.inl ⟨by rfl, ?_⟩) (by assumption) ?_
          rotate_left 1
          · (intro w hSw; (try dsimp only at hSw); first | (go_simp; done) | (go_simp; with_reducible rfl))
          try simp only [Act.put, List.setIfInBounds_toArray, List.set_cons_zero, List.set_cons_succ, List.getElem_toArray, List.getElem_cons_zero, List.getElem_cons_succ]
          refine wpAnyH_ready (rs := [8]) (by kernel_rfl) (by simp) ?_
          refine AllReadyH.cons rfl (fun K hK => ?_) AllReadyH.nil
          go_simp
          go_at_call 11
          obtain ⟨o1, o2, _, _, o5⟩ := HD.out.ps.over (updF_same _ _ _)
          refine (plmark_any o1).mono ?_
          rw [HF.out.hmk]
          rintro e w5 ⟨rfl, rfl⟩
          clear o1 o2 o5
          try go_wp2_with fail
          refine hK.out _ _ ?_ (fun hHeld => ?_)
          · ((try dsimp only); all_goals trivial)
          clear hK K
          try simp only [Act.put, List.setIfInBounds_toArray, List.set_cons_zero, List.set_cons_succ, List.getElem_toArray, List.getElem_cons_zero, List.getElem_cons_succ]
          refine wpAnyH_take (i := 9) (v := ?_) rfl (by kernel_rfl) (by kernel_rfl) (by kernel_rfl) (fun _ _ _ h => h) (Or.inl ⟨by rfl, ?_⟩) (by assumption) ?_
          rotate_left 1
          · (intro w hSw; (try dsimp only at hSw); first | (go_simp; done) | (go_simp; with_reducible rfl))
          try simp only [Act.put, List.setIfInBounds_toArray, List.set_cons_zero, List.set_cons_succ, List.getElem_toArray, List.getElem_cons_zero, List.getElem_cons_succ]
          refine wpAnyH_take (i := 10) (v := ?_) rfl (by kernel_rfl) (by kernel_rfl) (by kernel_rfl) (fun _ _ _ h => h) (Or.inl ⟨by rfl, ?_⟩) (by assumption) ?_
          rotate_left 1
          · (intro w hSw; (try dsimp only at hSw); first | (go_simp; done) | (go_simp; with_reducible rfl))
          try simp only [Act.put, List.setIfInBounds_toArray, List.set_cons_zero, List.set_cons_succ, List.getElem_toArray, List.getElem_cons_zero, List.getElem_cons_succ]
          refine wpAnyH_take (i := 11) (v := ?_) rfl (by kernel_rfl) (by kernel_rfl) (by kernel_rfl) (fun _ _ _ h => h) (Or.inl ⟨by rfl, ?_⟩) (by assumption) ?_
          rotate_left 1
          · (intro w hSw; (try dsimp only at hSw); first | (go_simp; done) | (go_simp; with_reducible rfl))
          try simp only [Act.put, List.setIfInBounds_toArray, List.set_cons_zero, List.set_cons_succ, List.getElem_toArray, List.getElem_cons_zero, List.getElem_cons_succ]
          refine wpAnyH_take (i := 12) (v := ?_) rfl (by kernel_rfl) (by kernel_rfl) (by kernel_rfl) (fun _ _ _ h => h) (Or.inl ⟨by rfl, ?_⟩) (by assumption) ?_
          rotate_left 1
          · (intro w hSw; (try dsimp only at hSw); first | (go_simp; done) | (go_simp; with_reducible rfl))
          try simp only [Act.put, List.setIfInBounds_toArray, List.set_cons_zero, List.set_cons_succ, List.getElem_toArray, List.getElem_cons_zero, List.getElem_cons_succ]
          refine wpAnyH_ready (rs := [13]) (by kernel_rfl) (by simp) ?_
          refine AllReadyH.cons rfl (fun K hK => ?_) AllReadyH.nil
          go_simp
          go_at_call 12
          refine (ps_finish (KC := 12000 * 60) (NC := 720) HD.out.ps (fun _ => rfl) (fun _ => rfl) HN.out (by omega) (by omega) (HG.out.1.more (by omega) (by omega)) (by rw [HF.out.hb]; exact cg_nil (by decide)) (by decide) (by decide) (by decide) (by have := HG.out; omega) HF.out.hj (fresh_m HF.out HN.out.2)).mono ?_
          rintro e w6 ⟨rfl, Y, ys, N6, ea, eok, erd, emk, eT, eTp, eD, ej, _, _, hkx, hp⟩
          have hC : aftC X C = [] := by unfold aftC; rw [HF.out.hdr]; rfl
          have hR : aftR X rnd = rnd + 1 := by unfold aftR; rw [HF.out.hdr]; rfl
          have hT := eT HF.out.hdr
          rw [hC, hR] at hp
          rw [hR] at erd
          have H6 := Lib.hid hp
          have HR6 := Lib.hid (HD.out.rs.of_block (hkx.2 r (List.mem_cons_self ..)))
          have HB6 := Lib.hid (blk_sl HD.out.bs (fun g hg => hkx.2 g (by simp [hg])))
          have HNV := Lib.hid HD.out.nv
          have HE := Lib.hid (And.intro ea (And.intro eok (And.intro erd (And.intro emk (And.intro eD (And.intro ej hT))))))
          clear ea eok erd emk eT eTp eD ej hT hC hR hp hkx HD HF
          try go_wp2_with fail
          refine hK.out _ _ ?_ (fun hHeld => ?_)
          · ((try dsimp only); all_goals trivial)
          clear hK K
          try simp only [Act.put, List.setIfInBounds_toArray, List.set_cons_zero, List.set_cons_succ, List.getElem_toArray, List.getElem_cons_zero, List.getElem_cons_succ]
          refine wpAnyH_take (i := 14) (v := ?_) rfl (by kernel_rfl) (by kernel_rfl) (by kernel_rfl) (fun _ _ _ h => h) (Or.inl ⟨by rfl, ?_⟩) (by assumption) ?_
          rotate_left 1
          · (intro w hSw; (try dsimp only at hSw); first | (go_simp; done) | (go_simp; with_reducible rfl))
          try simp only [Act.put, List.setIfInBounds_toArray, List.set_cons_zero, List.set_cons_succ, List.getElem_toArray, List.getElem_cons_zero, List.getElem_cons_succ]
          refine wpAnyH_take (i := 15) (v := ?_) rfl (by kernel_rfl) (by kernel_rfl) (by kernel_rfl) (fun _ _ _ h => h) (Or.inl ⟨by rfl, ?_⟩) (by assumption) ?_
          rotate_left 1
          · (intro w hSw; (try dsimp only at hSw); first | (go_simp; done) | (go_simp; with_reducible rfl))
          try simp only [Act.put, List.setIfInBounds_toArray, List.set_cons_zero, List.set_cons_succ, List.getElem_toArray, List.getElem_cons_zero, List.getElem_cons_succ]
          refine wpAnyH_take (i := 16) (v := ?_) rfl (by kernel_rfl) (by kernel_rfl) (by kernel_rfl) (fun _ _ _ h => h) (Or.inl ⟨by rfl, ?_⟩) (by assumption) ?_
          rotate_left 1
          · (intro w hSw; (try dsimp only at hSw); first | (go_simp; done) | (go_simp; with_reducible rfl))
          try simp only [Act.put, List.setIfInBounds_toArray, List.set_cons_zero, List.set_cons_succ, List.getElem_toArray, List.getElem_cons_zero, List.getElem_cons_succ]
          refine wpAnyH_take (i := 17) (v := ?_) rfl (by kernel_rfl) (by kernel_rfl) (by kernel_rfl) (fun _ _ _ h => h) (Or.inl ⟨by rfl, ?_⟩) (by assumption) ?_
          rotate_left 1
          · (intro w hSw; (try dsimp only at hSw); first | (go_simp; done) | (go_simp; with_reducible rfl))
          try simp only [Act.put, List.setIfInBounds_toArray, List.set_cons_zero, List.set_cons_succ, List.getElem_toArray, List.getElem_cons_zero, List.getElem_cons_succ]
          refine wpAnyH_ready (rs := [18]) (by kernel_rfl) (by simp) ?_
          refine AllReadyH.cons rfl (fun K hK => ?_) AllReadyH.nil
          go_simp
          go_at_call 13
          obtain ⟨o1, o2, _, _, _⟩ := H6.out.over (updF_same _ _ _)
          have hcc := plok_any o1 o2
          rw [HE.out.1] at hcc
          refine hcc.mono ?_
          clear hcc
          rw [HE.out.2.1, decide_eq_true HE.out.2.2.2.2.1]
          rintro e w7 ⟨rfl, rfl⟩
          clear o1 o2
          try go_wp2_with fail
          refine hK.out _ _ ?_ (fun hHeld => ?_)
          · ((try dsimp only); all_goals trivial)
          clear hK K
          try simp only [Act.put, List.setIfInBounds_toArray, List.set_cons_zero, List.set_cons_succ, List.getElem_toArray, List.getElem_cons_zero, List.getElem_cons_succ]
          refine wpAnyH_take (i := 19) (v := ?_) rfl (by kernel_rfl) (by kernel_rfl) (by kernel_rfl) (fun _ _ _ h => h) (Or.inl ⟨by rfl, ?_⟩) (by assumption) ?_
          rotate_left 1
          · (intro w hSw; (try dsimp only at hSw); first | (go_simp; done) | (go_simp; with_reducible rfl))
          try simp only [Act.put, List.setIfInBounds_toArray, List.set_cons_zero, List.set_cons_succ, List.getElem_toArray, List.getElem_cons_zero, List.getElem_cons_succ]
          refine wpAnyH_take (i := 20) (v := ?_) rfl (by kernel_rfl) (by kernel_rfl) (by kernel_rfl) (fun _ _ _ h => h) (Or.inl ⟨by rfl, ?_⟩) (by assumption) ?_
          rotate_left 1
          · (intro w hSw; (try dsimp only at hSw); first | (go_simp; done) | (go_simp; with_reducible rfl))
          try simp only [Act.put, List.setIfInBounds_toArray, List.set_cons_zero, List.set_cons_succ, List.getElem_toArray, List.getElem_cons_zero, List.getElem_cons_succ]
          refine wpAnyH_take (i := 21) (v := ?_) rfl (by kernel_rfl) (by kernel_rfl) (by kernel_rfl) (fun _ _ _ h => h) (Or.inl ⟨by rfl, ?_⟩) (by assumption) ?_
          rotate_left 1
          · (intro w hSw; (try dsimp only at hSw); first | (go_simp; done) | (go_simp; with_reducible rfl))
          try simp only [Act.put, List.setIfInBounds_toArray, List.set_cons_zero, List.set_cons_succ, List.getElem_toArray, List.getElem_cons_zero, List.getElem_cons_succ]
          refine wpAnyH_take (i := 22) (v := ?_) rfl (by kernel_rfl) (by kernel_rfl) (by kernel_rfl) (fun _ _ _ h => h) (Or.inl ⟨by rfl, ?_⟩) (by assumption) ?_
          rotate_left 1
          · (intro w hSw; (try dsimp only at hSw); first | (go_simp; done) | (go_simp; with_reducible rfl))
          try simp only [Act.put, List.setIfInBounds_toArray, List.set_cons_zero, List.set_cons_succ, List.getElem_toArray, List.getElem_cons_zero, List.getElem_cons_succ]
          refine wpAnyH_take (i := 25) (v := ?_) rfl (by kernel_rfl) (by kernel_rfl) (by kernel_rfl) (fun _ _ _ h => h) (Or.inl ⟨by rfl, ?_⟩) (by assumption) ?_
          rotate_left 1
          · (intro w hSw; (try dsimp only at hSw); first | (go_simp; done) | (go_simp; with_reducible rfl))
          try simp only [Act.put, List.setIfInBounds_toArray, List.set_cons_zero, List.set_cons_succ, List.getElem_toArray, List.getElem_cons_zero, List.getElem_cons_succ]
          refine wpAnyH_ready (rs := [23]) (by kernel_rfl) (by simp) ?_
          refine AllReadyH.cons rfl (fun K hK => ?_) AllReadyH.nil
          go_simp
          go_at_call 16
          obtain ⟨o1, o2, o3, _, _⟩ := H6.out.over (updF_same _ _ _)
          rw [HE.out.2.2.2.2.2.2] at o3
          have hcc := plbatch_any o1 o2 o3 HE.out.2.1 HE.out.2.2.2.2.1 (by have := HG.out.1.len; omega)
          rw [HE.out.1] at hcc
          refine hcc.mono ?_
          clear hcc
          rintro e w8 ⟨v8, rfl, ho8, hb8⟩
          have HV8 := Lib.hid (ho8.sl HCW.out)
          have H8 := Lib.hid (H6.out.below hb8)
          have HR8 := Lib.hid (HR6.out.of_block (hb8.block r HR6.out.cell.2.2.2))
          have HB8 := Lib.hid (HB6.out.below hb8)
          clear o1 o2 o3 ho8 hb8 H6 HR6 HB6
          try go_wp2_with fail
          refine hK.out _ _ ?_ (fun hHeld => ?_)
          · ((try dsimp only); all_goals trivial)
          clear hK K
          try simp only [Act.put, List.setIfInBounds_toArray, List.set_cons_zero, List.set_cons_succ, List.getElem_toArray, List.getElem_cons_zero, List.getElem_cons_succ]
          refine wpAnyH_ready (rs := [24]) (by kernel_rfl) (by simp) ?_
          refine AllReadyH.cons rfl (fun K hK => ?_) AllReadyH.nil
          go_simp
          go_at_call 15
          refine (Batch.from_any HV8.out.rd (by have := HG.out.1.len; omega)).mono ?_
          rintro e w9 ⟨v9, rfl, ho9, hb9⟩
          have HV9 := Lib.hid (ho9.sl HCW.out)
          have H9 := Lib.hid (H8.out.below hb9)
          have HR9 := Lib.hid (HR8.out.of_block (hb9.block r HR8.out.cell.2.2.2))
          have HB9 := Lib.hid (HB8.out.below hb9)
          have HV9N : Hid (∀ g, v9.ownBlock = some g → g ≠ r) := Lib.hid (fun g hg e => by have := (World.ownsRow.lt ho9 g hg).1; have := HR8.out.cell.2.2.2; omega)
          clear ho9 hb9 H8 HR8 HB8 HV8
          try go_wp2_with fail
          refine hK.out _ _ ?_ (fun hHeld => ?_)
          · ((try dsimp only); all_goals trivial)
          clear hK K
          try simp only [Act.put, List.setIfInBounds_toArray, List.set_cons_zero, List.set_cons_succ, List.getElem_toArray, List.getElem_cons_zero, List.getElem_cons_succ]
          refine wpAnyH_ready (rs := [26]) (by kernel_rfl) (by simp) ?_
          refine AllReadyH.cons rfl (fun K hK => ?_) AllReadyH.nil
          go_simp
          go_at_call 17
          refine (refdrain_any HR9.out HB9.out (by have := HG.out; omega)).mono ?_
          rintro e w10 ⟨rfl, rfl⟩
          have hk : ∀ j, j ≠ r → ((w9.setCell ⟨r, 0, none⟩ (.slice none 0 0)).setCell ⟨r, 1, none⟩ (.int .u64 (rnd + 1))).heap[j]? = w9.heap[j]? := fun j hj => (Below.heap_setCell _ _ _ _ hj).trans (Below.heap_setCell _ _ _ _ hj)
          have HL10 := Lib.hid (La.drained (C0 := C) HR9.out H9.out HNV.out (by simp))
          have HV10 := Lib.hid (blk_sl HV9.out (fun g hg => hk g (HV9N.out g hg)))
          have HB10 := Lib.hid (blk_sl HB9.out (fun g hg => hk g (fun e => HNV.out (e ▸ hg))))
          clear hk H9 HR9 HB9 HV9 HV9N
          generalize (w9.setCell ⟨r, 0, none⟩ (.slice none 0 0)).setCell ⟨r, 1, none⟩ (.int .u64 (rnd + 1)) = w10 at *
          try go_wp2_with fail
          refine hK.out _ _ ?_ (fun hHeld => ?_)
          · ((try dsimp only); all_goals trivial)
          clear hK K
          try simp only [Act.put, List.setIfInBounds_toArray, List.set_cons_zero, List.set_cons_succ, List.getElem_toArray, List.getElem_cons_zero, List.getElem_cons_succ]
          refine wpAnyH_ready (rs := [27]) (by kernel_rfl) (by simp) ?_
          refine AllReadyH.cons rfl (fun K hK => ?_) AllReadyH.nil
          go_simp
          go_at_call 14
          refine (Batch.refsame_any HV10.out.rd HB10.out.rd).mono ?_
          rw [eqL_same]
          rintro e w11 ⟨rfl, hb⟩
          have HL11 := Lib.hid (HL10.out.below hb)
          obtain ⟨_, d1, _, _⟩ := HL11.out.rs.cell
          clear hb HL10 HV10 HB10
          try go_wp2_with fail
          refine hK.out _ _ ?_ (fun hHeld => ?_)
          · ((try dsimp only); all_goals trivial)
          clear hK K
          try simp only [Act.put, List.setIfInBounds_toArray, List.set_cons_zero, List.set_cons_succ, List.getElem_toArray, List.getElem_cons_zero, List.getElem_cons_succ]
          refine wpAnyH_take (i := 28) (v := ?_) rfl (by kernel_rfl) (by kernel_rfl) (by kernel_rfl) (fun _ _ _ h => h) (Or.inl ⟨by rfl, ?_⟩) (by assumption) ?_
          rotate_left 1
          · (intro w hSw; (try dsimp only at hSw); first | (go_simp; done) | (go_simp; with_reducible rfl))
          try simp only [Act.put, List.setIfInBounds_toArray, List.set_cons_zero, List.set_cons_succ, List.getElem_toArray, List.getElem_cons_zero, List.getElem_cons_succ]
          refine wpAnyH_take (i := 29) (v := ?_) rfl (by kernel_rfl) (by kernel_rfl) (by kernel_rfl) (fun _ _ _ h => h) (Or.inl ⟨by rfl, ?_⟩) (by assumption) ?_
          rotate_left 1
          · (intro w hSw; (try dsimp only at hSw); first | (go_simp; done) | (go_simp; with_reducible rfl))
          try simp only [Act.put, List.setIfInBounds_toArray, List.set_cons_zero, List.set_cons_succ, List.getElem_toArray, List.getElem_cons_zero, List.getElem_cons_succ]
          refine wpAnyH_take (i := 30) (v := ?_) rfl (by kernel_rfl) (by kernel_rfl) (by kernel_rfl) (fun _ _ _ h => h) (Or.inl ⟨by rfl, ?_⟩) (by assumption) ?_
          rotate_left 1
          · (intro w hSw; (try dsimp only at hSw); first | (go_simp; done) | (go_simp; with_reducible rfl))
          try simp only [Act.put, List.setIfInBounds_toArray, List.set_cons_zero, List.set_cons_succ, List.getElem_toArray, List.getElem_cons_zero, List.getElem_cons_succ]
          refine wpAnyH_take (i := 31) (v := ?_) rfl (by kernel_rfl) (by kernel_rfl) (by kernel_rfl) (fun _ _ _ h => h) (Or.inl ⟨by rfl, ?_⟩) (by assumption) ?_
          rotate_left 1
          · (intro w hSw; (try dsimp only at hSw); first | (go_simp; done) | (go_simp; with_reducible rfl))
          try simp only [Act.put, List.setIfInBounds_toArray, List.set_cons_zero, List.set_cons_succ, List.getElem_toArray, List.getElem_cons_zero, List.getElem_cons_succ]
          refine wpAnyH_take (i := 33) (v := ?_) rfl (by kernel_rfl) (by kernel_rfl) (by kernel_rfl) (fun _ _ _ h => h) (Or.inl ⟨by rfl, ?_⟩) (by assumption) ?_
          rotate_left 1
          · (intro w hSw; (try dsimp only at hSw); first | (go_simp; done) | (go_simp; with_reducible rfl))
          try simp only [Act.put, List.setIfInBounds_toArray, List.set_cons_zero, List.set_cons_succ, List.getElem_toArray, List.getElem_cons_zero, List.getElem_cons_succ]
          refine wpAnyH_take (i := 34) (v := ?_) rfl (by kernel_rfl) (by kernel_rfl) (by kernel_rfl) (fun _ _ _ h => h) (Or.inl ⟨by rfl, ?_⟩) (by assumption) ?_
          rotate_left 1
          · (intro w hSw; (try dsimp only at hSw); first | (go_simp; done) | (go_simp; with_reducible rfl))
          try simp only [Act.put, List.setIfInBounds_toArray, List.set_cons_zero, List.set_cons_succ, List.getElem_toArray, List.getElem_cons_zero, List.getElem_cons_succ]
          refine wpAnyH_take (i := 35) (v := ?_) rfl (by kernel_rfl) (by kernel_rfl) (by kernel_rfl) (fun _ _ _ h => h) (Or.inl ⟨by rfl, ?_⟩) (by assumption) ?_
          rotate_left 1
          · (intro w hSw; (try dsimp only at hSw); first | (go_simp; done) | (go_simp; with_reducible rfl))
          try simp only [Act.put, List.setIfInBounds_toArray, List.set_cons_zero, List.set_cons_succ, List.getElem_toArray, List.getElem_cons_zero, List.getElem_cons_succ]
          refine wpAnyH_ready (rs := [32, 36]) (by kernel_rfl) (by simp) ?_
          refine AllReadyH.cons rfl (fun K hK => ?_) (AllReadyH.cons rfl (fun K hK => ?_) AllReadyH.nil)
          · go_simp
            go_at_call 18
            obtain ⟨o1, o2, o3, _, _⟩ := HL11.out.ps.over (updF_same _ _ _)
            have hcc := plround_any o1
            rw [HE.out.1] at hcc
            refine hcc.mono ?_
            clear hcc
            rw [if_neg (by have := HE.out.2.2.2.1; omega), HE.out.2.2.1]
            rintro e w12 ⟨rfl, rfl⟩
            clear o1 o2 o3
            try go_wp2_with fail
            refine hK.out _ _ ?_ (fun hHeld => ?_)
            · all_goals trivial
            clear hK K
            try simp only [Act.put, List.setIfInBounds_toArray, List.set_cons_zero, List.set_cons_succ, List.getElem_toArray, List.getElem_cons_zero, List.getElem_cons_succ]
            refine wpAnyH_ready (rs := [36]) (by kernel_rfl) (by simp) ?_
            refine AllReadyH.cons rfl (fun K hK => ?_) AllReadyH.nil
            go_simp
            skip
            try go_wp2_with fail
            refine hK.out _ _ ?_ (fun hHeld => ?_)
            · ((try dsimp only); all_goals trivial)
            clear hK K
            try simp only [Act.put, List.setIfInBounds_toArray, List.set_cons_zero, List.set_cons_succ, List.getElem_toArray, List.getElem_cons_zero, List.getElem_cons_succ]
            refine wpAnyH_take (i := 37) (v := ?_) rfl (by kernel_rfl) (by kernel_rfl) (by kernel_rfl) (fun _ _ _ h => h) (Or.inl ⟨by rfl, ?_⟩) (by assumption) ?_
            rotate_left 1
            · (intro w hSw; (try dsimp only at hSw); first | (go_simp; done) | (go_simp; with_reducible rfl))
            try simp only [Act.put, List.setIfInBounds_toArray, List.set_cons_zero, List.set_cons_succ, List.getElem_toArray, List.getElem_cons_zero, List.getElem_cons_succ]
            refine wpAnyH_take (i := 38) (v := ?_) rfl (by kernel_rfl) (by kernel_rfl) (by kernel_rfl) (fun _ _ _ h => h) (Or.inl ⟨by rfl, ?_⟩) (by assumption) ?_
            rotate_left 1
            · (intro w hSw; (try dsimp only at hSw); first | (go_simp; done) | (go_simp; with_reducible rfl))
            try simp only [Act.put, List.setIfInBounds_toArray, List.set_cons_zero, List.set_cons_succ, List.getElem_toArray, List.getElem_cons_zero, List.getElem_cons_succ]
            refine wpAnyH_done (by kernel_rfl) ?_ _
            go_wp2_with fail
            go_meet
            exact ⟨by first | rfl | simp, _, _, Lib.hid (by
              have h := HL11.out.drop (updF_same _ _ _) HE.out.2.2.2.2.2.1
              rwa [updF_none (f := fun _ => none) rfl] at h)⟩
          · go_simp
            try go_wp2_with fail
            refine hK.out _ _ ?_ (fun hHeld => ?_)
            · all_goals trivial
            clear hK K
            try simp only [Act.put, List.setIfInBounds_toArray, List.set_cons_zero, List.set_cons_succ, List.getElem_toArray, List.getElem_cons_zero, List.getElem_cons_succ]
            refine wpAnyH_ready (rs := [32]) (by kernel_rfl) (by simp) ?_
            refine AllReadyH.cons rfl (fun K hK => ?_) AllReadyH.nil
            go_simp
            go_at_call 18
            obtain ⟨o1, o2, o3, _, _⟩ := HL11.out.ps.over (updF_same _ _ _)
            have hcc := plround_any o1
            rw [HE.out.1] at hcc
            refine hcc.mono ?_
            clear hcc
            rw [if_neg (by have := HE.out.2.2.2.1; omega), HE.out.2.2.1]
            rintro e w12 ⟨rfl, rfl⟩
            clear o1 o2 o3
            try go_wp2_with fail
            refine hK.out _ _ ?_ (fun hHeld => ?_)
            · ((try dsimp only); all_goals trivial)
            clear hK K
            try simp only [Act.put, List.setIfInBounds_toArray, List.set_cons_zero, List.set_cons_succ, List.getElem_toArray, List.getElem_cons_zero, List.getElem_cons_succ]
            refine wpAnyH_take (i := 37) (v := ?_) rfl (by kernel_rfl) (by kernel_rfl) (by kernel_rfl) (fun _ _ _ h => h) (Or.inl ⟨by rfl, ?_⟩) (by assumption) ?_
            rotate_left 1
            · (intro w hSw; (try dsimp only at hSw); first | (go_simp; done) | (go_simp; with_reducible rfl))
            try simp only [Act.put, List.setIfInBounds_toArray, List.set_cons_zero, List.set_cons_succ, List.getElem_toArray, List.getElem_cons_zero, List.getElem_cons_succ]
            refine wpAnyH_take (i := 38) (v := ?_) rfl (by kernel_rfl) (by kernel_rfl) (by kernel_rfl) (fun _ _ _ h => h) (Or.inl ⟨by rfl, ?_⟩) (by assumption) ?_
            rotate_left 1
            · (intro w hSw; (try dsimp only at hSw); first | (go_simp; done) | (go_simp; with_reducible rfl))
            try simp only [Act.put, List.setIfInBounds_toArray, List.set_cons_zero, List.set_cons_succ, List.getElem_toArray, List.getElem_cons_zero, List.getElem_cons_succ]
            refine wpAnyH_done (by kernel_rfl) ?_ _
            go_wp2_with fail
            go_meet
            exact ⟨by first | rfl | simp, _, _, Lib.hid (by
              have h := HL11.out.drop (updF_same _ _ _) HE.out.2.2.2.2.2.1
              rwa [updF_none (f := fun _ => none) rfl] at h)⟩
        case rest =>
          obtain ⟨rfl, zs5, M5, HL5⟩ := hcut
          clear H4 HF
          have HG5 : Hid (Cg (12000 * ((i + 1 : Nat) : Int)) (12 * (i + 1)) [] ∧ 0 ≤ rnd + 1 ∧ rnd + 1 ≤ ((i + 1 : Nat) : Int)) := Lib.hid ⟨cg_nil (by omega), by have := HG.out; omega, by have := HG.out; omega⟩
          obtain ⟨_, d1, _, _⟩ := HL5.out.rs.cell
          go_upto_region 17 with fail
          have HD := Lib.hid (HL5.out.below (Below.refl _ _).drew)
          refine wp_region_held_drew (S := (fun w' => w'.cell? ⟨r, 1, none⟩ = some (.int .u64 (rnd + 1)))) (by kernel_rfl) ?_ (fun hHeld => ?_)
          · ((try dsimp only); exact d1)
          refine wpAnyH_take (i := 0) (v := ?_) rfl (by kernel_rfl) (by kernel_rfl) (by kernel_rfl) (fun _ _ _ h => h) (Or.inl ⟨by rfl, ?_⟩) (by assumption) ?_
          rotate_left 1
          · (intro w hSw; (try dsimp only at hSw); first | (go_simp; done) | (go_simp; with_reducible rfl))
          try simp only [Act.put, List.setIfInBounds_toArray, List.set_cons_zero, List.set_cons_succ, List.getElem_toArray, List.getElem_cons_zero]
          refine wpAnyH_take (i := 2) (v := ?_) rfl (by kernel_rfl) (by kernel_rfl) (by kernel_rfl) (fun _ _ _ h => h) (Or.inl ⟨by rfl, ?_⟩) (by assumption) ?_
          rotate_left 1
          · (intro w hSw; (try dsimp only at hSw); first | (go_simp; done) | (go_simp; with_reducible rfl))
          try simp only [Act.put, List.setIfInBounds_toArray, List.set_cons_zero, List.set_cons_succ, List.getElem_toArray, List.getElem_cons_zero, List.getElem_cons_succ]
          refine wpAnyH_take (i := 3) (v := ?_) rfl (by kernel_rfl) (by kernel_rfl) (by kernel_rfl) (fun _ _ _ h => h) (Or.inl ⟨by rfl, ?_⟩) (by assumption) ?_
          rotate_left 1
          · (intro w hSw; (try dsimp only at hSw); first | (go_simp; done) | (go_simp; with_reducible rfl))
          try simp only [Act.put, List.setIfInBounds_toArray, List.set_cons_zero, List.set_cons_succ, List.getElem_toArray, List.getElem_cons_zero, List.getElem_cons_succ]
          refine wpAnyH_take (i := 4) (v := ?_) rfl (by kernel_rfl) (by kernel_rfl) (by kernel_rfl) (fun _ _ _ h => h) (Or.inl ⟨by rfl, ?_⟩) (by assumption) ?_
          rotate_left 1
          · (intro w hSw; (try dsimp only at hSw); first | (go_simp; done) | (go_simp; with_reducible rfl))
          try simp only [Act.put, List.setIfInBounds_toArray, List.set_cons_zero, List.set_cons_succ, List.getElem_toArray, List.getElem_cons_zero, List.getElem_cons_succ]
          refine wpAnyH_take (i := 5) (v := ?_) rfl (by kernel_rfl) (by kernel_rfl) (by kernel_rfl) (fun _ _ _ h => h) (Or.inl ⟨by rfl, ?_⟩) (by assumption) ?_
          rotate_left 1
          · (intro w hSw; (try dsimp only at hSw); first | (go_simp; done) | (go_simp; with_reducible rfl))
          try simp only [Act.put, List.setIfInBounds_toArray, List.set_cons_zero, List.set_cons_succ, List.getElem_toArray, List.getElem_cons_zero, List.getElem_cons_succ]
          refine wpAnyH_ready (rs := [1]) (by kernel_rfl) (by simp) ?_
          refine AllReadyH.cons rfl (fun K hK => ?_) AllReadyH.nil
          go_simp
          go_at_call 23
          refine (plround_ps HD.out.ps (by omega) HN.out.2).mono ?_
          rintro e w20 ⟨rfl, hkx, hp⟩
          have H20 := Lib.hid (HD.out.keep hkx hp)
          clear hkx hp HD
          try go_wp2_with fail
          refine hK.out _ _ ?_ (fun hHeld => ?_)
          · ((try dsimp only); exact H20.out.rs.cell.2.1)
          clear hK K
          try simp only [Act.put, List.setIfInBounds_toArray, List.set_cons_zero, List.set_cons_succ, List.getElem_toArray, List.getElem_cons_zero, List.getElem_cons_succ]
          refine wpAnyH_take (i := 6) (v := ?_) rfl (by kernel_rfl) (by kernel_rfl) (by kernel_rfl) (fun _ _ _ h => h) (Or.inl ⟨by rfl, ?_⟩) (by assumption) ?_
          rotate_left 1
          · (intro w hSw; (try dsimp only at hSw); first | (go_simp; done) | (go_simp; with_reducible rfl))
          try simp only [Act.put, List.setIfInBounds_toArray, List.set_cons_zero, List.set_cons_succ, List.getElem_toArray, List.getElem_cons_zero, List.getElem_cons_succ]
          refine wpAnyH_done (by kernel_rfl) ?_ _
          go_wp2_with fail
          have hwk : ∀ k : Nat, k ≤ 8 → IntKind.i64.wrap ((k : Int) + 1) = ((k + 1 : Nat) : Int) := fun k hk => by rw [w_id ⟨by omega, by omega⟩]; omega
          go_loopg [13] (n + 2) (fun m t wy => ∃ k : Nat, k + m = n + 2 ∧ k ≤ n + 1 ∧ t = .int .i64 (k : Int) ∧ Hid (w20 = wy))
          case atStart => exact ⟨0, by omega, by omega, rfl, Lib.hid rfl⟩
          case round =>
            obtain ⟨k, hkm, hkn, rfl, HW⟩ := hrel
            obtain rfl := HW.out
            by_cases hk : k ≤ n
            · have hk' : (k : Int) ≤ (n : Int) := by omega
              have hw := hwk k (by have := HN.out; omega)
              have HKM := Lib.hid (And.intro hkm hk)
              clear hwk hkm
              go_wp2_with fail
              go_at_call 24
              refine (plhold_ps (i := k) H20.out.ps (by omega) HN.out.2 (fun _ => rfl) (fun _ => rfl) hk).mono ?_
              rintro e w21 ⟨rfl, rfl⟩
              go_wp2_with fail
              go_roundg (gk - 1)
              case measure => have := HKM.out; omega
              case rel => exact ⟨k + 1, by have := HKM.out; omega, by omega, by first | rfl | simp, Lib.hid rfl⟩
            · have hk' : ¬ (k : Int) ≤ (n : Int) := by omega
              clear hwk
              go_wp2_with fail
              go_roundg (59 - i)
              case measure => have := HIK.out; have := HI.out; omega
              case rel => exact ⟨i + 1, _, _, _, _, _, by have := HIK.out; have := HI.out; omega, by have := HI.out; omega, by simp, Lib.hid (H20.out.more (by omega)), HG5⟩
      · rw [hd] at c0
        go_wp2_with fail
        go_at_call 19
        refine (Batch.fix_any HRL.out).mono ?_
        rintro e w4 ⟨v1, rfl, ho1, hb4⟩
        have hnice := Batch.fix_nice HRL.out.wf
        obtain ⟨bL, hbL⟩ : ∃ bL, Batch.fixL jb.l = bL := ⟨_, rfl⟩
        rw [hbL] at ho1 hnice
        have HCB := Lib.hid (nice_cg hnice)
        have HV1 := Lib.hid (ho1.sl hnice.wf)
        obtain ⟨zs4, _, _, hla4⟩ := HL.out.withX hb4 (fun g hg => World.ownsRow.lt ho1 g hg)
        have H4 := Lib.hid hla4
        obtain ⟨v1o, v1n, v1c, rfl⟩ := own_open ho1
        clear hla4
        clear ho1 hb4 c0 c1 HRL HL hbL hnice
        have htm := tmod4 i
        go_wp2_with fail
        go_at_call 21
        refine (Batch.to_any HV1.out.rd (by have := HCB.out.len; omega)).mono ?_
        rintro e w5 ⟨v2, rfl, ho2, hb5⟩
        have HV2 := Lib.hid (ho2.sl HCB.out.wf)
        have HV1' := Lib.hid (HV1.out.below hb5)
        have H5 := Lib.hid (H4.out.below hb5)
        clear ho2 hb5 HV1 H4
        go_wp2_with fail
        go_at_call 20
        try rw [htm]
        refine (ps_put (k := i % 4) H5.out.ps rfl HN.out HV2.out HCB.out).mono ?_
        rintro e w6 ⟨X, zs6, rfl, _, hfr, _, _, hkx, hp⟩
        have HF := Lib.hid hfr
        have H6' := Lib.hid (H5.out.keep hkx hp)
        have HV6 := Lib.hid (blk_sl HV1'.out (fun g hg => hkx.2 g (by simp [hg])))
        clear hfr hkx hp H5 HV2 HV1' htm
        go_upto_region 15 with fail
        have HD := Lib.hid (H6'.out.below (Below.refl _ _).drew)
        replace HV6 := Lib.hid (HV6.out.below (Below.refl _ _).drew)
        have HM := Lib.hid (HG.out.1.merge HCB.out (by omega))
        clear H6'
        have d1 := HD.out.rs.cell.2.1
        refine wp_region_held_drew (S := (fun w' => w'.cell? ⟨r, 1, none⟩ = some (.int .u64 rnd))) (by kernel_rfl) ?_ (fun hHeld => ?_)
        · ((try dsimp only); exact d1)
        refine wpAnyH_take (i := 0) (v := ?_) rfl (by kernel_rfl) (by kernel_rfl) (by kernel_rfl) (fun _ _ _ h => h) (Or.inl ⟨by rfl, ?_⟩) (by assumption) ?_
        rotate_left 1
        · (intro w hSw; (try dsimp only at hSw); first | (go_simp; done) | (go_simp; with_reducible rfl))
        try simp only [Act.put, List.setIfInBounds_toArray, List.set_cons_zero, List.set_cons_succ, List.getElem_toArray, List.getElem_cons_zero]
        refine wpAnyH_take (i := 1) (v := ?_) rfl (by kernel_rfl) (by kernel_rfl) (by kernel_rfl) (fun _ _ _ h => h) (Or.inl ⟨by rfl, ?_⟩) (by assumption) ?_
        rotate_left 1
        · (intro w hSw; (try dsimp only at hSw); first | (go_simp; done) | (go_simp; with_reducible rfl))
        try simp only [Act.put, List.setIfInBounds_toArray, List.set_cons_zero, List.set_cons_succ, List.getElem_toArray, List.getElem_cons_zero, List.getElem_cons_succ]
        refine wpAnyH_take (i := 2) (v := ?_) rfl (by kernel_rfl) (by kernel_rfl) (by kernel_rfl) (fun _ _ _ h => h) (Or.inl ⟨by rfl, ?_⟩) (by assumption) ?_
        rotate_left 1
        · (intro w hSw; (try dsimp only at hSw); first | (go_simp; done) | (go_simp; with_reducible rfl))
        try simp only [Act.put, List.setIfInBounds_toArray, List.set_cons_zero, List.set_cons_succ, List.getElem_toArray, List.getElem_cons_zero, List.getElem_cons_succ]
        refine wpAnyH_take (i := 3) (v := ?_) rfl (by kernel_rfl) (by kernel_rfl) (by kernel_rfl) (fun _ _ _ h => h) (Or.inl ⟨by rfl, ?_⟩) (by assumption) ?_
        rotate_left 1
        · (intro w hSw; (try dsimp only at hSw); first | (go_simp; done) | (go_simp; with_reducible rfl))
        try simp only [Act.put, List.setIfInBounds_toArray, List.set_cons_zero, List.set_cons_succ, List.getElem_toArray, List.getElem_cons_zero, List.getElem_cons_succ]
        refine wpAnyH_ready (rs := [4]) (by kernel_rfl) (by simp) ?_
        refine AllReadyH.cons rfl (fun K hK => ?_) AllReadyH.nil
        go_simp
        go_at_call 10
        obtain ⟨o1, o2, _, _, o5⟩ := HD.out.ps.over (updF_same _ _ _)
        refine (plover_any o1 o2).mono ?_
        have h3 : 1 ≤ X.e := by unfold Ax.e eN; split <;> omega
        rw [decide_eq_false (fun e => by have := o5.1 e; rw [HF.out.hj] at this; omega)]
        rintro e w5 ⟨rfl, rfl⟩
        clear o1 o2 o5 h3
        try go_wp2_with fail
        refine hK.out _ _ ?_ (fun hHeld => ?_)
        · ((try dsimp only); first | exact HD.out.rs.cell.2.1 | exact HR6.out.cell.2.1 | exact HL10.out.rs.cell.2.1 | exact HL13.out.rs.cell.2.1)
        clear hK K
        try simp only [Act.put, List.setIfInBounds_toArray, List.set_cons_zero, List.set_cons_succ, List.getElem_toArray, List.getElem_cons_zero, List.getElem_cons_succ]
        refine wpAnyH_take (i := 5) (v := ?_) rfl (by kernel_rfl) (by kernel_rfl) (by kernel_rfl) (fun _ _ _ h => h) (Or.inl ⟨by rfl, ?_⟩) (by assumption) ?_
        rotate_left 1
        · (intro w hSw; (try dsimp only at hSw); first | (go_simp; done) | (go_simp; with_reducible rfl))
        try simp only [Act.put, List.setIfInBounds_toArray, List.set_cons_zero, List.set_cons_succ, List.getElem_toArray, List.getElem_cons_zero, List.getElem_cons_succ]
        refine wpAnyH_take (i := 6) (v := ?_) rfl (by kernel_rfl) (by kernel_rfl) (by kernel_rfl) (fun _ _ _ h => h) (Or.inl ⟨by rfl, ?_⟩) (by assumption) ?_
        rotate_left 1
        · (intro w hSw; (try dsimp only at hSw); first | (go_simp; done) | (go_simp; with_reducible rfl))
        try simp only [Act.put, List.setIfInBounds_toArray, List.set_cons_zero, List.set_cons_succ, List.getElem_toArray, List.getElem_cons_zero, List.getElem_cons_succ]
        refine wpAnyH_take (i := 7) (v := ?_) rfl (by kernel_rfl) (by kernel_rfl) (by kernel_rfl) (fun _ _ _ h => h) (Or.inl ⟨by rfl, ?_⟩) (by assumption) ?_
        rotate_left 1
        · (intro w hSw; (try dsimp only at hSw); first | (go_simp; done) | (go_simp; with_reducible rfl))
        try simp only [Act.put, List.setIfInBounds_toArray, List.set_cons_zero, List.set_cons_succ, List.getElem_toArray, List.getElem_cons_zero, List.getElem_cons_succ]
        refine wpAnyH_ready (rs := [8]) (by kernel_rfl) (by simp) ?_
        refine AllReadyH.cons rfl (fun K hK => ?_) AllReadyH.nil
        go_simp
        go_at_call 12
        refine (ps_finish (KC := 12000 * 60) (NC := 720) HD.out.ps (fun _ => rfl) (fun _ => rfl) HN.out (by omega) (by omega) (HG.out.1.more (by omega) (by omega)) (by rw [HF.out.hb]; exact HCB.out) (by decide) (by decide) (by decide) (by have := HG.out; omega) HF.out.hj (fresh_m HF.out HN.out.2)).mono ?_
        rintro e w6 ⟨rfl, Y, ys, N6, ea, eok, erd, emk, eT, eTp, eD, ej, _, _, hkx, hp⟩
        have hC : aftC X C = sumsR (C ++ bL) := by unfold aftC; rw [HF.out.hdr, HF.out.hb]; rfl
        have hR : aftR X rnd = rnd := by unfold aftR; rw [HF.out.hdr]; rfl
        have hT := (eTp HF.out.hdr).trans HF.out.hT
        rw [hC, hR] at hp
        rw [hR] at erd
        have H6 := Lib.hid hp
        have HR6 := Lib.hid (HD.out.rs.of_block (hkx.2 r (List.mem_cons_self ..)))
        have HB6 := Lib.hid (blk_sl HD.out.bs (fun g hg => hkx.2 g (by simp [hg])))
        have HW6 := Lib.hid (blk_sl HV6.out (fun g hg => hkx.2 g (by simp [hg])))
        have HE := Lib.hid (And.intro ea (And.intro eok (And.intro erd (And.intro emk (And.intro eD (And.intro ej hT))))))
        have HNX := Lib.hid HD.out.nx
        clear ea eok erd emk eT eTp eD ej hT hC hR hp hkx HD HF HV6
        try go_wp2_with fail
        refine hK.out _ _ ?_ (fun hHeld => ?_)
        · ((try dsimp only); first | exact HD.out.rs.cell.2.1 | exact HR6.out.cell.2.1 | exact HL10.out.rs.cell.2.1 | exact HL13.out.rs.cell.2.1)
        clear hK K
        try simp only [Act.put, List.setIfInBounds_toArray, List.set_cons_zero, List.set_cons_succ, List.getElem_toArray, List.getElem_cons_zero, List.getElem_cons_succ]
        refine wpAnyH_take (i := 9) (v := ?_) rfl (by kernel_rfl) (by kernel_rfl) (by kernel_rfl) (fun _ _ _ h => h) (Or.inl ⟨by rfl, ?_⟩) (by assumption) ?_
        rotate_left 1
        · (intro w hSw; (try dsimp only at hSw); first | (go_simp; done) | (go_simp; with_reducible rfl))
        try simp only [Act.put, List.setIfInBounds_toArray, List.set_cons_zero, List.set_cons_succ, List.getElem_toArray, List.getElem_cons_zero, List.getElem_cons_succ]
        refine wpAnyH_take (i := 10) (v := ?_) rfl (by kernel_rfl) (by kernel_rfl) (by kernel_rfl) (fun _ _ _ h => h) (Or.inl ⟨by rfl, ?_⟩) (by assumption) ?_
        rotate_left 1
        · (intro w hSw; (try dsimp only at hSw); first | (go_simp; done) | (go_simp; with_reducible rfl))
        try simp only [Act.put, List.setIfInBounds_toArray, List.set_cons_zero, List.set_cons_succ, List.getElem_toArray, List.getElem_cons_zero, List.getElem_cons_succ]
        refine wpAnyH_take (i := 11) (v := ?_) rfl (by kernel_rfl) (by kernel_rfl) (by kernel_rfl) (fun _ _ _ h => h) (Or.inl ⟨by rfl, ?_⟩) (by assumption) ?_
        rotate_left 1
        · (intro w hSw; (try dsimp only at hSw); first | (go_simp; done) | (go_simp; with_reducible rfl))
        try simp only [Act.put, List.setIfInBounds_toArray, List.set_cons_zero, List.set_cons_succ, List.getElem_toArray, List.getElem_cons_zero, List.getElem_cons_succ]
        refine wpAnyH_take (i := 12) (v := ?_) rfl (by kernel_rfl) (by kernel_rfl) (by kernel_rfl) (fun _ _ _ h => h) (Or.inl ⟨by rfl, ?_⟩) (by assumption) ?_
        rotate_left 1
        · (intro w hSw; (try dsimp only at hSw); first | (go_simp; done) | (go_simp; with_reducible rfl))
        try simp only [Act.put, List.setIfInBounds_toArray, List.set_cons_zero, List.set_cons_succ, List.getElem_toArray, List.getElem_cons_zero, List.getElem_cons_succ]
        refine wpAnyH_take (i := 14) (v := ?_) rfl (by kernel_rfl) (by kernel_rfl) (by kernel_rfl) (fun _ _ _ h => h) (Or.inl ⟨by rfl, ?_⟩) (by assumption) ?_
        rotate_left 1
        · (intro w hSw; (try dsimp only at hSw); first | (go_simp; done) | (go_simp; with_reducible rfl))
        try simp only [Act.put, List.setIfInBounds_toArray, List.set_cons_zero, List.set_cons_succ, List.getElem_toArray, List.getElem_cons_zero, List.getElem_cons_succ]
        refine wpAnyH_take (i := 15) (v := ?_) rfl (by kernel_rfl) (by kernel_rfl) (by kernel_rfl) (fun _ _ _ h => h) (Or.inl ⟨by rfl, ?_⟩) (by assumption) ?_
        rotate_left 1
        · (intro w hSw; (try dsimp only at hSw); first | (go_simp; done) | (go_simp; with_reducible rfl))
        try simp only [Act.put, List.setIfInBounds_toArray, List.set_cons_zero, List.set_cons_succ, List.getElem_toArray, List.getElem_cons_zero, List.getElem_cons_succ]
        refine wpAnyH_ready (rs := [13]) (by kernel_rfl) (by simp) ?_
        refine AllReadyH.cons rfl (fun K hK => ?_) AllReadyH.nil
        go_simp
        go_at_call 13
        obtain ⟨o1, o2, _, _, _⟩ := H6.out.over (updF_same _ _ _)
        have hcc := plok_any o1 o2
        rw [HE.out.1] at hcc
        refine hcc.mono ?_
        clear hcc
        rw [HE.out.2.1, decide_eq_true HE.out.2.2.2.2.1]
        rintro e w7 ⟨rfl, rfl⟩
        clear o1 o2
        try go_wp2_with fail
        refine hK.out _ _ ?_ (fun hHeld => ?_)
        · ((try dsimp only); first | exact HD.out.rs.cell.2.1 | exact HR6.out.cell.2.1 | exact HL10.out.rs.cell.2.1 | exact HL13.out.rs.cell.2.1)
        clear hK K
        try simp only [Act.put, List.setIfInBounds_toArray, List.set_cons_zero, List.set_cons_succ, List.getElem_toArray, List.getElem_cons_zero, List.getElem_cons_succ]
        refine wpAnyH_ready (rs := [16]) (by kernel_rfl) (by simp) ?_
        refine AllReadyH.cons rfl (fun K hK => ?_) AllReadyH.nil
        go_simp
        go_at_call 22
        refine (refput_any HR6.out HB6.out HW6.out (by have := HG.out.1.len; have := HCB.out.len; omega) HM.out.1).mono ?_
        rintro e w10 ⟨rfl, v', w1', ho, hb, rfl⟩
        obtain ⟨zs10, _, _, hla⟩ := La.wasput HR6.out H6.out HNX.out hb ho HM.out.2.1.wf
        have HL10 := Lib.hid hla
        clear hla ho hb H6 HR6 HB6 HW6
        generalize w1'.setCell ⟨r, 0, none⟩ v' = w10 at *
        try go_wp2_with fail
        refine hK.out _ _ ?_ (fun hHeld => ?_)
        · ((try dsimp only); first | exact HD.out.rs.cell.2.1 | exact HR6.out.cell.2.1 | exact HL10.out.rs.cell.2.1 | exact HL13.out.rs.cell.2.1)
        clear hK K
        try simp only [Act.put, List.setIfInBounds_toArray, List.set_cons_zero, List.set_cons_succ, List.getElem_toArray, List.getElem_cons_zero, List.getElem_cons_succ]
        refine wpAnyH_take (i := 17) (v := ?_) rfl (by kernel_rfl) (by kernel_rfl) (by kernel_rfl) (fun _ _ _ h => h) (Or.inl ⟨by rfl, ?_⟩) (by assumption) ?_
        rotate_left 1
        · (intro w hSw; (try dsimp only at hSw); first | (go_simp; done) | (go_simp; with_reducible rfl))
        try simp only [Act.put, List.setIfInBounds_toArray, List.set_cons_zero, List.set_cons_succ, List.getElem_toArray, List.getElem_cons_zero, List.getElem_cons_succ]
        refine wpAnyH_take (i := 18) (v := ?_) rfl (by kernel_rfl) (by kernel_rfl) (by kernel_rfl) (fun _ _ _ h => h) (Or.inl ⟨by rfl, ?_⟩) (by assumption) ?_
        rotate_left 1
        · (intro w hSw; (try dsimp only at hSw); first | (go_simp; done) | (go_simp; with_reducible rfl))
        try simp only [Act.put, List.setIfInBounds_toArray, List.set_cons_zero, List.set_cons_succ, List.getElem_toArray, List.getElem_cons_zero, List.getElem_cons_succ]
        refine wpAnyH_take (i := 19) (v := ?_) rfl (by kernel_rfl) (by kernel_rfl) (by kernel_rfl) (fun _ _ _ h => h) (Or.inl ⟨by rfl, ?_⟩) (by assumption) ?_
        rotate_left 1
        · (intro w hSw; (try dsimp only at hSw); first | (go_simp; done) | (go_simp; with_reducible rfl))
        try simp only [Act.put, List.setIfInBounds_toArray, List.set_cons_zero, List.set_cons_succ, List.getElem_toArray, List.getElem_cons_zero, List.getElem_cons_succ]
        refine wpAnyH_take (i := 20) (v := ?_) rfl (by kernel_rfl) (by kernel_rfl) (by kernel_rfl) (fun _ _ _ h => h) (Or.inl ⟨by rfl, ?_⟩) (by assumption) ?_
        rotate_left 1
        · (intro w hSw; (try dsimp only at hSw); first | (go_simp; done) | (go_simp; with_reducible rfl))
        try simp only [Act.put, List.setIfInBounds_toArray, List.set_cons_zero, List.set_cons_succ, List.getElem_toArray, List.getElem_cons_zero, List.getElem_cons_succ]
        refine wpAnyH_take (i := 22) (v := ?_) rfl (by kernel_rfl) (by kernel_rfl) (by kernel_rfl) (fun _ _ _ h => h) (Or.inl ⟨by rfl, ?_⟩) (by assumption) ?_
        rotate_left 1
        · (intro w hSw; (try dsimp only at hSw); first | (go_simp; done) | (go_simp; with_reducible rfl))
        try simp only [Act.put, List.setIfInBounds_toArray, List.set_cons_zero, List.set_cons_succ, List.getElem_toArray, List.getElem_cons_zero, List.getElem_cons_succ]
        refine wpAnyH_take (i := 23) (v := ?_) rfl (by kernel_rfl) (by kernel_rfl) (by kernel_rfl) (fun _ _ _ h => h) (Or.inl ⟨by rfl, ?_⟩) (by assumption) ?_
        rotate_left 1
        · (intro w hSw; (try dsimp only at hSw); first | (go_simp; done) | (go_simp; with_reducible rfl))
        try simp only [Act.put, List.setIfInBounds_toArray, List.set_cons_zero, List.set_cons_succ, List.getElem_toArray, List.getElem_cons_zero, List.getElem_cons_succ]
        refine wpAnyH_take (i := 24) (v := ?_) rfl (by kernel_rfl) (by kernel_rfl) (by kernel_rfl) (fun _ _ _ h => h) (Or.inl ⟨by rfl, ?_⟩) (by assumption) ?_
        rotate_left 1
        · (intro w hSw; (try dsimp only at hSw); first | (go_simp; done) | (go_simp; with_reducible rfl))
        try simp only [Act.put, List.setIfInBounds_toArray, List.set_cons_zero, List.set_cons_succ, List.getElem_toArray, List.getElem_cons_zero, List.getElem_cons_succ]
        refine wpAnyH_take (i := 25) (v := ?_) rfl (by kernel_rfl) (by kernel_rfl) (by kernel_rfl) (fun _ _ _ h => h) (Or.inl ⟨by rfl, ?_⟩) (by assumption) ?_
        rotate_left 1
        · (intro w hSw; (try dsimp only at hSw); first | (go_simp; done) | (go_simp; with_reducible rfl))
        try simp only [Act.put, List.setIfInBounds_toArray, List.set_cons_zero, List.set_cons_succ, List.getElem_toArray, List.getElem_cons_zero, List.getElem_cons_succ]
        refine wpAnyH_ready (rs := [21]) (by kernel_rfl) (by simp) ?_
        refine AllReadyH.cons rfl (fun K hK => ?_) AllReadyH.nil
        go_simp
        go_at_call 18
        obtain ⟨o1, o2, o3, _, _⟩ := HL10.out.ps.over (updF_same _ _ _)
        have hcc := plround_any o1
        rw [HE.out.1] at hcc
        refine hcc.mono ?_
        clear hcc
        rw [if_neg (by have := HE.out.2.2.2.1; omega), HE.out.2.2.1]
        rintro e w12 ⟨rfl, rfl⟩
        clear o1 o2 o3
        try go_wp2_with fail
        refine hK.out _ _ ?_ (fun hHeld => ?_)
        · ((try dsimp only); first | exact HD.out.rs.cell.2.1 | exact HR6.out.cell.2.1 | exact HL10.out.rs.cell.2.1 | exact HL13.out.rs.cell.2.1)
        clear hK K
        try simp only [Act.put, List.setIfInBounds_toArray, List.set_cons_zero, List.set_cons_succ, List.getElem_toArray, List.getElem_cons_zero, List.getElem_cons_succ]
        refine wpAnyH_take (i := 26) (v := ?_) rfl (by kernel_rfl) (by kernel_rfl) (by kernel_rfl) (fun _ _ _ h => h) (Or.inl ⟨by rfl, ?_⟩) (by assumption) ?_
        rotate_left 1
        · (intro w hSw; (try dsimp only at hSw); first | (go_simp; done) | (go_simp; with_reducible rfl))
        try simp only [Act.put, List.setIfInBounds_toArray, List.set_cons_zero, List.set_cons_succ, List.getElem_toArray, List.getElem_cons_zero, List.getElem_cons_succ]
        refine wpAnyH_take (i := 27) (v := ?_) rfl (by kernel_rfl) (by kernel_rfl) (by kernel_rfl) (fun _ _ _ h => h) (Or.inl ⟨by rfl, ?_⟩) (by assumption) ?_
        rotate_left 1
        · (intro w hSw; (try dsimp only at hSw); first | (go_simp; done) | (go_simp; with_reducible rfl))
        try simp only [Act.put, List.setIfInBounds_toArray, List.set_cons_zero, List.set_cons_succ, List.getElem_toArray, List.getElem_cons_zero, List.getElem_cons_succ]
        refine wpAnyH_take (i := 28) (v := ?_) rfl (by kernel_rfl) (by kernel_rfl) (by kernel_rfl) (fun _ _ _ h => h) (Or.inl ⟨by rfl, ?_⟩) (by assumption) ?_
        rotate_left 1
        · (intro w hSw; (try dsimp only at hSw); first | (go_simp; done) | (go_simp; with_reducible rfl))
        try simp only [Act.put, List.setIfInBounds_toArray, List.set_cons_zero, List.set_cons_succ, List.getElem_toArray, List.getElem_cons_zero, List.getElem_cons_succ]
        refine wpAnyH_take (i := 29) (v := ?_) rfl (by kernel_rfl) (by kernel_rfl) (by kernel_rfl) (fun _ _ _ h => h) (Or.inl ⟨by rfl, ?_⟩) (by assumption) ?_
        rotate_left 1
        · (intro w hSw; (try dsimp only at hSw); first | (go_simp; done) | (go_simp; with_reducible rfl))
        try simp only [Act.put, List.setIfInBounds_toArray, List.set_cons_zero, List.set_cons_succ, List.getElem_toArray, List.getElem_cons_zero, List.getElem_cons_succ]
        refine wpAnyH_ready (rs := [30]) (by kernel_rfl) (by simp) ?_
        refine AllReadyH.cons rfl (fun K hK => ?_) AllReadyH.nil
        go_simp
        go_at_call 16
        obtain ⟨o1, o2, o3, _, _⟩ := HL10.out.ps.over (updF_same _ _ _)
        rw [HE.out.2.2.2.2.2.2] at o3
        have hcc := plbatch_any o1 o2 o3 HE.out.2.1 HE.out.2.2.2.2.1 (by decide)
        rw [HE.out.1] at hcc
        refine hcc.mono ?_
        clear hcc
        rintro e w13 ⟨v13, rfl, ho, hb⟩
        obtain ⟨b13, c13, rfl⟩ : ∃ ao c, v13 = .slice ao 0 c := by
          rcases ho.form with ⟨_, hv⟩ | ⟨g13, cap13, hv, _⟩
          · exact ⟨_, _, hv⟩
          · exact ⟨_, _, hv⟩
        have HL13 := Lib.hid (HL10.out.below hb)
        clear ho hb o1 o2 o3 HL10
        try go_wp2_with fail
        refine hK.out _ _ ?_ (fun hHeld => ?_)
        · ((try dsimp only); first | exact HD.out.rs.cell.2.1 | exact HR6.out.cell.2.1 | exact HL10.out.rs.cell.2.1 | exact HL13.out.rs.cell.2.1)
        clear hK K
        try simp only [Act.put, List.setIfInBounds_toArray, List.set_cons_zero, List.set_cons_succ, List.getElem_toArray, List.getElem_cons_zero, List.getElem_cons_succ]
        refine wpAnyH_take (i := 31) (v := ?_) rfl (by kernel_rfl) (by kernel_rfl) (by kernel_rfl) (fun _ _ _ h => h) (Or.inl ⟨by rfl, ?_⟩) (by assumption) ?_
        rotate_left 1
        · (intro w hSw; (try dsimp only at hSw); first | (go_simp; done) | (go_simp; with_reducible rfl))
        try simp only [Act.put, List.setIfInBounds_toArray, List.set_cons_zero, List.set_cons_succ, List.getElem_toArray, List.getElem_cons_zero, List.getElem_cons_succ]
        refine wpAnyH_take (i := 32) (v := ?_) rfl (by kernel_rfl) (by kernel_rfl) (by kernel_rfl) (fun _ _ _ h => h) (Or.inl ⟨by rfl, ?_⟩) (by assumption) ?_
        rotate_left 1
        · (intro w hSw; (try dsimp only at hSw); first | (go_simp; done) | (go_simp; with_reducible rfl))
        try simp only [Act.put, List.setIfInBounds_toArray, List.set_cons_zero, List.set_cons_succ, List.getElem_toArray, List.getElem_cons_zero, List.getElem_cons_succ]
        refine wpAnyH_take (i := 33) (v := ?_) rfl (by kernel_rfl) (by kernel_rfl) (by kernel_rfl) (fun _ _ _ h => h) (Or.inl ⟨by rfl, ?_⟩) (by assumption) ?_
        rotate_left 1
        · (intro w hSw; (try dsimp only at hSw); first | (go_simp; done) | (go_simp; with_reducible rfl))
        try simp only [Act.put, List.setIfInBounds_toArray, List.set_cons_zero, List.set_cons_succ, List.getElem_toArray, List.getElem_cons_zero, List.getElem_cons_succ]
        refine wpAnyH_take (i := 34) (v := ?_) rfl (by kernel_rfl) (by kernel_rfl) (by kernel_rfl) (fun _ _ _ h => h) (Or.inl ⟨by rfl, ?_⟩) (by assumption) ?_
        rotate_left 1
        · (intro w hSw; (try dsimp only at hSw); first | (go_simp; done) | (go_simp; with_reducible rfl))
        try simp only [Act.put, List.setIfInBounds_toArray, List.set_cons_zero, List.set_cons_succ, List.getElem_toArray, List.getElem_cons_zero, List.getElem_cons_succ]
        refine wpAnyH_take (i := 35) (v := ?_) rfl (by kernel_rfl) (by kernel_rfl) (by kernel_rfl) (fun _ _ _ h => h) (Or.inl ⟨by rfl, ?_⟩) (by assumption) ?_
        rotate_left 1
        · (intro w hSw; (try dsimp only at hSw); first | (go_simp; done) | (go_simp; with_reducible rfl))
        try simp only [Act.put, List.setIfInBounds_toArray, List.set_cons_zero, List.set_cons_succ, List.getElem_toArray, List.getElem_cons_zero, List.getElem_cons_succ]
        refine wpAnyH_ready (rs := [36]) (by kernel_rfl) (by simp) ?_
        refine AllReadyH.cons rfl (fun K hK => ?_) AllReadyH.nil
        go_simp
        go_at_call 11
        obtain ⟨o1, o2, _, _, o5⟩ := HL13.out.ps.over (updF_same _ _ _)
        have hcc := plmark_any o1
        rw [HE.out.1] at hcc
        refine hcc.mono ?_
        clear hcc
        rintro e w14 ⟨rfl, rfl⟩
        have hmk1 : ¬ Y.A.mk' < 1 := by have := HE.out.2.2.2.1; omega
        clear o1 o2 o5
        try go_wp2_with fail
        refine hK.out _ _ ?_ (fun hHeld => ?_)
        · ((try dsimp only); first | exact HD.out.rs.cell.2.1 | exact HR6.out.cell.2.1 | exact HL10.out.rs.cell.2.1 | exact HL13.out.rs.cell.2.1)
        clear hK K
        try simp only [Act.put, List.setIfInBounds_toArray, List.set_cons_zero, List.set_cons_succ, List.getElem_toArray, List.getElem_cons_zero, List.getElem_cons_succ]
        refine wpAnyH_take (i := 37) (v := ?_) rfl (by kernel_rfl) (by kernel_rfl) (by kernel_rfl) (fun _ _ _ h => h) (Or.inl ⟨by rfl, ?_⟩) (by assumption) ?_
        rotate_left 1
        · (intro w hSw; (try dsimp only at hSw); first | (go_simp; done) | (go_simp; with_reducible rfl))
        try simp only [Act.put, List.setIfInBounds_toArray, List.set_cons_zero, List.set_cons_succ, List.getElem_toArray, List.getElem_cons_zero, List.getElem_cons_succ]
        refine wpAnyH_take (i := 38) (v := ?_) rfl (by kernel_rfl) (by kernel_rfl) (by kernel_rfl) (fun _ _ _ h => h) (Or.inl ⟨by rfl, ?_⟩) (by assumption) ?_
        rotate_left 1
        · (intro w hSw; (try dsimp only at hSw); first | (go_simp; done) | (go_simp; with_reducible rfl))
        try simp only [Act.put, List.setIfInBounds_toArray, List.set_cons_zero, List.set_cons_succ, List.getElem_toArray, List.getElem_cons_zero, List.getElem_cons_succ]
        refine wpAnyH_done (by kernel_rfl) ?_ _
        have HL5 := Lib.hid (show La w.heap.size w s p n (40 * i + 34) r zs10 [] v' (fun _ => none) (sumsR (C ++ bL)) rnd _ _ from (by
          have h := HL13.out.drop (updF_same _ _ _) HE.out.2.2.2.2.2.1
          rw [updF_none (f := fun _ => none) rfl] at h
          exact ⟨h.ps.less (by intro j hj; simp at hj ⊢; rcases hj with hj | hj <;> simp [hj]), h.rs, h.bs, h.nv, by simp⟩))
        have HG5 : Hid (Cg (12000 * ((i + 1 : Nat) : Int)) (12 * (i + 1)) (sumsR (C ++ bL)) ∧ 0 ≤ rnd ∧ rnd ≤ ((i + 1 : Nat) : Int)) := Lib.hid ⟨HM.out.2.1.more (by omega) (by omega), by have := HG.out; omega, by have := HG.out; omega⟩
        clear HL13 HE HM
        obtain ⟨_, d1, _, _⟩ := HL5.out.rs.cell
        go_upto_region 17 with fail
        have HD := Lib.hid (HL5.out.below (Below.refl _ _).drew)
        refine wp_region_held_drew (S := (fun w' => w'.cell? ⟨r, 1, none⟩ = some (.int .u64 rnd))) (by kernel_rfl) ?_ (fun hHeld => ?_)
        · ((try dsimp only); exact d1)
        refine wpAnyH_take (i := 0) (v := ?_) rfl (by kernel_rfl) (by kernel_rfl) (by kernel_rfl) (fun _ _ _ h => h) (Or.inl ⟨by rfl, ?_⟩) (by assumption) ?_
        rotate_left 1
        · (intro w hSw; (try dsimp only at hSw); first | (go_simp; done) | (go_simp; with_reducible rfl))
        try simp only [Act.put, List.setIfInBounds_toArray, List.set_cons_zero, List.set_cons_succ, List.getElem_toArray, List.getElem_cons_zero]
        refine wpAnyH_take (i := 2) (v := ?_) rfl (by kernel_rfl) (by kernel_rfl) (by kernel_rfl) (fun _ _ _ h => h) (Or.inl ⟨by rfl, ?_⟩) (by assumption) ?_
        rotate_left 1
        · (intro w hSw; (try dsimp only at hSw); first | (go_simp; done) | (go_simp; with_reducible rfl))
        try simp only [Act.put, List.setIfInBounds_toArray, List.set_cons_zero, List.set_cons_succ, List.getElem_toArray, List.getElem_cons_zero, List.getElem_cons_succ]
        refine wpAnyH_take (i := 3) (v := ?_) rfl (by kernel_rfl) (by kernel_rfl) (by kernel_rfl) (fun _ _ _ h => h) (Or.inl ⟨by rfl, ?_⟩) (by assumption) ?_
        rotate_left 1
        · (intro w hSw; (try dsimp only at hSw); first | (go_simp; done) | (go_simp; with_reducible rfl))
        try simp only [Act.put, List.setIfInBounds_toArray, List.set_cons_zero, List.set_cons_succ, List.getElem_toArray, List.getElem_cons_zero, List.getElem_cons_succ]
        refine wpAnyH_take (i := 4) (v := ?_) rfl (by kernel_rfl) (by kernel_rfl) (by kernel_rfl) (fun _ _ _ h => h) (Or.inl ⟨by rfl, ?_⟩) (by assumption) ?_
        rotate_left 1
        · (intro w hSw; (try dsimp only at hSw); first | (go_simp; done) | (go_simp; with_reducible rfl))
        try simp only [Act.put, List.setIfInBounds_toArray, List.set_cons_zero, List.set_cons_succ, List.getElem_toArray, List.getElem_cons_zero, List.getElem_cons_succ]
        refine wpAnyH_take (i := 5) (v := ?_) rfl (by kernel_rfl) (by kernel_rfl) (by kernel_rfl) (fun _ _ _ h => h) (Or.inl ⟨by rfl, ?_⟩) (by assumption) ?_
        rotate_left 1
        · (intro w hSw; (try dsimp only at hSw); first | (go_simp; done) | (go_simp; with_reducible rfl))
        try simp only [Act.put, List.setIfInBounds_toArray, List.set_cons_zero, List.set_cons_succ, List.getElem_toArray, List.getElem_cons_zero, List.getElem_cons_succ]
        refine wpAnyH_ready (rs := [1]) (by kernel_rfl) (by simp) ?_
        refine AllReadyH.cons rfl (fun K hK => ?_) AllReadyH.nil
        go_simp
        go_at_call 23
        refine (plround_ps HD.out.ps (by omega) HN.out.2).mono ?_
        rintro e w20 ⟨rfl, hkx, hp⟩
        have H20 := Lib.hid (HD.out.keep hkx hp)
        clear hkx hp HD
        try go_wp2_with fail
        refine hK.out _ _ ?_ (fun hHeld => ?_)
        · ((try dsimp only); exact H20.out.rs.cell.2.1)
        clear hK K
        try simp only [Act.put, List.setIfInBounds_toArray, List.set_cons_zero, List.set_cons_succ, List.getElem_toArray, List.getElem_cons_zero, List.getElem_cons_succ]
        refine wpAnyH_take (i := 6) (v := ?_) rfl (by kernel_rfl) (by kernel_rfl) (by kernel_rfl) (fun _ _ _ h => h) (Or.inl ⟨by rfl, ?_⟩) (by assumption) ?_
        rotate_left 1
        · (intro w hSw; (try dsimp only at hSw); first | (go_simp; done) | (go_simp; with_reducible rfl))
        try simp only [Act.put, List.setIfInBounds_toArray, List.set_cons_zero, List.set_cons_succ, List.getElem_toArray, List.getElem_cons_zero, List.getElem_cons_succ]
        refine wpAnyH_done (by kernel_rfl) ?_ _
        go_wp2_with fail
        have hwk : ∀ k : Nat, k ≤ 8 → IntKind.i64.wrap ((k : Int) + 1) = ((k + 1 : Nat) : Int) := fun k hk => by rw [w_id ⟨by omega, by omega⟩]; omega
        go_loopg [13] (n + 2) (fun m t wy => ∃ k : Nat, k + m = n + 2 ∧ k ≤ n + 1 ∧ t = .int .i64 (k : Int) ∧ Hid (w20 = wy))
        case atStart => exact ⟨0, by omega, by omega, rfl, Lib.hid rfl⟩
        case round =>
          obtain ⟨k, hkm, hkn, rfl, HW⟩ := hrel
          obtain rfl := HW.out
          by_cases hk : k ≤ n
          · have hk' : (k : Int) ≤ (n : Int) := by omega
            have hw := hwk k (by have := HN.out; omega)
            have HKM := Lib.hid (And.intro hkm hk)
            clear hwk hkm
            go_wp2_with fail
            go_at_call 24
            refine (plhold_ps (i := k) H20.out.ps (by omega) HN.out.2 (fun _ => rfl) (fun _ => rfl) hk).mono ?_
            rintro e w21 ⟨rfl, rfl⟩
            go_wp2_with fail
            go_roundg (gk - 1)
            case measure => have := HKM.out; omega
            case rel => exact ⟨k + 1, by have := HKM.out; omega, by omega, by first | rfl | simp, Lib.hid rfl⟩
          · have hk' : ¬ (k : Int) ≤ (n : Int) := by omega
            clear hwk
            go_wp2_with fail
            go_roundg (59 - i)
            case measure => have := HIK.out; have := HI.out; omega
            case rel => exact ⟨i + 1, _, _, _, _, _, by have := HIK.out; have := HI.out; omega, by have := HI.out; omega, by simp, Lib.hid (H20.out.more (by omega)), HG5⟩
    · by_cases h1 : i < J.length
      · have h2 : i = 60 := by omega
        have h1' : (i : Int) < (J.length : Int) := by omega
        subst h2
        go_wp2_with fail
        go_ret
        exact ⟨rfl, HKB.out⟩
      · have h1' : ¬ (i : Int) < (J.length : Int) := by omega
        have h2' : decide ((i : Int) < 60) = true ∨ decide ((i : Int) < 60) = false := by cases decide ((i : Int) < 60) <;> simp
        go_wp2_with fail
        go_ret
        exact ⟨rfl, HKB.out⟩
end Go.Proofs.Ytkeldggdllaheaa.Pl
