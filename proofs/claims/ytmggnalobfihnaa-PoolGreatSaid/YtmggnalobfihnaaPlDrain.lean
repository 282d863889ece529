/-
  PACKAGE pool: a Drain begins.
-/
import Derived.Test.YtmggnalobfihnaaJoined11
import Derived.Deep.CutRange
import Derived.Deep.RegionHeldLaw
import Derived.Deep.AppendLies
import Derived.BigQuiet
namespace Go.Proofs.Ytmggnalobfihnaa.Pl
open Go.RowKit Rw Pk Go.Maps Mm
set_option linter.unusedVariables false
def rangeI (N : Nat) : List Int := (List.range N).map fun (j : Nat) => (j : Int)
theorem rangeI_succ (N : Nat) : rangeI (N + 1) = rangeI N ++ [(N : Int)] := by unfold rangeI; rw [List.range_succ, List.map_append]; rfl
theorem rangeI_len (N : Nat) : (rangeI N).length = N := by unfold rangeI; simp
theorem rangeI_mem {N : Nat} {x : Int} (h : x ∈ rangeI N) : 0 ≤ x ∧ x < N := by
  unfold rangeI at h
  simp only [List.mem_map, List.mem_range] at h
  obtain ⟨j, h1, rfl⟩ := h
  omega
section
variable {w w' w1 : World} {S : Pi} {A A' : Pa} {n a s p i : Nat} {w0 wr : World} {fs fs' zs : List Nat} {P : List Int} {D D' : List (Int × Int)} {B B' : Nat → List Batch.Ch} {T l : List Batch.Ch} {M M' : Mm.St}
set_option maxRecDepth 1000000 in
set_option maxHeartbeats 16000000 in
theorem pldrain_any (h : Pq n w0 wr fs zs s S M w) {N : Nat} (hN : S.n = (N : Int)) (hN1 : 1 ≤ N) (hN8 : N ≤ 8) (who : Int) (hw : 0 ≤ who) :
    Calls Try.prog 7 #[.pointer (some ⟨s, 0, none⟩), .int .i64 who] w fun e w' => ∃ a, e = .returned (.pointer (some ⟨a, 0, none⟩)) ∧ w.heap.size ≤ a ∧ ∃ sv dv zs', (∀ j ∈ zs, j ∈ zs') ∧ (∀ j ∈ zs', j ∈ zs ∨ w.heap.size ≤ j) ∧ (∀ g, Blk ⟨s, who, true, sv, fun _ => .slice none 0 0, dv, .slice none 0 0, 0, true, 0⟩ g → w.heap.size ≤ g) ∧
      Pg n w0 wr fs zs' a s S ⟨s, who, true, sv, fun _ => .slice none 0 0, dv, .slice none 0 0, 0, true, 0⟩ (rangeI N) (drD (rangeI N)) (fun _ => []) [] M w' := by
  have HQ := Lib.hid h
  have HNO := Lib.hid (plnone_any h.pi)
  have HNN := Lib.hid (And.intro hN1 hN8)
  obtain ⟨s0, s1, s2, s3, s4⟩ := h.pi.cells
  rw [hN] at s4
  obtain ⟨j0, hj, hy0, hy1, hy2⟩ := info_partsP infoIP
  have h1 : ¬ who < 0 := by omega
  have hsl := h.pi.lt
  clear h hN hN1 hN8 hw
  go_enter Try.func7, Try.ntmps7
  go_wp2_with fail
  go_at_call 29
  refine HNO.out.mono ?_
  rintro e w2 ⟨rfl, rfl⟩
  go_upto_region 5 with fail
  have hn := heap_alloc_new w (.cells #[.pointer (some ⟨s, 0, none⟩), .int .i64 who, .bool true, .slice none 0 0, .slice none 0 0, .slice none 0 0, .slice none 0 0, .slice none 0 0, .slice none 0 0, .slice none 0 0, .slice none 0 0, .slice none 0 0, .slice none 0 0, .slice none 0 0, .int .u64 0, .bool true, .int .i64 0] 71)
  have HP0 : Hid (Pb w (w.alloc (.cells #[.pointer (some ⟨s, 0, none⟩), .int .i64 who, .bool true, .slice none 0 0, .slice none 0 0, .slice none 0 0, .slice none 0 0, .slice none 0 0, .slice none 0 0, .slice none 0 0, .slice none 0 0, .slice none 0 0, .slice none 0 0, .slice none 0 0, .int .u64 0, .bool true, .int .i64 0] 71)) w.heap.size ⟨s, who, true, .slice none 0 0, fun _ => .slice none 0 0, .slice none 0 0, .slice none 0 0, 0, true, 0⟩ (rangeI 0) (fun _ => [])) :=
    Lib.hid ⟨hn, Own.nil _ _ _, fun i _ => Batch.Own.nil _ _ _, (Below.refl _ _).alloc (Nat.le_refl _) _, Nat.le_refl _, by simp [Value.ownBlock], fun i _ => by simp [Value.ownBlock], fun i j _ _ _ g hg => by simp [Value.ownBlock] at hg, fun i _ g hg => by simp [Value.ownBlock] at hg⟩
  clear hn s0 s1 s2 s3 s4 hsl
  generalize hX : w.heap.size = a at *
  replace hX := Lib.hid hX
  generalize w.alloc (.cells #[.pointer (some ⟨s, 0, none⟩), .int .i64 who, .bool true, .slice none 0 0, .slice none 0 0, .slice none 0 0, .slice none 0 0, .slice none 0 0, .slice none 0 0, .slice none 0 0, .slice none 0 0, .slice none 0 0, .slice none 0 0, .slice none 0 0, .int .u64 0, .bool true, .int .i64 0] 71) = W0 at *
  go_wp2_with fail
  go_loopg [21] (N + 1) (fun k t wr => ∃ (i : Nat) (sv : Value), i + k = N + 1 ∧ i ≤ N ∧ t = .int .i64 (i : Int) ∧ Hid (Pb w wr a ⟨s, who, true, sv, fun _ => .slice none 0 0, .slice none 0 0, .slice none 0 0, 0, true, 0⟩ (rangeI i) (fun _ => [])))
  case atStart => exact ⟨0, _, by omega, by omega, rfl, HP0⟩
  case round =>
    clear HP0
    obtain ⟨i, sv, hik, hil, rfl, HP⟩ := hrel
    have HIK := Lib.hid hik
    clear hik
    obtain ⟨svo, svc, rfl⟩ := HP.out.sv.form2
    have HPL : Hid ((rangeI i).length ≤ 8) := Lib.hid (by rw [rangeI_len]; have := HNN.out; omega)
    by_cases hlt1 : i < N
    · have HLT := Lib.hid hlt1
      have hlt' : (i : Int) < (N : Int) := by omega
      have hwi : IntKind.i64.wrap ((i : Int) + 1) = (i : Int) + 1 := w_id ⟨by omega, by have := HNN.out; omega⟩
      obtain ⟨k0, k1, k2, k3, k12, k13, k14, k15, k16, kf⟩ := HP.out.pa.cells
      obtain ⟨P1, hP1⟩ : ∃ P1, rangeI i = P1 := ⟨_, rfl⟩
      rw [hP1] at HP HPL
      obtain ⟨np, hnp⟩ : ∃ np, P1.length = np := ⟨_, rfl⟩
      have k3' : wr.cell? ⟨a, 3, none⟩ = some (.slice svo np svc) := by rw [← hnp, ← hP1]; exact k3
      clear k3
      have hown : wr.ownsRow w.heap.size 3 1 (.slice svo np svc) np (intK.flat P1) := by have h := HP.out.sv; unfold Own at h; rw [hnp] at h; exact h
      rw [hnp] at HPL
      rw [hnp] at HP
      have HPN := Lib.hid (And.intro hP1.symm hnp)
      clear hP1 hnp hlt1
      go_wp2_with (at_builtin; refine Batch.wpList_append_any _ rfl _ _ 23 23 rfl w.heap.size 3 3 j0 (.int .i64 0) 1 8 Try.underlying23 Try.underlying23 hj hy0 hy1 hy2 rfl (by decide) (.slice svo np svc) np (intK.flat P1) rfl (hown.alloc _) (some ⟨wr.heap.size, 0, none⟩) 1 1 [.int .i64 (i : Int)] rfl rfl ?c1 ?c2 ?c3 ?c4 ?c5 ?_)
      case c1 => exact .inr ⟨_, rfl, World.news_of_block (cs := #[.int .i64 (i : Int)]) (heap_alloc_new wr _)⟩
      try (case c2 => first | (intro y hy; simp at hy; subst hy; rfl) | rfl | trivial | exact ⟨rfl, rfl⟩ | simp [Value.oneCell'])
      try (case c3 => have := HPL.out; unfold maxLen; omega)
      try (case c4 => have := HPL.out; omega)
      try (case c5 => have := HP.out.bel.size; simp; omega)
      intro v' w6 hown6 hg6 hblk
      have hg : wr.grownBy w6 (Value.slice svo np svc).ownBlock := ⟨hg6.os, hg6.tape, hg6.output, by have := hg6.size; simp at this; omega, fun j hj hn => (hg6.block j (by simp; omega) hn).trans (heap_alloc_old wr _ hj)⟩
      have hnew : Own intK w6 w.heap.size 3 v' (P1 ++ [(i : Int)]) := by
        unfold Own
        rw [flat_append, List.length_append, HPN.out.2]
        exact hown6
      have hp6 := HP.out.addS hg hnew (fun g hgg => by
        rcases hblk with e | e
        · left; exact e.symm.trans hgg
        · right; have := e.symm.trans hgg; simp at this; omega)
      obtain ⟨vo, vc, rfl⟩ := hnew.form2
      obtain ⟨m0, m1, m2, m3, m12, m13, m14, m15, m16, mf⟩ := (HP.out.pa.of_block (hg.block a HP.out.pa.lt (fun e => HP.out.ns e.symm))).cells
      have HP6 := Lib.hid hp6
      have hP2 : P1 ++ [(i : Int)] = rangeI (i + 1) := by rw [rangeI_succ, HPN.out.1]
      have HPP := Lib.hid hP2
      generalize (P1 ++ [(i : Int)]).length = np2 at *
      clear hown6 hg6 hblk hg hnew hp6 hP2 k0 k1 k2 k3' k12 k13 k14 k15 k16 kf
      go_wp2_with fail
      go_roundg (gk - 1)
      case measure => have := HIK.out; have := HLT.out; omega
      case rel =>
        refine ⟨i + 1, .slice vo np2 vc, by have := HIK.out; have := HLT.out; omega, by have := HLT.out; omega, by simp, ?_⟩
        rw [← HPP.out]
        exact HP6
    · have hie : i = N := by omega
      subst hie
      have hlt' : ¬ ((i : Int) < (i : Int)) := by omega
      have HPB := HP
      have HSV := Lib.hid ((HP.out.sv.sl (fun x hx => acc_i64 (by have := rangeI_mem hx; have := HNN.out; omega))).rr)
      have HPW : Hid (∀ x ∈ rangeI i, 0 ≤ x ∧ x < 8) := Lib.hid (fun x hx => by have := rangeI_mem hx; have := HNN.out; omega)
      have HWP : Hid (∀ x ∈ rangeI i, intK.wf x) := Lib.hid (fun x hx => acc_i64 (HPW.out x hx))
      have HWB : Hid (∀ j, j < 8 → ∀ x ∈ (fun (_ : Nat) => ([] : List Batch.Ch)) j, x.Wf) := Lib.hid (fun j _ x hx => by simp at hx)
      have HB0 := Lib.hid HP.out.bel
      replace HPL : Hid ((rangeI i).length ≤ 100) := Lib.hid (by have := HPL.out; omega)
      obtain ⟨P1, hP1⟩ : ∃ P1, rangeI i = P1 := ⟨_, rfl⟩
      rw [hP1] at HPB HSV HPW HWP HPL
      have HP1e := Lib.hid hP1
      clear HP hP1 hlt1
      have hml : ∀ q : Int, (P1.map fun x => (q, x)).length = P1.length := fun q => List.length_map ..
      go_wp2_with fail
      go_at_call 31
      refine (pleach_any HPB.out.pa HSV.out HPL.out 4).mono ?_
      rintro e W2 ⟨v1, rfl, ho, hb⟩
      obtain ⟨o1, d1, rfl⟩ := ho.form2
      replace HPB := Lib.hid (HPB.out.more hb)
      replace HSV := Lib.hid (HSV.out.below hb)
      replace HB0 := Lib.hid (HB0.out.trans (hb.mono HB0.out.size))
      have HV1 := Lib.hid ((ho.sl (map_wf 4 ⟨by decide, by decide⟩ HPW.out)).rr)
      rw [hml] at HV1
      clear ho hb
      go_wp2_with fail
      go_at_call 31
      refine (pleach_any HPB.out.pa HSV.out HPL.out 2).mono ?_
      rintro e W3 ⟨v2, rfl, ho, hb⟩
      obtain ⟨o2, d2, rfl⟩ := ho.form2
      replace HPB := Lib.hid (HPB.out.more hb)
      replace HSV := Lib.hid (HSV.out.below hb)
      replace HB0 := Lib.hid (HB0.out.trans (hb.mono HB0.out.size))
      replace HV1 := Lib.hid (HV1.out.below hb)
      have HV2 := Lib.hid ((ho.sl (map_wf 2 ⟨by decide, by decide⟩ HPW.out)).rr)
      rw [hml] at HV2
      clear ho hb
      go_wp2_with fail
      go_at_call 31
      refine (pleach_any HPB.out.pa HSV.out HPL.out 3).mono ?_
      rintro e W4 ⟨v3, rfl, ho, hb⟩
      obtain ⟨o3, d3, rfl⟩ := ho.form2
      replace HPB := Lib.hid (HPB.out.more hb)
      replace HSV := Lib.hid (HSV.out.below hb)
      replace HB0 := Lib.hid (HB0.out.trans (hb.mono HB0.out.size))
      replace HV1 := Lib.hid (HV1.out.below hb)
      replace HV2 := Lib.hid (HV2.out.below hb)
      have HV3 := Lib.hid ((ho.sl (map_wf 3 ⟨by decide, by decide⟩ HPW.out)).rr)
      rw [hml] at HV3
      clear ho hb
      have hb4 : Below W4.heap.size W4 (W4.alloc (.cells #[.int .i64 0, .int .i64 0, .int .i64 1, .int .i64 0] 76)) := (Below.refl _ _).alloc (Nat.le_refl _) _
      have HV4 : Hid (Rr accK (W4.alloc (.cells #[.int .i64 0, .int .i64 0, .int .i64 1, .int .i64 0] 76)) (.slice (some ⟨W4.heap.size, 0, none⟩) 2 2) [(0, 0), (1, 0)]) := Lib.hid (lit_acc2 W4 _ 0)
      replace HPB := Lib.hid (HPB.out.more hb4)
      replace HSV := Lib.hid (HSV.out.below hb4)
      replace HB0 := Lib.hid (HB0.out.trans (hb4.mono HB0.out.size))
      replace HV1 := Lib.hid (HV1.out.below hb4)
      replace HV2 := Lib.hid (HV2.out.below hb4)
      replace HV3 := Lib.hid (HV3.out.below hb4)
      clear hb4
      go_wp2_with fail
      go_at_call 31
      generalize W4.heap.size = x4 at *
      generalize W4.alloc (.cells #[.int .i64 0, .int .i64 0, .int .i64 1, .int .i64 0] 76) = W5 at *
      refine (pleach_any HPB.out.pa HSV.out HPL.out 5).mono ?_
      rintro e W6 ⟨v5, rfl, ho, hb⟩
      obtain ⟨o5, d5, rfl⟩ := ho.form2
      replace HPB := Lib.hid (HPB.out.more hb)
      replace HB0 := Lib.hid (HB0.out.trans (hb.mono HB0.out.size))
      replace HV1 := Lib.hid (HV1.out.below hb)
      replace HV2 := Lib.hid (HV2.out.below hb)
      replace HV3 := Lib.hid (HV3.out.below hb)
      replace HV4 := Lib.hid (HV4.out.below hb)
      have HV5 := Lib.hid ((ho.sl (map_wf 5 ⟨by decide, by decide⟩ HPW.out)).rr)
      rw [hml] at HV5
      clear ho hb HSV
      generalize hnp : P1.length = np at *
      replace hnp := Lib.hid hnp
      go_wp2_with fail
      go_at_call 30
      refine (concat5_any (s1 := ⟨o1, np, d1⟩) (s2 := ⟨o2, np, d2⟩) (s3 := ⟨o3, np, d3⟩) (s4 := ⟨some ⟨x4, 0, none⟩, 2, 2⟩) (s5 := ⟨o5, np, d5⟩) HV1.out HV2.out HV3.out HV4.out HV5.out (by have h1 := HPL.out; have h2 := hnp.out; simp; omega)).mono ?_
      rintro e W7 ⟨v7, rfl, ho, hb⟩
      obtain ⟨o7, d7, rfl⟩ := ho.form2
      obtain ⟨zs', z1, z2, z3, hact⟩ := HQ.out.act HPB.out rfl hb ho (drD_wf HPW.out) HWP.out HWB.out rfl
      have HZ := Lib.hid (And.intro z1 (And.intro z2 z3))
      have HACT := Lib.hid hact
      obtain ⟨k0, k1, k2, k3, k12, k13, k14, k15, k16, kf⟩ := (HPB.out.more hb).pa.cells
      generalize hq7 : ((P1.map fun x => ((4 : Int), x)) ++ (P1.map fun x => ((2 : Int), x)) ++ (P1.map fun x => ((3 : Int), x)) ++ [(0, 0), (1, 0)] ++ (P1.map fun x => ((5 : Int), x))).length = q7 at *
      clear ho hb z1 z2 z3 hact hml
      go_wp2_with fail
      go_ret
      exact ⟨a, rfl, HPB.out.ha, _, _, zs', HZ.out.1, HZ.out.2.1, HZ.out.2.2, (by rw [HP1e.out]; exact HACT.out)⟩
end
end Go.Proofs.Ytmggnalobfihnaa.Pl
