/-
  PACKAGE marchlandlaw13: told.
-/
import Derived.Test.YtjmkcgkkgamafaaShRef
namespace Go.Proofs.Ytjmkcgkkgamafaa.Sh
open Go.RowKit Rw Pk Go.Maps Mm
set_option linter.unusedVariables false
section
variable {w w' wq : World} {S : Si} {A : Sa} {n a s : Nat} {w0 wr : World} {fs fs2 fs' zs zs' : List Nat} {P T : List Int} {D : List (Int × Int)} {M M' : Mm.St}
theorem lit2 {α : Type} {S : Kd α} (hk : S.k = 1) {w : World} {g : Nat} {u v : Value} {ty : TypeId} {x y : α} (h : w.heap[g]? = some (.cells #[u, v] ty (0, 0))) (hx : S.cells x = [u]) (hy : S.cells y = [v]) (hw : S.wf x ∧ S.wf y) : Rr S w (.slice (some ⟨g, 0, none⟩) 2 2) [x, y] := by
  have hc : ∀ o, w.cell? ⟨g, o, none⟩ = #[u, v][o]? := fun o => cell_of_row _ _ _ _ _ _ h
  refine rr_of (by omega) rfl (Nat.le_refl _) (by decide) (fun z hz => by simp at hz; rcases hz with rfl | rfl; exact hw.1; exact hw.2) (fun i z hz c q hc' hq => ?_)
  have e : ∀ j, ((⟨g, 0, none⟩ : Addr).add j) = ⟨g, j, none⟩ := fun j => by unfold Addr.add; split <;> simp_all
  have hc0 : c = 0 := by omega
  subst hc0
  rw [e, hc, hk]
  match i, hz with
  | 0, hz => simp at hz; subst hz; rw [hx] at hq; simpa using hq
  | 1, hz => simp at hz; subst hz; rw [hy] at hq; simpa using hq
  | k + 2, hz => simp at hz
/-- The blocks of an act. -/
def blk (a : Nat) (A : Sa) : List Nat := a :: (A.pv.ownBlock.toList ++ (A.tv.ownBlock.toList ++ A.dv.ownBlock.toList))
theorem Sg.blz (h : Sg n w0 wr fs zs a s S A P T D M w) : ∀ j ∈ blk a A, j ∈ zs := by
  intro j hj
  simp only [blk, List.mem_cons, List.mem_append, Option.mem_toList] at hj
  rcases hj with rfl | hj | hj | hj
  · exact h.am
  · exact (h.pb j hj).1
  · exact (h.tb j hj).1
  · exact (h.db j hj).1
theorem Sg.carry (h : Sg n w0 wr fs zs a s S A P T D M w) (hq : Sq n w0 wq fs2 zs' s S M' w') (hk : ∀ j ∈ blk a A, w'.heap[j]? = w.heap[j]?) (hz : w.heap.size ≤ w'.heap.size) (hin : ∀ j ∈ blk a A, j ∈ zs') (hf : ∀ j ∈ fs', j ∈ zs') (haf : a ∉ fs') (htf : ∀ g, A.tv.ownBlock = some g → g ∉ fs') : Sg n w0 w' fs' zs' a s S A P T D M' w' := by
  have kp : ∀ g, A.pv.ownBlock = some g → g ∈ blk a A := fun g hg => by simp [blk, hg]
  have kt : ∀ g, A.tv.ownBlock = some g → g ∈ blk a A := fun g hg => by simp [blk, hg]
  have kd : ∀ g, A.dv.ownBlock = some g → g ∈ blk a A := fun g hg => by simp [blk, hg]
  have ka : a ∈ blk a A := by simp [blk]
  exact ⟨hq.mz, hq.si, h.sa.of_block (hk a ka), hin a ka, hq.sm, h.na, hq.ns, h.ne, h.as', rr_block h.po hz (fun g hg => hk g (kp g hg)), rr_block h.tod hz (fun g hg => hk g (kd g hg)), own_block h.ti (fun g hg => hk g (kt g hg)), fun g hg => ⟨hin g (kp g hg), (h.pb g hg).2⟩, fun g hg => ⟨hin g (kd g hg), (h.db g hg).2⟩, fun g hg => by
    obtain ⟨q1, q2, q3, q4, q5, q6, q7⟩ := h.tb g hg
    exact ⟨hin g (kt g hg), q2, q3, q4, htf g hg, q6, q7⟩, hf, haf, fun _ _ => rfl, Nat.le_refl _⟩
theorem castQ_mem {Q : List Nat} {np : Nat} (h : ∀ q ∈ Q, q < np) : ∀ x ∈ castQ Q, 0 ≤ x ∧ x < (np : Int) := by
  intro x hx
  obtain ⟨q, h1, rfl⟩ := List.mem_map.1 hx
  have := h q h1
  exact ⟨by omega, by show (q : Int) < _; omega⟩
set_option maxRecDepth 1000000 in
set_option maxHeartbeats 16000000 in
theorem shtold_any (w : World) :
    Calls Try.prog 49 #[] w fun e w' => e = .returned (.bool true) ∧ Below w.heap.size w w' := by
  have hq2 : ∀ q ∈ [1, 0], q < 2 := by decide
  have wf01 : intK.wf 1 ∧ intK.wf 0 := ⟨⟨by decide, by decide⟩, ⟨by decide, by decide⟩⟩
  have HQ2 := Lib.hid hq2
  have HWF := Lib.hid wf01
  clear hq2 wf01
  go_enter Try.func49, Try.ntmps49
  go_wp2_with fail
  go_at_call 48
  refine (shbegin_any 2 2 (by decide) (by decide) w).mono ?_
  rintro e w1 ⟨p, s, zs, rfl, hq⟩
  have HQ := Lib.hid hq
  have HW0 := Lib.hid (wm_init 2)
  clear hq
  go_wp2_with fail
  go_at_call 51
  have hb2 : Below w1.heap.size w1 (w1.alloc (.cells #[.int .i64 1, .int .i64 0] 3)) := (Below.refl _ _).alloc (Nat.le_refl _) _
  refine (shread_any (HQ.out.below hb2) (P := castQ [1, 0]) (lit2 rfl (heap_alloc_new w1 (.cells #[.int .i64 1, .int .i64 0] 3)) rfl rfl HWF.out) (castQ_mem HQ2.out) (show ((2 : Nat) : Int) ≤ 64 by decide) (by decide) (by decide) 0 (by decide)).mono ?_
  rintro e w3 ⟨a, rfl, ha, pva, dva, zsa, _, _, hs⟩
  have HSA := Lib.hid hs
  clear hs hb2 ha
  go_wp2_with fail
  go_at_call 55
  refine (shrd_run (Q := [1, 0]) HSA.out HW0.out (by decide) (by decide) HQ2.out (by decide) (by decide) (by decide)).mono ?_
  rintro e w4 ⟨rfl, zsa1, pva1, tva1, dva1, M1, hlg1, hw1, hs⟩
  have HSA1 := Lib.hid hs
  have HW1 := Lib.hid hw1
  have HLG1 := Lib.hid hlg1
  clear hs hw1 hlg1
  go_wp2_with fail
  go_at_call 54
  refine (shtimes_yes HSA1.out.sa HSA1.out.tod rfl HSA1.out.ti (fun x hx => by
    have : x = 0 := by revert hx; simp [gotT]
    subst this
    exact ⟨by decide, by decide⟩) (by decide) (by decide)).mono ?_
  rintro e w5 ⟨v5, rfl, ho5, hb5⟩
  have HR5 := Lib.hid ((Own.sl ho5 (fun x hx => by
    have : x = 0 := by revert hx; simp [gotT]
    subst this
    exact ⟨by decide, by decide⟩)).rr)
  obtain ⟨o5, c5, rfl⟩ := ho5.form2
  have HB5 := Lib.hid hb5
  clear ho5 hb5
  go_wp2_with fail
  go_at_call 56
  have hb6 : Below w5.heap.size w5 (w5.alloc (.cells #[.int .u64 0, .int .u64 0] 53)) := (Below.refl _ _).alloc (Nat.le_refl _) _
  refine (refsame13_any (L := [0, 0]) (HR5.out.below hb6) (lit2 rfl (heap_alloc_new w5 (.cells #[.int .u64 0, .int .u64 0] 53)) rfl rfl ⟨⟨by decide, by decide⟩, ⟨by decide, by decide⟩⟩)).mono ?_
  rintro e w6 ⟨rfl, hb6'⟩
  have HB6 := Lib.hid (HB5.out.trans ((hb6.trans (hb6'.mono hb6.size)).mono HB5.out.size))
  clear hb6 hb6'
  have HSA6 := Lib.hid (HSA1.out.below HB6.out)
  go_wp2_with fail
  go_at_call 58
  refine (shvain_any HSA6.out.sa).mono ?_
  rintro e w7 ⟨rfl, rfl⟩
  have HQ6 := Lib.hid (HSA6.out.sq.rebase (fs' := [a]) (fun j hj => by obtain rfl := List.mem_singleton.1 hj; exact HSA6.out.am))
  go_wp2_with fail
  go_at_call 60
  have hb7 : Below w6.heap.size w6 (w6.alloc (.cells #[.int .u64 5, .int .u64 9] 53)) := (Below.refl _ _).alloc (Nat.le_refl _) _
  refine (shpublish_any (HQ6.out.below hb7) (np := 2) ⟨rfl, by decide, by decide⟩ (T := [5, 9]) (lit2 rfl (heap_alloc_new w6 (.cells #[.int .u64 5, .int .u64 9] 53)) rfl rfl ⟨⟨by decide, by decide⟩, ⟨by decide, by decide⟩⟩) rfl 1 (by decide)).mono ?_
  rintro e w8 ⟨b, rfl, hbn, tvb, dvb, zsb, _, _, hs⟩
  have HSB := Lib.hid hs
  have HBN := Lib.hid (show w6.heap.size ≤ b from Nat.le_trans hb7.size hbn)
  clear hs hb7 hbn
  go_wp2_with fail
  go_at_call 51
  have hb9 : Below w8.heap.size w8 (w8.alloc (.cells #[.int .i64 1, .int .i64 0] 3)) := (Below.refl _ _).alloc (Nat.le_refl _) _
  have HQ8 := Lib.hid (HSB.out.sq.rebase (fs' := a :: blk b ⟨s, 1, true, .slice none 0 0, tvb, dvb, 0, 0, 0⟩) (fun j hj => by
    rcases List.mem_cons.1 hj with rfl | hj
    · exact HSB.out.fz _ (List.mem_singleton.2 rfl)
    · exact HSB.out.blz j hj))
  refine (shread_any (HQ8.out.below hb9) (P := castQ [1, 0]) (lit2 rfl (heap_alloc_new w8 (.cells #[.int .i64 1, .int .i64 0] 3)) rfl rfl HWF.out) (castQ_mem HQ2.out) (show ((2 : Nat) : Int) ≤ 64 by decide) (by decide) (by decide) 0 (by decide)).mono ?_
  rintro e w9 ⟨c, rfl, hcn, pvc, dvc, zsc, hpc, hdc, hs⟩
  have HSC := Lib.hid hs
  have hz8 := hb9.size
  have HCN := Lib.hid (And.intro (Nat.le_trans hz8 hcn) (And.intro (fun g hg => Nat.le_trans hz8 (hpc g hg)) (fun g hg => Nat.le_trans hz8 (hdc g hg))))
  clear hs hb9 hcn hpc hdc hz8
  have HLTB := Lib.hid (zs_lt HSB.out.mz)
  have HAB := Lib.hid (show a < w6.heap.size from HSA6.out.sa.lt)
  have HBC : Hid (∀ j ∈ blk c ⟨s, 0, false, pvc, .slice none 0 0, dvc, 0, 0, 0⟩, w8.heap.size ≤ j) := Lib.hid (fun j hj => by
    simp only [blk, List.mem_cons, List.mem_append, Option.mem_toList] at hj
    rcases hj with rfl | hj | hj | hj
    · exact HCN.out.1
    · exact HCN.out.2.1 j hj
    · simp [Value.ownBlock] at hj
    · exact HCN.out.2.2 j hj)
  have HSB9 := Lib.hid (HSB.out.carry (fs' := a :: blk c ⟨s, 0, false, pvc, .slice none 0 0, dvc, 0, 0, 0⟩) HSC.out.sq (fun j hj => HSC.out.fr j (List.mem_cons_of_mem _ hj)) HSC.out.sz (fun j hj => HSC.out.fz j (List.mem_cons_of_mem _ hj)) (fun j hj => by
    rcases List.mem_cons.1 hj with rfl | hj
    · exact HSC.out.fz _ (List.mem_cons_self ..)
    · exact HSC.out.blz j hj) (fun hj => by
    have h1 := HLTB.out b HSB.out.am
    rcases List.mem_cons.1 hj with e | hj
    · have := HBN.out; have := HAB.out; omega
    · have := HBC.out b hj; omega) (fun g hg hj => by
    obtain ⟨q1, _, _, _, q5, _⟩ := HSB.out.tb g hg
    have h1 := HLTB.out g q1
    rcases List.mem_cons.1 hj with e | hj
    · exact q5 (by simp [e])
    · have := HBC.out g hj; omega))
  go_wp2_with fail
  go_at_call 55
  refine (shpub_run HSB9.out HW1.out (by decide) rfl (by decide) (by decide) (by decide)).mono ?_
  rintro e w10 ⟨rfl, zsb2, tvb2, dvb2, mkb, M2, hm1, hm2, hw2, hs⟩
  have HSB10 := Lib.hid hs
  have HW2 := Lib.hid hw2
  have HMB := Lib.hid (And.intro hm1 hm2)
  clear hs hw2 hm1 hm2
  have HSC10 := Lib.hid (HSC.out.carry (fs' := [a, b]) HSB10.out.sq (fun j hj => HSB10.out.fr j (List.mem_cons_of_mem _ hj)) HSB10.out.sz (fun j hj => HSB10.out.fz j (List.mem_cons_of_mem _ hj)) (fun j hj => by
    rcases List.mem_cons.1 hj with rfl | hj
    · exact HSB10.out.fz _ (List.mem_cons_self ..)
    · obtain rfl := List.mem_singleton.1 hj
      exact HSB10.out.am) (fun hj => by
    have h1 := HLTB.out b HSB.out.am
    have h2 := HCN.out.1
    have h3 := HLTB.out a (HSB.out.fz _ (List.mem_singleton.2 rfl))
    simp only [List.mem_cons, List.not_mem_nil, or_false] at hj
    omega) (fun g hg => by simp [Value.ownBlock] at hg))
  go_wp2_with fail
  go_at_call 55
  refine (shrd_run (Q := [1, 0]) HSC10.out HW2.out (by decide) (by decide) HQ2.out (by decide) (by decide) (by decide)).mono ?_
  rintro e w11 ⟨rfl, zsc1, pvc1, tvc1, dvc1, M3, hlg3, hw3, hs⟩
  have HSC11 := Lib.hid hs
  have HLG3 := Lib.hid hlg3
  have HA11 := Lib.hid (HSA6.out.sa.of_block ((HSC11.out.fr a (by simp)).trans ((HSB10.out.fr a (List.mem_cons_self ..)).trans ((HSC.out.fr a (List.mem_cons_self ..)).trans ((HSB.out.fr a (by simp)).trans rfl)))))
  have HB11 := Lib.hid (HSB10.out.sa.of_block (HSC11.out.fr b (by simp)))
  clear hs hw3 hlg3
  go_wp2_with fail
  go_at_call 54
  have hwf9 : ∀ x ∈ gotT [5, 9] [1, 0], u64K.wf x := by
    intro x hx
    have : x = 9 ∨ x = 5 := by revert hx; simp [gotT]
    rcases this with rfl | rfl
    · exact ⟨by decide, by decide⟩
    · exact ⟨by decide, by decide⟩
  refine (shtimes_yes HSC11.out.sa HSC11.out.tod rfl HSC11.out.ti hwf9 (by decide) (by decide)).mono ?_
  rintro e w12 ⟨v12, rfl, ho12, hb12⟩
  have HR12 := Lib.hid ((Own.sl ho12 hwf9).rr)
  obtain ⟨o12, c12, rfl⟩ := ho12.form2
  have HB12 := Lib.hid hb12
  clear ho12 hb12 hwf9
  go_wp2_with fail
  go_at_call 56
  have hb13 : Below w12.heap.size w12 (w12.alloc (.cells #[.int .u64 9, .int .u64 5] 53)) := (Below.refl _ _).alloc (Nat.le_refl _) _
  refine (refsame13_any (L := [9, 5]) (HR12.out.below hb13) (lit2 rfl (heap_alloc_new w12 (.cells #[.int .u64 9, .int .u64 5] 53)) rfl rfl ⟨⟨by decide, by decide⟩, ⟨by decide, by decide⟩⟩)).mono ?_
  rintro e w13 ⟨rfl, hb13'⟩
  have HB13 := Lib.hid (HB12.out.trans ((hb13.trans (hb13'.mono hb13.size)).mono HB12.out.size))
  clear hb13 hb13'
  have HC13 := Lib.hid (HSC11.out.sa.of_block (HB13.out.block c HSC11.out.sa.lt))
  have HB13' := Lib.hid (HB11.out.of_block (HB13.out.block b HB11.out.lt))
  have HA13 := Lib.hid (HA11.out.of_block (HB13.out.block a HA11.out.lt))
  have hlt1 : mkb < (M3.lg.length : Int) := by have := HMB.out; have := HLG3.out; simp at this; omega
  have hlt2 : (M1.lg.length : Int) < mkb := HMB.out.1
  have HK := Lib.hid ((HSC11.out.mz.below HB13.out).kept)
  go_wp2_with fail
  go_at_call 53
  refine (shmark_any HC13.out).mono ?_
  rintro e w14 ⟨rfl, rfl⟩
  go_wp2_with fail
  go_at_call 53
  refine (shmark_any HB13'.out).mono ?_
  rintro e w14 ⟨rfl, rfl⟩
  go_wp2_with fail
  go_at_call 53
  refine (shmark_any HB13'.out).mono ?_
  rintro e w14 ⟨rfl, rfl⟩
  go_wp2_with fail
  go_at_call 53
  refine (shmark_any HA13.out).mono ?_
  rintro e w14 ⟨rfl, rfl⟩
  go_wp2_with fail
  go_ret
  exact ⟨rfl, HK.out⟩
end
end Go.Proofs.Ytjmkcgkkgamafaa.Sh
