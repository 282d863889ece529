/-
  PACKAGE shot: Step, by what is to be done next.
-/
import Derived.Test.YtjmkcgkkgamafaaShAct
namespace Go.Proofs.Ytjmkcgkkgamafaa.Sh
open Go.RowKit Rw Pk Go.Maps Mm
set_option linter.unusedVariables false
section
variable {w w' W : World} {S : Si} {A A' : Sa} {n a s X : Nat} {w0 wr : World} {fs zs zs' : List Nat} {P T T' : List Int} {D D' : List (Int × Int)} {M M' : Mm.St} {a0 b0 c0 k i : Nat} {t : Int}
/-- The mark, when it takes effect. -/
def mkA (A : Sa) (D : List (Int × Int)) (t : Int) : Sa := if A.mk' = 0 ∧ teB D = true then { A with mk' := t } else A
/-- Behind a Step. -/
def ShQ (n : Nat) (w0 wr : World) (fs zs : List Nat) (a s : Nat) (S : Si) (A : Sa) (P T : List Int) (D : List (Int × Int)) (M : Mm.St) (ver : Int) (B : Nat) (e : Ending) (w' : World) : Prop :=
  e = .returned (.bool (decide (D = []))) ∧ ∃ zs' dv tv, (∀ j ∈ zs, j ∈ zs') ∧ (∀ j ∈ zs', j ∈ zs ∨ B ≤ j) ∧ Sg n w0 wr fs zs' a s S (mkA { A with dv := dv, tv := tv, ver := ver } D (M.lg.length : Int)) P T D M w'
/-- One block more that is kept. -/
theorem Sg.over (h : Sg n w0 wr fs zs a s S A P T D M w) (hb : Below w.heap.size w W) (hX : w.heap.size ≤ X) (hX' : X < W.heap.size) :
    ∃ zs', (∀ j ∈ zs, j ∈ zs') ∧ (∀ j ∈ zs', j ∈ zs ∨ w.heap.size ≤ j) ∧ Sg n w0 W (X :: fs) zs' a s S A P T D M W := by
  have hlt := zs_lt h.mz
  have h1 := h.below hb
  have hm := Rg.memz_all h.mz hb
  have hone : ∀ j ∈ zs, j ∈ List.range' w.heap.size (W.heap.size - w.heap.size) ++ zs := Rg.all_old
  refine ⟨_, hone, Rg.all_inv, hm, h1.si, h1.sa, hone a h.am, hone s h.sm, h.na, h.ns, h.ne, h.as', h1.po, h1.tod, h1.ti, fun g hg => ⟨hone g (h.pb g hg).1, (h.pb g hg).2⟩, fun g hg => ⟨hone g (h.db g hg).1, (h.db g hg).2⟩, fun g hg => ?_, fun j hj => ?_, fun hc => ?_, fun _ _ => rfl, Nat.le_refl _⟩
  · obtain ⟨q1, q2, q3, q4, q5, q6, q7⟩ := h.tb g hg
    refine ⟨hone g q1, q2, q3, q4, fun hc => ?_, q6, q7⟩
    rcases List.mem_cons.1 hc with e | hc
    · have := hlt g q1; omega
    · exact q5 hc
  · rcases List.mem_cons.1 hj with rfl | hj
    · exact Rg.all_mem hX hX'
    · exact hone j (h.fz j hj)
  · rcases List.mem_cons.1 hc with e | hc
    · have := hlt a h.am; omega
    · exact h.af hc
/-- .. and not any more. -/
theorem Sg.under (h : Sg n w0 W (X :: fs) zs a s S A P T D M w) (hf : ∀ j ∈ fs, W.heap[j]? = wr.heap[j]?) (hz : wr.heap.size ≤ W.heap.size) : Sg n w0 wr fs zs a s S A P T D M w :=
  ⟨h.mz, h.si, h.sa, h.am, h.sm, h.na, h.ns, h.ne, h.as', h.po, h.tod, h.ti, h.pb, h.db, fun g hg => by
    obtain ⟨q1, q2, q3, q4, q5, q6, q7⟩ := h.tb g hg
    exact ⟨q1, q2, q3, q4, fun hc => q5 (List.mem_cons_of_mem _ hc), q6, q7⟩, fun j hj => h.fz j (List.mem_cons_of_mem _ hj), fun hc => h.af (List.mem_cons_of_mem _ hc), fun j hj => (h.fr j (List.mem_cons_of_mem _ hj)).trans (hf j hj), Nat.le_trans hz h.sz⟩
/-- The access of this Step, in its block. -/
theorem Sg.acc (h : Sg n w0 W (X :: fs) zs a s S A P T D M w) {q x : Int} (h0 : W.cell? ⟨X, 0, none⟩ = some (.int .i64 q)) (h1 : W.cell? ⟨X, 1, none⟩ = some (.int .i64 x)) : w.cell? ⟨X, 0, none⟩ = some (.int .i64 q) ∧ w.cell? ⟨X, 1, none⟩ = some (.int .i64 x) := by
  have e := h.fr X (List.mem_cons_self ..)
  exact ⟨(World.cell?_of_block (w := W) (a := ⟨X, 0, none⟩) e).trans h0, (World.cell?_of_block (w := W) (a := ⟨X, 1, none⟩) e).trans h1⟩
theorem rr_tail {b off cap : Nat} {x : Int × Int} (h : Rr accK w (.slice (some ⟨b, off, none⟩) (D.length + 1) cap) (x :: D)) : Rr accK w (.slice (some ⟨b, off + 2, none⟩) D.length (cap - 1)) D := by
  obtain ⟨ao', cap', hv, h1, h2, h3, h4⟩ := h
  simp only [Value.slice.injEq] at hv
  obtain ⟨rfl, _, rfl⟩ := hv
  refine ⟨_, _, rfl, .inr ?_, by simp at h2; omega, by omega, fun y hy => h4 y (List.mem_cons_of_mem _ hy)⟩
  rcases h1 with h1 | ⟨b', off', hb, he, h1⟩
  · cases h1
  · simp only [Option.some.injEq, Addr.mk.injEq] at he
    obtain ⟨rfl, rfl, _⟩ := he
    refine ⟨_, _, hb, rfl, fun i y hy => ?_⟩
    have := h1 (i + 1) y (by simpa using hy)
    have e : off + (i + 1) * accK.k = off + 2 + i * accK.k := by rw [show accK.k = 2 from rfl]; omega
    rwa [e] at this
theorem rr_nil0 {b off : Nat} : Rr accK w (.slice (some ⟨b, off, none⟩) 0 0) [] := ⟨_, _, rfl, .inl rfl, by simp, by simp, by simp⟩

set_option maxRecDepth 1000000 in
set_option maxHeartbeats 16000000 in
theorem shstep_take (h : Sg n w0 wr fs zs a s S A P T ((4, 0) :: D) M w) (hsp : M.sp A.who = false) (hG : Mm.Good a0 b0 c0 k M) (ha : a0 ≤ 65536) (hb : b0 ≤ 65536) (hc : c0 ≤ 65536) (hk : k ≤ 100000) (hwho : I64 A.who) (hla : I64 S.la) (ht : takeV M A.who S.la = true) :
    Calls Try.prog 93 #[.pointer (some ⟨a, 0, none⟩)] w (ShQ n w0 wr fs zs a s S A P T D (takeS M A.who S.la) A.ver w.heap.size) := by
  have HR := Lib.hid h
  have HOV := Lib.hid (shover_any h.sa h.tod)
  have hdf : decide (((4, 0) :: D : List (Int × Int)) = []) = false := by simp
  rw [hdf] at HOV
  obtain ⟨c0, c1, c2, c3, c4, c5, c6, c7, c8, cf⟩ := h.sa.cells
  obtain ⟨s0, s1, s2, s3, s4⟩ := h.si.cells
  rw [h.as'] at c0
  obtain ⟨dao, dcap, hdv, hdc0, hdc⟩ := h.tod.form
  have htod := h.tod
  rw [hdv] at c5 htod
  obtain ⟨db, doff, rfl, hdb, hx⟩ := htod.at (i := 0) (x := (4, 0)) rfl
  have e0 := hx 0 _ (by decide) rfl
  have e1 := hx 1 _ (by decide) rfl
  simp only [Nat.zero_mul, Nat.add_zero] at e0 e1
  have hdl : (0 : Int) < ((D.length + 1 : Nat) : Int) := by omega
  have hdc1 : D.length + 1 ≤ dcap := by simpa using hdc0
  have hal := h.sa.lt
  have hsl := h.si.lt
  have HTOD := Lib.hid (show Rr accK w (.slice (some ⟨db, doff, none⟩) (D.length + 1) dcap) ((4, 0) :: D) from htod)
  have HDV := Lib.hid (show A.dv = .slice (some ⟨db, doff, none⟩) (D.length + 1) dcap from hdv)
  have HG := Lib.hid hG
  have HSP := Lib.hid hsp
  have HB := Lib.hid (And.intro ha (And.intro hb (And.intro hc hk)))
  have HWHO := Lib.hid hwho
  have HLA := Lib.hid (And.intro hla ht)
  clear hla ht

  clear hx htod hdf h hdv hG hsp ha hb hc hk hwho hdc0
  go_enter Try.func93, Try.ntmps93
  go_wp2_with fail
  go_at_call 52
  refine HOV.out.mono ?_
  rintro e w1 ⟨rfl, rfl⟩
  go_upto_region 3 with fail
  go_region
  go_upto_region 4 with fail
  have hn := heap_alloc_new w (.cells #[Value.int .i64 (4), .int .i64 (0)] 164)
  have hxl : w.heap.size < (w.alloc (.cells #[Value.int .i64 (4), .int .i64 (0)] 164)).drew.heap.size := (Array.getElem?_eq_some_iff.1 hn).1
  have x0 : (w.alloc (.cells #[Value.int .i64 (4), .int .i64 (0)] 164)).drew.cell? ⟨w.heap.size, 0, none⟩ = some (.int .i64 (4)) := cell_of_row _ _ _ _ _ _ hn
  have x1 : (w.alloc (.cells #[Value.int .i64 (4), .int .i64 (0)] 164)).drew.cell? ⟨w.heap.size, 1, none⟩ = some (.int .i64 (0)) := cell_of_row _ _ _ _ _ _ hn
  have hbx : Below w.heap.size w (w.alloc (.cells #[Value.int .i64 (4), .int .i64 (0)] 164)).drew := ((Below.refl _ _).alloc (Nat.le_refl _) _).drew
  obtain ⟨zs1, y1, y2, hov⟩ := HR.out.over hbx (Nat.le_refl w.heap.size) hxl
  have HO := Lib.hid hov
  have HZ1 := Lib.hid (And.intro y1 y2)
  have HTW := Lib.hid (HTOD.out.below hbx)
  have HS := Lib.hid (And.intro (fun j (hj : j ∈ fs) => (hbx.block j (zs_lt HR.out.mz j (HR.out.fz j hj))).trans (HR.out.fr j hj)) (Nat.le_trans HR.out.sz hbx.size))
  have HX := Lib.hid (And.intro x0 x1)
  have HSZ := Lib.hid hbx.size
  generalize hX : w.heap.size = X at *
  replace hX := Lib.hid hX
  generalize (w.alloc (.cells #[Value.int .i64 (4), .int .i64 (0)] 164)).drew = W at *
  clear hn hxl hbx hov y1 y2 c0 c1 c2 c3 c4 c5 c6 c7 c8 cf s0 s1 s2 s3 s4 hal hsl hdb e0 e1 HOV HTOD
  obtain ⟨c0, c1, c2, c3, c4, c5, c6, c7, c8, cf⟩ := HO.out.sa.cells
  obtain ⟨s0, s1, s2, s3, s4⟩ := HO.out.si.cells
  rw [HO.out.as'] at c0
  rw [HDV.out] at c5
  go_wp2_with fail
  go_at_call 66
  refine (mz_asleep HO.out.mz A.who HWHO.out).mono ?_
  rw [HSP.out]
  rintro e w1 ⟨rfl, rfl⟩
  go_wp2_with fail
  go_at_call 118
  refine (shtake_yes HO.out HG.out HB.out.1 HB.out.2.1 HB.out.2.2.1 HB.out.2.2.2 HWHO.out HLA.out.1 HLA.out.2).mono ?_
  rintro e W1 ⟨rfl, h1⟩
  have H1 := Lib.hid h1
  have HDV1 := HDV
  have htw : Rr accK W1 (.slice (some ⟨db, doff, none⟩) (D.length + 1) dcap) ((4, 0) :: D) := by have := h1.tod; rw [HDV.out] at this; exact this
  have HTW1 := Lib.hid htw
  clear h1 htw c0 c1 c2 c3 c4 c5 c6 c7 c8 cf s0 s1 s2 s3 s4 x0 x1
  obtain ⟨c0, c1, c2, c3, c4, c5, c6, c7, c8, cf⟩ := H1.out.sa.cells
  obtain ⟨s0, s1, s2, s3, s4⟩ := H1.out.si.cells
  rw [H1.out.as'] at c0
  rw [HDV.out] at c5
  obtain ⟨x0, x1⟩ := H1.out.acc HX.out.1 HX.out.2

  have hcc : (dcap = 1 ∧ D = []) ∨ dcap ≠ 1 := by
    by_cases e : dcap = 1
    · exact .inl ⟨e, List.length_eq_zero_iff.1 (by omega)⟩
    · exact .inr e
  rcases hcc with ⟨rfl, rfl⟩ | hcap
  · skip
    have HD := Lib.hid (H1.out.setD (v := (.slice (some ⟨db, doff, none⟩) 0 0)) rr_nil0 (by rw [HDV1.out]; rfl))

    go_upto_region 7 with fail
    clear c0 c1 c2 c3 c4 c5 c6 c7 c8 cf s0 s1 s2 s3 s4 x0 x1
    generalize W1.setCell ⟨a, 5, none⟩ (.slice (some ⟨db, doff, none⟩) 0 0) = W2 at *
    obtain ⟨c0, c1, c2, c3, c4, c5, c6, c7, c8, cf⟩ := HD.out.sa.cells
    obtain ⟨s0, s1, s2, s3, s4⟩ := HD.out.si.cells
    rw [HD.out.as'] at c0
    obtain ⟨x0, x1⟩ := HD.out.acc HX.out.1 HX.out.2

    have HF := HD
    clear c0 c1 c2 c3 c4 c5 c6 c7 c8 cf


    obtain ⟨f0, f1, f2, f3, f4, f5, f6, f7, f8, ff⟩ := HF.out.sa.cells
    have f8' : W2.cell? ⟨a, 8, none⟩ = some (.int .i64 A.mk') := f8
    clear f8
    by_cases hm : A.mk' = 0
    · rw [hm] at f8'
      rcases Bool.eq_false_or_eq_true (teB []) with hte | hte
      · go_wp2_with fail
        go_at_call 121
        refine (shte_any HF.out.sa HF.out.tod).mono ?_
        rw [hte]
        rintro e w5 ⟨rfl, rfl⟩
        go_wp2_with fail
        go_at_call 14
        refine (mz_time HF.out.mz).mono ?_
        rintro e w5 ⟨rfl, rfl⟩
        have HE := Lib.hid (HF.out.setA 8 (.int .i64 ((takeS M A.who S.la).lg.length : Int)) (HF.out.sa.set8 ((takeS M A.who S.la).lg.length : Int)) rfl rfl rfl rfl)
        go_wp2_with fail
        go_at_call 52
        refine (shover_any HE.out.sa HE.out.tod).mono ?_
        rintro e w9 ⟨rfl, rfl⟩
        go_wp2_with fail
        go_ret
        refine ⟨rfl, zs1, (.slice (some ⟨db, doff, none⟩) 0 0), A.tv, HZ1.out.1, fun j hj => (HZ1.out.2 j hj).imp id (fun e => by have := hX.out; omega), ?_⟩
        have e : mkA { A with dv := (.slice (some ⟨db, doff, none⟩) 0 0), tv := A.tv, ver := A.ver } [] ((takeS M A.who S.la).lg.length : Int) = { { A with dv := (.slice (some ⟨db, doff, none⟩) 0 0), tv := A.tv, ver := A.ver } with mk' := ((takeS M A.who S.la).lg.length : Int) } := by unfold mkA; rw [if_pos ⟨hm, hte⟩]
        rw [e]
        exact HE.out.under HS.out.1 HS.out.2
      · have HE := HF
        go_wp2_with fail
        go_at_call 121
        refine (shte_any HF.out.sa HF.out.tod).mono ?_
        rw [hte]
        rintro e w5 ⟨rfl, rfl⟩
        go_wp2_with fail
        go_at_call 52
        refine (shover_any HE.out.sa HE.out.tod).mono ?_
        rintro e w9 ⟨rfl, rfl⟩
        go_wp2_with fail
        go_ret
        refine ⟨rfl, zs1, (.slice (some ⟨db, doff, none⟩) 0 0), A.tv, HZ1.out.1, fun j hj => (HZ1.out.2 j hj).imp id (fun e => by have := hX.out; omega), ?_⟩
        have e : mkA { A with dv := (.slice (some ⟨db, doff, none⟩) 0 0), tv := A.tv, ver := A.ver } [] ((takeS M A.who S.la).lg.length : Int) = { A with dv := (.slice (some ⟨db, doff, none⟩) 0 0), tv := A.tv, ver := A.ver } := by unfold mkA; rw [if_neg (by rw [hte]; simp)]
        rw [e]
        exact HE.out.under HS.out.1 HS.out.2
    · have HE := HF
      have hm2 : (A.mk' == 0) = false := by rw [beq_eq_false_iff_ne]; exact hm
      go_wp2_with fail
      go_at_call 52
      refine (shover_any HE.out.sa HE.out.tod).mono ?_
      rintro e w9 ⟨rfl, rfl⟩
      go_wp2_with fail
      go_ret
      refine ⟨rfl, zs1, (.slice (some ⟨db, doff, none⟩) 0 0), A.tv, HZ1.out.1, fun j hj => (HZ1.out.2 j hj).imp id (fun e => by have := hX.out; omega), ?_⟩
      have e : mkA { A with dv := (.slice (some ⟨db, doff, none⟩) 0 0), tv := A.tv, ver := A.ver } [] ((takeS M A.who S.la).lg.length : Int) = { A with dv := (.slice (some ⟨db, doff, none⟩) 0 0), tv := A.tv, ver := A.ver } := by unfold mkA; exact if_neg (fun h => hm h.1)
      rw [e]
      exact HE.out.under HS.out.1 HS.out.2
  · skip
    have HD := Lib.hid (H1.out.setD (v := (.slice (some ⟨db, doff + 2, none⟩) D.length (dcap - 1))) (rr_tail (HTW1.out)) (by rw [HDV1.out]; rfl))
    have hc1 : 0 < dcap - 1 := by omega
    go_upto_region 7 with fail
    clear c0 c1 c2 c3 c4 c5 c6 c7 c8 cf s0 s1 s2 s3 s4 x0 x1
    generalize W1.setCell ⟨a, 5, none⟩ (.slice (some ⟨db, doff + 2, none⟩) D.length (dcap - 1)) = W2 at *
    obtain ⟨c0, c1, c2, c3, c4, c5, c6, c7, c8, cf⟩ := HD.out.sa.cells
    obtain ⟨s0, s1, s2, s3, s4⟩ := HD.out.si.cells
    rw [HD.out.as'] at c0
    obtain ⟨x0, x1⟩ := HD.out.acc HX.out.1 HX.out.2

    have HF := HD
    clear c0 c1 c2 c3 c4 c5 c6 c7 c8 cf


    obtain ⟨f0, f1, f2, f3, f4, f5, f6, f7, f8, ff⟩ := HF.out.sa.cells
    have f8' : W2.cell? ⟨a, 8, none⟩ = some (.int .i64 A.mk') := f8
    clear f8
    by_cases hm : A.mk' = 0
    · rw [hm] at f8'
      rcases Bool.eq_false_or_eq_true (teB D) with hte | hte
      · go_wp2_with fail
        go_at_call 121
        refine (shte_any HF.out.sa HF.out.tod).mono ?_
        rw [hte]
        rintro e w5 ⟨rfl, rfl⟩
        go_wp2_with fail
        go_at_call 14
        refine (mz_time HF.out.mz).mono ?_
        rintro e w5 ⟨rfl, rfl⟩
        have HE := Lib.hid (HF.out.setA 8 (.int .i64 ((takeS M A.who S.la).lg.length : Int)) (HF.out.sa.set8 ((takeS M A.who S.la).lg.length : Int)) rfl rfl rfl rfl)
        go_wp2_with fail
        go_at_call 52
        refine (shover_any HE.out.sa HE.out.tod).mono ?_
        rintro e w9 ⟨rfl, rfl⟩
        go_wp2_with fail
        go_ret
        refine ⟨rfl, zs1, (.slice (some ⟨db, doff + 2, none⟩) D.length (dcap - 1)), A.tv, HZ1.out.1, fun j hj => (HZ1.out.2 j hj).imp id (fun e => by have := hX.out; omega), ?_⟩
        have e : mkA { A with dv := (.slice (some ⟨db, doff + 2, none⟩) D.length (dcap - 1)), tv := A.tv, ver := A.ver } D ((takeS M A.who S.la).lg.length : Int) = { { A with dv := (.slice (some ⟨db, doff + 2, none⟩) D.length (dcap - 1)), tv := A.tv, ver := A.ver } with mk' := ((takeS M A.who S.la).lg.length : Int) } := by unfold mkA; rw [if_pos ⟨hm, hte⟩]
        rw [e]
        exact HE.out.under HS.out.1 HS.out.2
      · have HE := HF
        go_wp2_with fail
        go_at_call 121
        refine (shte_any HF.out.sa HF.out.tod).mono ?_
        rw [hte]
        rintro e w5 ⟨rfl, rfl⟩
        go_wp2_with fail
        go_at_call 52
        refine (shover_any HE.out.sa HE.out.tod).mono ?_
        rintro e w9 ⟨rfl, rfl⟩
        go_wp2_with fail
        go_ret
        refine ⟨rfl, zs1, (.slice (some ⟨db, doff + 2, none⟩) D.length (dcap - 1)), A.tv, HZ1.out.1, fun j hj => (HZ1.out.2 j hj).imp id (fun e => by have := hX.out; omega), ?_⟩
        have e : mkA { A with dv := (.slice (some ⟨db, doff + 2, none⟩) D.length (dcap - 1)), tv := A.tv, ver := A.ver } D ((takeS M A.who S.la).lg.length : Int) = { A with dv := (.slice (some ⟨db, doff + 2, none⟩) D.length (dcap - 1)), tv := A.tv, ver := A.ver } := by unfold mkA; rw [if_neg (by rw [hte]; simp)]
        rw [e]
        exact HE.out.under HS.out.1 HS.out.2
    · have HE := HF
      have hm2 : (A.mk' == 0) = false := by rw [beq_eq_false_iff_ne]; exact hm
      go_wp2_with fail
      go_at_call 52
      refine (shover_any HE.out.sa HE.out.tod).mono ?_
      rintro e w9 ⟨rfl, rfl⟩
      go_wp2_with fail
      go_ret
      refine ⟨rfl, zs1, (.slice (some ⟨db, doff + 2, none⟩) D.length (dcap - 1)), A.tv, HZ1.out.1, fun j hj => (HZ1.out.2 j hj).imp id (fun e => by have := hX.out; omega), ?_⟩
      have e : mkA { A with dv := (.slice (some ⟨db, doff + 2, none⟩) D.length (dcap - 1)), tv := A.tv, ver := A.ver } D ((takeS M A.who S.la).lg.length : Int) = { A with dv := (.slice (some ⟨db, doff + 2, none⟩) D.length (dcap - 1)), tv := A.tv, ver := A.ver } := by unfold mkA; exact if_neg (fun h => hm h.1)
      rw [e]
      exact HE.out.under HS.out.1 HS.out.2

set_option maxRecDepth 1000000 in
set_option maxHeartbeats 16000000 in
theorem shstep_load0 (h : Sg n w0 wr fs zs a s S A P T ((0, 0) :: D) M w) (hsp : M.sp A.who = false) (hG : Mm.Good a0 b0 c0 k M) (ha : a0 ≤ 65536) (hb : b0 ≤ 65536) (hc : c0 ≤ 65536) (hk : k ≤ 100000) (hwho : I64 A.who) (hwd : 0 ≤ S.wd ∧ S.wd ≤ 100000) (hv : D = [] → loadV M A.who S.wd = A.ver) (hp : A.pub = false → (loadV M A.who S.wd).tmod 2 = 0) :
    Calls Try.prog 93 #[.pointer (some ⟨a, 0, none⟩)] w (ShQ n w0 wr fs zs a s S A P T D (lookS M A.who 0 S.wd) (loadV M A.who S.wd) w.heap.size) := by
  have HR := Lib.hid h
  have HOV := Lib.hid (shover_any h.sa h.tod)
  have hdf : decide (((0, 0) :: D : List (Int × Int)) = []) = false := by simp
  rw [hdf] at HOV
  obtain ⟨c0, c1, c2, c3, c4, c5, c6, c7, c8, cf⟩ := h.sa.cells
  obtain ⟨s0, s1, s2, s3, s4⟩ := h.si.cells
  rw [h.as'] at c0
  obtain ⟨dao, dcap, hdv, hdc0, hdc⟩ := h.tod.form
  have htod := h.tod
  rw [hdv] at c5 htod
  obtain ⟨db, doff, rfl, hdb, hx⟩ := htod.at (i := 0) (x := (0, 0)) rfl
  have e0 := hx 0 _ (by decide) rfl
  have e1 := hx 1 _ (by decide) rfl
  simp only [Nat.zero_mul, Nat.add_zero] at e0 e1
  have hdl : (0 : Int) < ((D.length + 1 : Nat) : Int) := by omega
  have hdc1 : D.length + 1 ≤ dcap := by simpa using hdc0
  have hal := h.sa.lt
  have hsl := h.si.lt
  have HTOD := Lib.hid (show Rr accK w (.slice (some ⟨db, doff, none⟩) (D.length + 1) dcap) ((0, 0) :: D) from htod)
  have HDV := Lib.hid (show A.dv = .slice (some ⟨db, doff, none⟩) (D.length + 1) dcap from hdv)
  have HG := Lib.hid hG
  have HSP := Lib.hid hsp
  have HB := Lib.hid (And.intro ha (And.intro hb (And.intro hc hk)))
  have HWHO := Lib.hid hwho
  have HWI : Hid (I64 S.wd) := Lib.hid ⟨by omega, by omega⟩
  have HV := Lib.hid (And.intro hv hp)
  have hw1 : IntKind.i64.wrap S.wd = S.wd := by rw [IntKind.wrap_i64]; omega
  clear hv hp hwd

  clear hx htod hdf h hdv hG hsp ha hb hc hk hwho hdc0
  go_enter Try.func93, Try.ntmps93
  go_wp2_with fail
  go_at_call 52
  refine HOV.out.mono ?_
  rintro e w1 ⟨rfl, rfl⟩
  go_upto_region 3 with fail
  go_region
  go_upto_region 4 with fail
  have hn := heap_alloc_new w (.cells #[Value.int .i64 (0), .int .i64 (0)] 164)
  have hxl : w.heap.size < (w.alloc (.cells #[Value.int .i64 (0), .int .i64 (0)] 164)).drew.heap.size := (Array.getElem?_eq_some_iff.1 hn).1
  have x0 : (w.alloc (.cells #[Value.int .i64 (0), .int .i64 (0)] 164)).drew.cell? ⟨w.heap.size, 0, none⟩ = some (.int .i64 (0)) := cell_of_row _ _ _ _ _ _ hn
  have x1 : (w.alloc (.cells #[Value.int .i64 (0), .int .i64 (0)] 164)).drew.cell? ⟨w.heap.size, 1, none⟩ = some (.int .i64 (0)) := cell_of_row _ _ _ _ _ _ hn
  have hbx : Below w.heap.size w (w.alloc (.cells #[Value.int .i64 (0), .int .i64 (0)] 164)).drew := ((Below.refl _ _).alloc (Nat.le_refl _) _).drew
  obtain ⟨zs1, y1, y2, hov⟩ := HR.out.over hbx (Nat.le_refl w.heap.size) hxl
  have HO := Lib.hid hov
  have HZ1 := Lib.hid (And.intro y1 y2)
  have HTW := Lib.hid (HTOD.out.below hbx)
  have HS := Lib.hid (And.intro (fun j (hj : j ∈ fs) => (hbx.block j (zs_lt HR.out.mz j (HR.out.fz j hj))).trans (HR.out.fr j hj)) (Nat.le_trans HR.out.sz hbx.size))
  have HX := Lib.hid (And.intro x0 x1)
  have HSZ := Lib.hid hbx.size
  generalize hX : w.heap.size = X at *
  replace hX := Lib.hid hX
  generalize (w.alloc (.cells #[Value.int .i64 (0), .int .i64 (0)] 164)).drew = W at *
  clear hn hxl hbx hov y1 y2 c0 c1 c2 c3 c4 c5 c6 c7 c8 cf s0 s1 s2 s3 s4 hal hsl hdb e0 e1 HOV HTOD
  obtain ⟨c0, c1, c2, c3, c4, c5, c6, c7, c8, cf⟩ := HO.out.sa.cells
  obtain ⟨s0, s1, s2, s3, s4⟩ := HO.out.si.cells
  rw [HO.out.as'] at c0
  rw [HDV.out] at c5
  go_wp2_with fail
  go_at_call 66
  refine (mz_asleep HO.out.mz A.who HWHO.out).mono ?_
  rw [HSP.out]
  rintro e w1 ⟨rfl, rfl⟩
  go_upto_region 6 with fail

  have hcc : (dcap = 1 ∧ D = []) ∨ dcap ≠ 1 := by
    by_cases e : dcap = 1
    · exact .inl ⟨e, List.length_eq_zero_iff.1 (by omega)⟩
    · exact .inr e
  rcases hcc with ⟨rfl, rfl⟩ | hcap
  · skip
    have HD := Lib.hid (HO.out.setD (v := (.slice (some ⟨db, doff, none⟩) 0 0)) rr_nil0 (by rw [HDV.out]; rfl))

    go_upto_region 7 with fail
    clear c0 c1 c2 c3 c4 c5 c6 c7 c8 cf s0 s1 s2 s3 s4 x0 x1
    generalize W.setCell ⟨a, 5, none⟩ (.slice (some ⟨db, doff, none⟩) 0 0) = W2 at *
    obtain ⟨c0, c1, c2, c3, c4, c5, c6, c7, c8, cf⟩ := HD.out.sa.cells
    obtain ⟨s0, s1, s2, s3, s4⟩ := HD.out.si.cells
    rw [HD.out.as'] at c0
    obtain ⟨x0, x1⟩ := HD.out.acc HX.out.1 HX.out.2
    go_upto_region 9 with fail
    replace HD := Lib.hid (HD.out.below (Below.refl _ _).drew)
    clear c0 c1 c2 c3 c4 c5 c6 c7 c8 cf s0 s1 s2 s3 s4 x0 x1
    obtain ⟨c0, c1, c2, c3, c4, c5, c6, c7, c8, cf⟩ := HD.out.sa.cells
    obtain ⟨s0, s1, s2, s3, s4⟩ := HD.out.si.cells
    rw [HD.out.as'] at c0
    obtain ⟨x0, x1⟩ := HD.out.acc HX.out.1 HX.out.2
    refine wp_region_held_drew (S := (fun w' => w'.cell? ⟨X, 1, none⟩ = some (.int .i64 (0)) ∧ w'.cell? ⟨a, 1, none⟩ = some (.int .i64 A.who) ∧ w'.cell? ⟨a, 0, none⟩ = some (.pointer (some ⟨s, 0, none⟩)) ∧ w'.cell? ⟨s, 1, none⟩ = some (.int .i64 S.wd))) (by kernel_rfl) ?_ (fun hHeld => ?_)
    · ((try dsimp only); first | (obtain ⟨k0, k1, _⟩ := HD.out.sa.cells; obtain ⟨_, t1, _⟩ := HD.out.si.cells; obtain ⟨_, y1⟩ := HD.out.acc HX.out.1 HX.out.2; rw [HD.out.as'] at k0; exact ⟨y1, k1, k0, t1⟩))
    refine wpAnyH_take (i := 0) (v := ?_) rfl (by kernel_rfl) (by kernel_rfl) (by kernel_rfl) (fun _ _ _ h => h) (Or.inl ⟨by rfl, ?_⟩) (by assumption) ?_
    rotate_left 1
    · (intro w hSw; (try dsimp only at hSw); first | (go_simp; done) | (go_simp; with_reducible rfl))
    try simp only [Act.put, List.setIfInBounds_toArray, List.set_cons_zero, List.set_cons_succ, List.getElem_toArray, List.getElem_cons_zero]
    refine wpAnyH_take (i := 1) (v := ?_) rfl (by kernel_rfl) (by kernel_rfl) (by kernel_rfl) (fun _ _ _ h => h) (Or.inl ⟨by rfl, ?_⟩) (by assumption) ?_
    rotate_left 1
    · (intro w hSw; (try dsimp only at hSw); first | (go_simp; done) | (go_simp; with_reducible rfl))
    try simp only [Act.put, List.setIfInBounds_toArray, List.set_cons_zero, List.set_cons_succ, List.getElem_toArray, List.getElem_cons_zero, List.getElem_cons_succ]
    refine wpAnyH_take (i := 2) (v := ?_) rfl (by kernel_rfl) (by kernel_rfl) (by kernel_rfl) (fun _ _ _ h => h) (Or.inl ⟨by rfl, ?_⟩) (by assumption) ?_
    rotate_left 1
    · (intro w hSw; (try dsimp only at hSw); first | (go_simp; done) | (go_simp; with_reducible rfl))
    try simp only [Act.put, List.setIfInBounds_toArray, List.set_cons_zero, List.set_cons_succ, List.getElem_toArray, List.getElem_cons_zero, List.getElem_cons_succ]
    refine wpAnyH_take (i := 3) (v := ?_) rfl (by kernel_rfl) (by kernel_rfl) (by kernel_rfl) (fun _ _ _ h => h) (Or.inl ⟨by rfl, ?_⟩) (by assumption) ?_
    rotate_left 1
    · (intro w hSw; (try dsimp only at hSw); first | (go_simp; done) | (go_simp; with_reducible rfl))
    try simp only [Act.put, List.setIfInBounds_toArray, List.set_cons_zero, List.set_cons_succ, List.getElem_toArray, List.getElem_cons_zero, List.getElem_cons_succ]
    refine wpAnyH_take (i := 4) (v := ?_) rfl (by kernel_rfl) (by kernel_rfl) (by kernel_rfl) (fun _ _ _ h => h) (Or.inl ⟨by rfl, ?_⟩) (by assumption) ?_
    rotate_left 1
    · (intro w hSw; (try dsimp only at hSw); first | (go_simp; done) | (go_simp; with_reducible rfl))
    try simp only [Act.put, List.setIfInBounds_toArray, List.set_cons_zero, List.set_cons_succ, List.getElem_toArray, List.getElem_cons_zero, List.getElem_cons_succ]
    refine wpAnyH_take (i := 5) (v := ?_) rfl (by kernel_rfl) (by kernel_rfl) (by kernel_rfl) (fun _ _ _ h => h) (Or.inl ⟨by rfl, ?_⟩) (by assumption) ?_
    rotate_left 1
    · (intro w hSw; (try dsimp only at hSw); first | (go_simp; done) | (go_simp; with_reducible rfl))
    try simp only [Act.put, List.setIfInBounds_toArray, List.set_cons_zero, List.set_cons_succ, List.getElem_toArray, List.getElem_cons_zero, List.getElem_cons_succ]
    refine wpAnyH_take (i := 6) (v := ?_) rfl (by kernel_rfl) (by kernel_rfl) (by kernel_rfl) (fun _ _ _ h => h) (Or.inl ⟨by rfl, ?_⟩) (by assumption) ?_
    rotate_left 1
    · (intro w hSw; (try dsimp only at hSw); first | (go_simp; done) | (go_simp; with_reducible rfl))
    try simp only [Act.put, List.setIfInBounds_toArray, List.set_cons_zero, List.set_cons_succ, List.getElem_toArray, List.getElem_cons_zero, List.getElem_cons_succ]
    refine wpAnyH_take (i := 7) (v := ?_) rfl (by kernel_rfl) (by kernel_rfl) (by kernel_rfl) (fun _ _ _ h => h) (Or.inl ⟨by rfl, ?_⟩) (by assumption) ?_
    rotate_left 1
    · (intro w hSw; (try dsimp only at hSw); first | (go_simp; done) | (go_simp; with_reducible rfl))
    try simp only [Act.put, List.setIfInBounds_toArray, List.set_cons_zero, List.set_cons_succ, List.getElem_toArray, List.getElem_cons_zero, List.getElem_cons_succ]
    refine wpAnyH_take (i := 8) (v := ?_) rfl (by kernel_rfl) (by kernel_rfl) (by kernel_rfl) (fun _ _ _ h => h) (Or.inl ⟨by rfl, ?_⟩) (by assumption) ?_
    rotate_left 1
    · (intro w hSw; (try dsimp only at hSw); first | (go_simp; done) | (go_simp; with_reducible rfl))
    try simp only [Act.put, List.setIfInBounds_toArray, List.set_cons_zero, List.set_cons_succ, List.getElem_toArray, List.getElem_cons_zero, List.getElem_cons_succ]
    refine wpAnyH_take (i := 9) (v := ?_) rfl (by kernel_rfl) (by kernel_rfl) (by kernel_rfl) (fun _ _ _ h => h) (Or.inl ⟨by rfl, ?_⟩) (by assumption) ?_
    rotate_left 1
    · (intro w hSw; (try dsimp only at hSw); first | (go_simp; done) | (go_simp; with_reducible rfl))
    try simp only [Act.put, List.setIfInBounds_toArray, List.set_cons_zero, List.set_cons_succ, List.getElem_toArray, List.getElem_cons_zero, List.getElem_cons_succ]
    refine wpAnyH_take (i := 10) (v := ?_) rfl (by kernel_rfl) (by kernel_rfl) (by kernel_rfl) (fun _ _ _ h => h) (Or.inl ⟨by rfl, ?_⟩) (by assumption) ?_
    rotate_left 1
    · (intro w hSw; (try dsimp only at hSw); first | (go_simp; done) | (go_simp; with_reducible rfl))
    try simp only [Act.put, List.setIfInBounds_toArray, List.set_cons_zero, List.set_cons_succ, List.getElem_toArray, List.getElem_cons_zero, List.getElem_cons_succ]
    refine wpAnyH_take (i := 11) (v := ?_) rfl (by kernel_rfl) (by kernel_rfl) (by kernel_rfl) (fun _ _ _ h => h) (Or.inl ⟨by rfl, ?_⟩) (by assumption) ?_
    rotate_left 1
    · (intro w hSw; (try dsimp only at hSw); first | (go_simp; done) | (go_simp; with_reducible rfl))
    try simp only [Act.put, List.setIfInBounds_toArray, List.set_cons_zero, List.set_cons_succ, List.getElem_toArray, List.getElem_cons_zero, List.getElem_cons_succ]
    refine wpAnyH_take (i := 12) (v := ?_) rfl (by kernel_rfl) (by kernel_rfl) (by kernel_rfl) (fun _ _ _ h => h) (Or.inl ⟨by rfl, ?_⟩) (by assumption) ?_
    rotate_left 1
    · (intro w hSw; (try dsimp only at hSw); first | (go_simp; done) | (go_simp; with_reducible rfl))
    try simp only [Act.put, List.setIfInBounds_toArray, List.set_cons_zero, List.set_cons_succ, List.getElem_toArray, List.getElem_cons_zero, List.getElem_cons_succ]
    refine wpAnyH_take (i := 13) (v := ?_) rfl (by kernel_rfl) (by kernel_rfl) (by kernel_rfl) (fun _ _ _ h => h) (Or.inl ⟨by rfl, ?_⟩) (by assumption) ?_
    rotate_left 1
    · (intro w hSw; (try dsimp only at hSw); first | (go_simp; done) | (go_simp; with_reducible rfl))
    try simp only [Act.put, List.setIfInBounds_toArray, List.set_cons_zero, List.set_cons_succ, List.getElem_toArray, List.getElem_cons_zero, List.getElem_cons_succ]
    refine wpAnyH_take (i := 14) (v := ?_) rfl (by kernel_rfl) (by kernel_rfl) (by kernel_rfl) (fun _ _ _ h => h) (Or.inl ⟨by rfl, ?_⟩) (by assumption) ?_
    rotate_left 1
    · (intro w hSw; (try dsimp only at hSw); first | (go_simp; done) | (go_simp; with_reducible rfl))
    try simp only [Act.put, List.setIfInBounds_toArray, List.set_cons_zero, List.set_cons_succ, List.getElem_toArray, List.getElem_cons_zero, List.getElem_cons_succ]
    refine wpAnyH_take (i := 15) (v := ?_) rfl (by kernel_rfl) (by kernel_rfl) (by kernel_rfl) (fun _ _ _ h => h) (Or.inl ⟨by rfl, ?_⟩) (by assumption) ?_
    rotate_left 1
    · (intro w hSw; (try dsimp only at hSw); first | (go_simp; done) | (go_simp; with_reducible rfl))
    try simp only [Act.put, List.setIfInBounds_toArray, List.set_cons_zero, List.set_cons_succ, List.getElem_toArray, List.getElem_cons_zero, List.getElem_cons_succ]
    refine wpAnyH_take (i := 16) (v := ?_) rfl (by kernel_rfl) (by kernel_rfl) (by kernel_rfl) (fun _ _ _ h => h) (Or.inl ⟨by rfl, ?_⟩) (by assumption) ?_
    rotate_left 1
    · (intro w hSw; (try dsimp only at hSw); first | (go_simp; done) | (go_simp; with_reducible rfl))
    try simp only [Act.put, List.setIfInBounds_toArray, List.set_cons_zero, List.set_cons_succ, List.getElem_toArray, List.getElem_cons_zero, List.getElem_cons_succ]
    refine wpAnyH_take (i := 17) (v := ?_) rfl (by kernel_rfl) (by kernel_rfl) (by kernel_rfl) (fun _ _ _ h => h) (Or.inl ⟨by rfl, ?_⟩) (by assumption) ?_
    rotate_left 1
    · (intro w hSw; (try dsimp only at hSw); first | (go_simp; done) | (go_simp; with_reducible rfl))
    try simp only [Act.put, List.setIfInBounds_toArray, List.set_cons_zero, List.set_cons_succ, List.getElem_toArray, List.getElem_cons_zero, List.getElem_cons_succ]
    refine wpAnyH_ready (rs := [18]) (by kernel_rfl) (by simp) ?_
    refine AllReadyH.cons rfl (fun K hK => ?_) AllReadyH.nil
    go_simp
    go_at_call 78
    refine (mz_load HD.out.mz HG.out HB.out.1 HB.out.2.1 HB.out.2.2.1 HB.out.2.2.2 A.who S.wd HWHO.out HWI.out).mono ?_
    rintro e W3 ⟨rfl, hm, hkb⟩
    have H3 := Lib.hid (HD.out.call hm hkb)
    clear hm hkb
    try go_wp2_with fail
    refine hK.out _ _ ?_ (fun hHeld => ?_)
    · ((try dsimp only); first | (obtain ⟨k0, k1, _⟩ := H3.out.sa.cells; obtain ⟨_, t1, _⟩ := H3.out.si.cells; obtain ⟨_, y1⟩ := H3.out.acc HX.out.1 HX.out.2; rw [H3.out.as'] at k0; exact ⟨y1, k1, k0, t1⟩))
    clear hK K
    try simp only [Act.put, List.setIfInBounds_toArray, List.set_cons_zero, List.set_cons_succ, List.getElem_toArray, List.getElem_cons_zero, List.getElem_cons_succ]
    refine wpAnyH_ready (rs := [19]) (by kernel_rfl) (by simp) ?_
    refine AllReadyH.cons rfl (fun K hK => ?_) AllReadyH.nil
    go_simp
    go_at_call 119
    refine (shloaded_0 H3.out _ (fun h => by first | exact HV.out.1 h | exact HV.out.1 trivial) HV.out.2).mono ?_
    rintro e W4 ⟨rfl, h4⟩
    have HF := Lib.hid h4
    clear h4
    try go_wp2_with fail
    refine hK.out _ _ ?_ (fun hHeld => ?_)
    · ((try dsimp only); first | (obtain ⟨k0, k1, _⟩ := HF.out.sa.cells; obtain ⟨_, t1, _⟩ := HF.out.si.cells; obtain ⟨_, y1⟩ := HF.out.acc HX.out.1 HX.out.2; rw [HF.out.as'] at k0; exact ⟨y1, k1, k0, t1⟩))
    clear hK K
    try simp only [Act.put, List.setIfInBounds_toArray, List.set_cons_zero, List.set_cons_succ, List.getElem_toArray, List.getElem_cons_zero, List.getElem_cons_succ]
    refine wpAnyH_done (by kernel_rfl) ?_ _
    clear c0 c1 c2 c3 c4 c5 c6 c7 c8 cf s0 s1 s2 s3 s4 x0 x1


    obtain ⟨f0, f1, f2, f3, f4, f5, f6, f7, f8, ff⟩ := HF.out.sa.cells
    have f8' : W4.cell? ⟨a, 8, none⟩ = some (.int .i64 A.mk') := f8
    clear f8
    by_cases hm : A.mk' = 0
    · rw [hm] at f8'
      rcases Bool.eq_false_or_eq_true (teB []) with hte | hte
      · go_wp2_with fail
        go_at_call 121
        refine (shte_any HF.out.sa HF.out.tod).mono ?_
        rw [hte]
        rintro e w5 ⟨rfl, rfl⟩
        go_wp2_with fail
        go_at_call 14
        refine (mz_time HF.out.mz).mono ?_
        rintro e w5 ⟨rfl, rfl⟩
        have HE := Lib.hid (HF.out.setA 8 (.int .i64 ((lookS M A.who 0 S.wd).lg.length : Int)) (HF.out.sa.set8 ((lookS M A.who 0 S.wd).lg.length : Int)) rfl rfl rfl rfl)
        go_wp2_with fail
        go_at_call 52
        refine (shover_any HE.out.sa HE.out.tod).mono ?_
        rintro e w9 ⟨rfl, rfl⟩
        go_wp2_with fail
        go_ret
        refine ⟨rfl, zs1, (.slice (some ⟨db, doff, none⟩) 0 0), A.tv, HZ1.out.1, fun j hj => (HZ1.out.2 j hj).imp id (fun e => by have := hX.out; omega), ?_⟩
        have e : mkA { A with dv := (.slice (some ⟨db, doff, none⟩) 0 0), tv := A.tv, ver := loadV M A.who S.wd } [] ((lookS M A.who 0 S.wd).lg.length : Int) = { { A with dv := (.slice (some ⟨db, doff, none⟩) 0 0), tv := A.tv, ver := loadV M A.who S.wd } with mk' := ((lookS M A.who 0 S.wd).lg.length : Int) } := by unfold mkA; rw [if_pos ⟨hm, hte⟩]
        rw [e]
        exact HE.out.under HS.out.1 HS.out.2
      · have HE := HF
        go_wp2_with fail
        go_at_call 121
        refine (shte_any HF.out.sa HF.out.tod).mono ?_
        rw [hte]
        rintro e w5 ⟨rfl, rfl⟩
        go_wp2_with fail
        go_at_call 52
        refine (shover_any HE.out.sa HE.out.tod).mono ?_
        rintro e w9 ⟨rfl, rfl⟩
        go_wp2_with fail
        go_ret
        refine ⟨rfl, zs1, (.slice (some ⟨db, doff, none⟩) 0 0), A.tv, HZ1.out.1, fun j hj => (HZ1.out.2 j hj).imp id (fun e => by have := hX.out; omega), ?_⟩
        have e : mkA { A with dv := (.slice (some ⟨db, doff, none⟩) 0 0), tv := A.tv, ver := loadV M A.who S.wd } [] ((lookS M A.who 0 S.wd).lg.length : Int) = { A with dv := (.slice (some ⟨db, doff, none⟩) 0 0), tv := A.tv, ver := loadV M A.who S.wd } := by unfold mkA; rw [if_neg (by rw [hte]; simp)]
        rw [e]
        exact HE.out.under HS.out.1 HS.out.2
    · have HE := HF
      have hm2 : (A.mk' == 0) = false := by rw [beq_eq_false_iff_ne]; exact hm
      go_wp2_with fail
      go_at_call 52
      refine (shover_any HE.out.sa HE.out.tod).mono ?_
      rintro e w9 ⟨rfl, rfl⟩
      go_wp2_with fail
      go_ret
      refine ⟨rfl, zs1, (.slice (some ⟨db, doff, none⟩) 0 0), A.tv, HZ1.out.1, fun j hj => (HZ1.out.2 j hj).imp id (fun e => by have := hX.out; omega), ?_⟩
      have e : mkA { A with dv := (.slice (some ⟨db, doff, none⟩) 0 0), tv := A.tv, ver := loadV M A.who S.wd } [] ((lookS M A.who 0 S.wd).lg.length : Int) = { A with dv := (.slice (some ⟨db, doff, none⟩) 0 0), tv := A.tv, ver := loadV M A.who S.wd } := by unfold mkA; exact if_neg (fun h => hm h.1)
      rw [e]
      exact HE.out.under HS.out.1 HS.out.2
  · skip
    have HD := Lib.hid (HO.out.setD (v := (.slice (some ⟨db, doff + 2, none⟩) D.length (dcap - 1))) (rr_tail (HTW.out)) (by rw [HDV.out]; rfl))
    have hc1 : 0 < dcap - 1 := by omega
    go_upto_region 7 with fail
    clear c0 c1 c2 c3 c4 c5 c6 c7 c8 cf s0 s1 s2 s3 s4 x0 x1
    generalize W.setCell ⟨a, 5, none⟩ (.slice (some ⟨db, doff + 2, none⟩) D.length (dcap - 1)) = W2 at *
    obtain ⟨c0, c1, c2, c3, c4, c5, c6, c7, c8, cf⟩ := HD.out.sa.cells
    obtain ⟨s0, s1, s2, s3, s4⟩ := HD.out.si.cells
    rw [HD.out.as'] at c0
    obtain ⟨x0, x1⟩ := HD.out.acc HX.out.1 HX.out.2
    go_upto_region 9 with fail
    replace HD := Lib.hid (HD.out.below (Below.refl _ _).drew)
    clear c0 c1 c2 c3 c4 c5 c6 c7 c8 cf s0 s1 s2 s3 s4 x0 x1
    obtain ⟨c0, c1, c2, c3, c4, c5, c6, c7, c8, cf⟩ := HD.out.sa.cells
    obtain ⟨s0, s1, s2, s3, s4⟩ := HD.out.si.cells
    rw [HD.out.as'] at c0
    obtain ⟨x0, x1⟩ := HD.out.acc HX.out.1 HX.out.2
    refine wp_region_held_drew (S := (fun w' => w'.cell? ⟨X, 1, none⟩ = some (.int .i64 (0)) ∧ w'.cell? ⟨a, 1, none⟩ = some (.int .i64 A.who) ∧ w'.cell? ⟨a, 0, none⟩ = some (.pointer (some ⟨s, 0, none⟩)) ∧ w'.cell? ⟨s, 1, none⟩ = some (.int .i64 S.wd))) (by kernel_rfl) ?_ (fun hHeld => ?_)
    · ((try dsimp only); first | (obtain ⟨k0, k1, _⟩ := HD.out.sa.cells; obtain ⟨_, t1, _⟩ := HD.out.si.cells; obtain ⟨_, y1⟩ := HD.out.acc HX.out.1 HX.out.2; rw [HD.out.as'] at k0; exact ⟨y1, k1, k0, t1⟩))
    refine wpAnyH_take (i := 0) (v := ?_) rfl (by kernel_rfl) (by kernel_rfl) (by kernel_rfl) (fun _ _ _ h => h) (Or.inl ⟨by rfl, ?_⟩) (by assumption) ?_
    rotate_left 1
    · (intro w hSw; (try dsimp only at hSw); first | (go_simp; done) | (go_simp; with_reducible rfl))
    try simp only [Act.put, List.setIfInBounds_toArray, List.set_cons_zero, List.set_cons_succ, List.getElem_toArray, List.getElem_cons_zero]
    refine wpAnyH_take (i := 1) (v := ?_) rfl (by kernel_rfl) (by kernel_rfl) (by kernel_rfl) (fun _ _ _ h => h) (Or.inl ⟨by rfl, ?_⟩) (by assumption) ?_
    rotate_left 1
    · (intro w hSw; (try dsimp only at hSw); first | (go_simp; done) | (go_simp; with_reducible rfl))
    try simp only [Act.put, List.setIfInBounds_toArray, List.set_cons_zero, List.set_cons_succ, List.getElem_toArray, List.getElem_cons_zero, List.getElem_cons_succ]
    refine wpAnyH_take (i := 2) (v := ?_) rfl (by kernel_rfl) (by kernel_rfl) (by kernel_rfl) (fun _ _ _ h => h) (Or.inl ⟨by rfl, ?_⟩) (by assumption) ?_
    rotate_left 1
    · (intro w hSw; (try dsimp only at hSw); first | (go_simp; done) | (go_simp; with_reducible rfl))
    try simp only [Act.put, List.setIfInBounds_toArray, List.set_cons_zero, List.set_cons_succ, List.getElem_toArray, List.getElem_cons_zero, List.getElem_cons_succ]
    refine wpAnyH_take (i := 3) (v := ?_) rfl (by kernel_rfl) (by kernel_rfl) (by kernel_rfl) (fun _ _ _ h => h) (Or.inl ⟨by rfl, ?_⟩) (by assumption) ?_
    rotate_left 1
    · (intro w hSw; (try dsimp only at hSw); first | (go_simp; done) | (go_simp; with_reducible rfl))
    try simp only [Act.put, List.setIfInBounds_toArray, List.set_cons_zero, List.set_cons_succ, List.getElem_toArray, List.getElem_cons_zero, List.getElem_cons_succ]
    refine wpAnyH_take (i := 4) (v := ?_) rfl (by kernel_rfl) (by kernel_rfl) (by kernel_rfl) (fun _ _ _ h => h) (Or.inl ⟨by rfl, ?_⟩) (by assumption) ?_
    rotate_left 1
    · (intro w hSw; (try dsimp only at hSw); first | (go_simp; done) | (go_simp; with_reducible rfl))
    try simp only [Act.put, List.setIfInBounds_toArray, List.set_cons_zero, List.set_cons_succ, List.getElem_toArray, List.getElem_cons_zero, List.getElem_cons_succ]
    refine wpAnyH_take (i := 5) (v := ?_) rfl (by kernel_rfl) (by kernel_rfl) (by kernel_rfl) (fun _ _ _ h => h) (Or.inl ⟨by rfl, ?_⟩) (by assumption) ?_
    rotate_left 1
    · (intro w hSw; (try dsimp only at hSw); first | (go_simp; done) | (go_simp; with_reducible rfl))
    try simp only [Act.put, List.setIfInBounds_toArray, List.set_cons_zero, List.set_cons_succ, List.getElem_toArray, List.getElem_cons_zero, List.getElem_cons_succ]
    refine wpAnyH_take (i := 6) (v := ?_) rfl (by kernel_rfl) (by kernel_rfl) (by kernel_rfl) (fun _ _ _ h => h) (Or.inl ⟨by rfl, ?_⟩) (by assumption) ?_
    rotate_left 1
    · (intro w hSw; (try dsimp only at hSw); first | (go_simp; done) | (go_simp; with_reducible rfl))
    try simp only [Act.put, List.setIfInBounds_toArray, List.set_cons_zero, List.set_cons_succ, List.getElem_toArray, List.getElem_cons_zero, List.getElem_cons_succ]
    refine wpAnyH_take (i := 7) (v := ?_) rfl (by kernel_rfl) (by kernel_rfl) (by kernel_rfl) (fun _ _ _ h => h) (Or.inl ⟨by rfl, ?_⟩) (by assumption) ?_
    rotate_left 1
    · (intro w hSw; (try dsimp only at hSw); first | (go_simp; done) | (go_simp; with_reducible rfl))
    try simp only [Act.put, List.setIfInBounds_toArray, List.set_cons_zero, List.set_cons_succ, List.getElem_toArray, List.getElem_cons_zero, List.getElem_cons_succ]
    refine wpAnyH_take (i := 8) (v := ?_) rfl (by kernel_rfl) (by kernel_rfl) (by kernel_rfl) (fun _ _ _ h => h) (Or.inl ⟨by rfl, ?_⟩) (by assumption) ?_
    rotate_left 1
    · (intro w hSw; (try dsimp only at hSw); first | (go_simp; done) | (go_simp; with_reducible rfl))
    try simp only [Act.put, List.setIfInBounds_toArray, List.set_cons_zero, List.set_cons_succ, List.getElem_toArray, List.getElem_cons_zero, List.getElem_cons_succ]
    refine wpAnyH_take (i := 9) (v := ?_) rfl (by kernel_rfl) (by kernel_rfl) (by kernel_rfl) (fun _ _ _ h => h) (Or.inl ⟨by rfl, ?_⟩) (by assumption) ?_
    rotate_left 1
    · (intro w hSw; (try dsimp only at hSw); first | (go_simp; done) | (go_simp; with_reducible rfl))
    try simp only [Act.put, List.setIfInBounds_toArray, List.set_cons_zero, List.set_cons_succ, List.getElem_toArray, List.getElem_cons_zero, List.getElem_cons_succ]
    refine wpAnyH_take (i := 10) (v := ?_) rfl (by kernel_rfl) (by kernel_rfl) (by kernel_rfl) (fun _ _ _ h => h) (Or.inl ⟨by rfl, ?_⟩) (by assumption) ?_
    rotate_left 1
    · (intro w hSw; (try dsimp only at hSw); first | (go_simp; done) | (go_simp; with_reducible rfl))
    try simp only [Act.put, List.setIfInBounds_toArray, List.set_cons_zero, List.set_cons_succ, List.getElem_toArray, List.getElem_cons_zero, List.getElem_cons_succ]
    refine wpAnyH_take (i := 11) (v := ?_) rfl (by kernel_rfl) (by kernel_rfl) (by kernel_rfl) (fun _ _ _ h => h) (Or.inl ⟨by rfl, ?_⟩) (by assumption) ?_
    rotate_left 1
    · (intro w hSw; (try dsimp only at hSw); first | (go_simp; done) | (go_simp; with_reducible rfl))
    try simp only [Act.put, List.setIfInBounds_toArray, List.set_cons_zero, List.set_cons_succ, List.getElem_toArray, List.getElem_cons_zero, List.getElem_cons_succ]
    refine wpAnyH_take (i := 12) (v := ?_) rfl (by kernel_rfl) (by kernel_rfl) (by kernel_rfl) (fun _ _ _ h => h) (Or.inl ⟨by rfl, ?_⟩) (by assumption) ?_
    rotate_left 1
    · (intro w hSw; (try dsimp only at hSw); first | (go_simp; done) | (go_simp; with_reducible rfl))
    try simp only [Act.put, List.setIfInBounds_toArray, List.set_cons_zero, List.set_cons_succ, List.getElem_toArray, List.getElem_cons_zero, List.getElem_cons_succ]
    refine wpAnyH_take (i := 13) (v := ?_) rfl (by kernel_rfl) (by kernel_rfl) (by kernel_rfl) (fun _ _ _ h => h) (Or.inl ⟨by rfl, ?_⟩) (by assumption) ?_
    rotate_left 1
    · (intro w hSw; (try dsimp only at hSw); first | (go_simp; done) | (go_simp; with_reducible rfl))
    try simp only [Act.put, List.setIfInBounds_toArray, List.set_cons_zero, List.set_cons_succ, List.getElem_toArray, List.getElem_cons_zero, List.getElem_cons_succ]
    refine wpAnyH_take (i := 14) (v := ?_) rfl (by kernel_rfl) (by kernel_rfl) (by kernel_rfl) (fun _ _ _ h => h) (Or.inl ⟨by rfl, ?_⟩) (by assumption) ?_
    rotate_left 1
    · (intro w hSw; (try dsimp only at hSw); first | (go_simp; done) | (go_simp; with_reducible rfl))
    try simp only [Act.put, List.setIfInBounds_toArray, List.set_cons_zero, List.set_cons_succ, List.getElem_toArray, List.getElem_cons_zero, List.getElem_cons_succ]
    refine wpAnyH_take (i := 15) (v := ?_) rfl (by kernel_rfl) (by kernel_rfl) (by kernel_rfl) (fun _ _ _ h => h) (Or.inl ⟨by rfl, ?_⟩) (by assumption) ?_
    rotate_left 1
    · (intro w hSw; (try dsimp only at hSw); first | (go_simp; done) | (go_simp; with_reducible rfl))
    try simp only [Act.put, List.setIfInBounds_toArray, List.set_cons_zero, List.set_cons_succ, List.getElem_toArray, List.getElem_cons_zero, List.getElem_cons_succ]
    refine wpAnyH_take (i := 16) (v := ?_) rfl (by kernel_rfl) (by kernel_rfl) (by kernel_rfl) (fun _ _ _ h => h) (Or.inl ⟨by rfl, ?_⟩) (by assumption) ?_
    rotate_left 1
    · (intro w hSw; (try dsimp only at hSw); first | (go_simp; done) | (go_simp; with_reducible rfl))
    try simp only [Act.put, List.setIfInBounds_toArray, List.set_cons_zero, List.set_cons_succ, List.getElem_toArray, List.getElem_cons_zero, List.getElem_cons_succ]
    refine wpAnyH_take (i := 17) (v := ?_) rfl (by kernel_rfl) (by kernel_rfl) (by kernel_rfl) (fun _ _ _ h => h) (Or.inl ⟨by rfl, ?_⟩) (by assumption) ?_
    rotate_left 1
    · (intro w hSw; (try dsimp only at hSw); first | (go_simp; done) | (go_simp; with_reducible rfl))
    try simp only [Act.put, List.setIfInBounds_toArray, List.set_cons_zero, List.set_cons_succ, List.getElem_toArray, List.getElem_cons_zero, List.getElem_cons_succ]
    refine wpAnyH_ready (rs := [18]) (by kernel_rfl) (by simp) ?_
    refine AllReadyH.cons rfl (fun K hK => ?_) AllReadyH.nil
    go_simp
    go_at_call 78
    refine (mz_load HD.out.mz HG.out HB.out.1 HB.out.2.1 HB.out.2.2.1 HB.out.2.2.2 A.who S.wd HWHO.out HWI.out).mono ?_
    rintro e W3 ⟨rfl, hm, hkb⟩
    have H3 := Lib.hid (HD.out.call hm hkb)
    clear hm hkb
    try go_wp2_with fail
    refine hK.out _ _ ?_ (fun hHeld => ?_)
    · ((try dsimp only); first | (obtain ⟨k0, k1, _⟩ := H3.out.sa.cells; obtain ⟨_, t1, _⟩ := H3.out.si.cells; obtain ⟨_, y1⟩ := H3.out.acc HX.out.1 HX.out.2; rw [H3.out.as'] at k0; exact ⟨y1, k1, k0, t1⟩))
    clear hK K
    try simp only [Act.put, List.setIfInBounds_toArray, List.set_cons_zero, List.set_cons_succ, List.getElem_toArray, List.getElem_cons_zero, List.getElem_cons_succ]
    refine wpAnyH_ready (rs := [19]) (by kernel_rfl) (by simp) ?_
    refine AllReadyH.cons rfl (fun K hK => ?_) AllReadyH.nil
    go_simp
    go_at_call 119
    refine (shloaded_0 H3.out _ (fun h => by first | exact HV.out.1 h | exact HV.out.1 trivial) HV.out.2).mono ?_
    rintro e W4 ⟨rfl, h4⟩
    have HF := Lib.hid h4
    clear h4
    try go_wp2_with fail
    refine hK.out _ _ ?_ (fun hHeld => ?_)
    · ((try dsimp only); first | (obtain ⟨k0, k1, _⟩ := HF.out.sa.cells; obtain ⟨_, t1, _⟩ := HF.out.si.cells; obtain ⟨_, y1⟩ := HF.out.acc HX.out.1 HX.out.2; rw [HF.out.as'] at k0; exact ⟨y1, k1, k0, t1⟩))
    clear hK K
    try simp only [Act.put, List.setIfInBounds_toArray, List.set_cons_zero, List.set_cons_succ, List.getElem_toArray, List.getElem_cons_zero, List.getElem_cons_succ]
    refine wpAnyH_done (by kernel_rfl) ?_ _
    clear c0 c1 c2 c3 c4 c5 c6 c7 c8 cf s0 s1 s2 s3 s4 x0 x1


    obtain ⟨f0, f1, f2, f3, f4, f5, f6, f7, f8, ff⟩ := HF.out.sa.cells
    have f8' : W4.cell? ⟨a, 8, none⟩ = some (.int .i64 A.mk') := f8
    clear f8
    by_cases hm : A.mk' = 0
    · rw [hm] at f8'
      rcases Bool.eq_false_or_eq_true (teB D) with hte | hte
      · go_wp2_with fail
        go_at_call 121
        refine (shte_any HF.out.sa HF.out.tod).mono ?_
        rw [hte]
        rintro e w5 ⟨rfl, rfl⟩
        go_wp2_with fail
        go_at_call 14
        refine (mz_time HF.out.mz).mono ?_
        rintro e w5 ⟨rfl, rfl⟩
        have HE := Lib.hid (HF.out.setA 8 (.int .i64 ((lookS M A.who 0 S.wd).lg.length : Int)) (HF.out.sa.set8 ((lookS M A.who 0 S.wd).lg.length : Int)) rfl rfl rfl rfl)
        go_wp2_with fail
        go_at_call 52
        refine (shover_any HE.out.sa HE.out.tod).mono ?_
        rintro e w9 ⟨rfl, rfl⟩
        go_wp2_with fail
        go_ret
        refine ⟨rfl, zs1, (.slice (some ⟨db, doff + 2, none⟩) D.length (dcap - 1)), A.tv, HZ1.out.1, fun j hj => (HZ1.out.2 j hj).imp id (fun e => by have := hX.out; omega), ?_⟩
        have e : mkA { A with dv := (.slice (some ⟨db, doff + 2, none⟩) D.length (dcap - 1)), tv := A.tv, ver := loadV M A.who S.wd } D ((lookS M A.who 0 S.wd).lg.length : Int) = { { A with dv := (.slice (some ⟨db, doff + 2, none⟩) D.length (dcap - 1)), tv := A.tv, ver := loadV M A.who S.wd } with mk' := ((lookS M A.who 0 S.wd).lg.length : Int) } := by unfold mkA; rw [if_pos ⟨hm, hte⟩]
        rw [e]
        exact HE.out.under HS.out.1 HS.out.2
      · have HE := HF
        go_wp2_with fail
        go_at_call 121
        refine (shte_any HF.out.sa HF.out.tod).mono ?_
        rw [hte]
        rintro e w5 ⟨rfl, rfl⟩
        go_wp2_with fail
        go_at_call 52
        refine (shover_any HE.out.sa HE.out.tod).mono ?_
        rintro e w9 ⟨rfl, rfl⟩
        go_wp2_with fail
        go_ret
        refine ⟨rfl, zs1, (.slice (some ⟨db, doff + 2, none⟩) D.length (dcap - 1)), A.tv, HZ1.out.1, fun j hj => (HZ1.out.2 j hj).imp id (fun e => by have := hX.out; omega), ?_⟩
        have e : mkA { A with dv := (.slice (some ⟨db, doff + 2, none⟩) D.length (dcap - 1)), tv := A.tv, ver := loadV M A.who S.wd } D ((lookS M A.who 0 S.wd).lg.length : Int) = { A with dv := (.slice (some ⟨db, doff + 2, none⟩) D.length (dcap - 1)), tv := A.tv, ver := loadV M A.who S.wd } := by unfold mkA; rw [if_neg (by rw [hte]; simp)]
        rw [e]
        exact HE.out.under HS.out.1 HS.out.2
    · have HE := HF
      have hm2 : (A.mk' == 0) = false := by rw [beq_eq_false_iff_ne]; exact hm
      go_wp2_with fail
      go_at_call 52
      refine (shover_any HE.out.sa HE.out.tod).mono ?_
      rintro e w9 ⟨rfl, rfl⟩
      go_wp2_with fail
      go_ret
      refine ⟨rfl, zs1, (.slice (some ⟨db, doff + 2, none⟩) D.length (dcap - 1)), A.tv, HZ1.out.1, fun j hj => (HZ1.out.2 j hj).imp id (fun e => by have := hX.out; omega), ?_⟩
      have e : mkA { A with dv := (.slice (some ⟨db, doff + 2, none⟩) D.length (dcap - 1)), tv := A.tv, ver := loadV M A.who S.wd } D ((lookS M A.who 0 S.wd).lg.length : Int) = { A with dv := (.slice (some ⟨db, doff + 2, none⟩) D.length (dcap - 1)), tv := A.tv, ver := loadV M A.who S.wd } := by unfold mkA; exact if_neg (fun h => hm h.1)
      rw [e]
      exact HE.out.under HS.out.1 HS.out.2

set_option maxRecDepth 1000000 in
set_option maxHeartbeats 16000000 in
theorem shstep_loadp (h : Sg n w0 wr fs zs a s S A P T ((0, (i : Int) + 1) :: D) M w) (hsp : M.sp A.who = false) (hG : Mm.Good a0 b0 c0 k M) (ha : a0 ≤ 65536) (hb : b0 ≤ 65536) (hc : c0 ≤ 65536) (hk : k ≤ 100000) (hwho : I64 A.who) (hi : i ≤ 1000) (hwd : 0 ≤ S.wd ∧ S.wd ≤ 100000) (hT : T.length ≤ 1000) :
    Calls Try.prog 93 #[.pointer (some ⟨a, 0, none⟩)] w (ShQ n w0 wr fs zs a s S A P (T ++ [loadV M A.who (S.wd + ((i : Int) + 1))]) D (lookS M A.who 0 (S.wd + ((i : Int) + 1))) A.ver w.heap.size) := by
  have HR := Lib.hid h
  have HOV := Lib.hid (shover_any h.sa h.tod)
  have hdf : decide (((0, (i : Int) + 1) :: D : List (Int × Int)) = []) = false := by simp
  rw [hdf] at HOV
  obtain ⟨c0, c1, c2, c3, c4, c5, c6, c7, c8, cf⟩ := h.sa.cells
  obtain ⟨s0, s1, s2, s3, s4⟩ := h.si.cells
  rw [h.as'] at c0
  obtain ⟨dao, dcap, hdv, hdc0, hdc⟩ := h.tod.form
  have htod := h.tod
  rw [hdv] at c5 htod
  obtain ⟨db, doff, rfl, hdb, hx⟩ := htod.at (i := 0) (x := (0, (i : Int) + 1)) rfl
  have e0 := hx 0 _ (by decide) rfl
  have e1 := hx 1 _ (by decide) rfl
  simp only [Nat.zero_mul, Nat.add_zero] at e0 e1
  have hdl : (0 : Int) < ((D.length + 1 : Nat) : Int) := by omega
  have hdc1 : D.length + 1 ≤ dcap := by simpa using hdc0
  have hal := h.sa.lt
  have hsl := h.si.lt
  have HTOD := Lib.hid (show Rr accK w (.slice (some ⟨db, doff, none⟩) (D.length + 1) dcap) ((0, (i : Int) + 1) :: D) from htod)
  have HDV := Lib.hid (show A.dv = .slice (some ⟨db, doff, none⟩) (D.length + 1) dcap from hdv)
  have HG := Lib.hid hG
  have HSP := Lib.hid hsp
  have HB := Lib.hid (And.intro ha (And.intro hb (And.intro hc hk)))
  have HWHO := Lib.hid hwho
  have HWI : Hid (I64 (S.wd + ((i : Int) + 1))) := Lib.hid ⟨by omega, by omega⟩
  have HT := Lib.hid hT
  have hw1 : IntKind.i64.wrap (S.wd + ((i : Int) + 1)) = (S.wd + ((i : Int) + 1)) := by rw [IntKind.wrap_i64]; omega
  have hip : (0 : Int) < (i : Int) + 1 := by omega
  clear hT hwd hi

  clear hx htod hdf h hdv hG hsp ha hb hc hk hwho hdc0
  go_enter Try.func93, Try.ntmps93
  go_wp2_with fail
  go_at_call 52
  refine HOV.out.mono ?_
  rintro e w1 ⟨rfl, rfl⟩
  go_upto_region 3 with fail
  go_region
  go_upto_region 4 with fail
  have hn := heap_alloc_new w (.cells #[Value.int .i64 (0), .int .i64 ((i : Int) + 1)] 164)
  have hxl : w.heap.size < (w.alloc (.cells #[Value.int .i64 (0), .int .i64 ((i : Int) + 1)] 164)).drew.heap.size := (Array.getElem?_eq_some_iff.1 hn).1
  have x0 : (w.alloc (.cells #[Value.int .i64 (0), .int .i64 ((i : Int) + 1)] 164)).drew.cell? ⟨w.heap.size, 0, none⟩ = some (.int .i64 (0)) := cell_of_row _ _ _ _ _ _ hn
  have x1 : (w.alloc (.cells #[Value.int .i64 (0), .int .i64 ((i : Int) + 1)] 164)).drew.cell? ⟨w.heap.size, 1, none⟩ = some (.int .i64 ((i : Int) + 1)) := cell_of_row _ _ _ _ _ _ hn
  have hbx : Below w.heap.size w (w.alloc (.cells #[Value.int .i64 (0), .int .i64 ((i : Int) + 1)] 164)).drew := ((Below.refl _ _).alloc (Nat.le_refl _) _).drew
  obtain ⟨zs1, y1, y2, hov⟩ := HR.out.over hbx (Nat.le_refl w.heap.size) hxl
  have HO := Lib.hid hov
  have HZ1 := Lib.hid (And.intro y1 y2)
  have HTW := Lib.hid (HTOD.out.below hbx)
  have HS := Lib.hid (And.intro (fun j (hj : j ∈ fs) => (hbx.block j (zs_lt HR.out.mz j (HR.out.fz j hj))).trans (HR.out.fr j hj)) (Nat.le_trans HR.out.sz hbx.size))
  have HX := Lib.hid (And.intro x0 x1)
  have HSZ := Lib.hid hbx.size
  generalize hX : w.heap.size = X at *
  replace hX := Lib.hid hX
  generalize (w.alloc (.cells #[Value.int .i64 (0), .int .i64 ((i : Int) + 1)] 164)).drew = W at *
  clear hn hxl hbx hov y1 y2 c0 c1 c2 c3 c4 c5 c6 c7 c8 cf s0 s1 s2 s3 s4 hal hsl hdb e0 e1 HOV HTOD
  obtain ⟨c0, c1, c2, c3, c4, c5, c6, c7, c8, cf⟩ := HO.out.sa.cells
  obtain ⟨s0, s1, s2, s3, s4⟩ := HO.out.si.cells
  rw [HO.out.as'] at c0
  rw [HDV.out] at c5
  go_wp2_with fail
  go_at_call 66
  refine (mz_asleep HO.out.mz A.who HWHO.out).mono ?_
  rw [HSP.out]
  rintro e w1 ⟨rfl, rfl⟩
  go_upto_region 6 with fail

  have hcc : (dcap = 1 ∧ D = []) ∨ dcap ≠ 1 := by
    by_cases e : dcap = 1
    · exact .inl ⟨e, List.length_eq_zero_iff.1 (by omega)⟩
    · exact .inr e
  rcases hcc with ⟨rfl, rfl⟩ | hcap
  · skip
    have HD := Lib.hid (HO.out.setD (v := (.slice (some ⟨db, doff, none⟩) 0 0)) rr_nil0 (by rw [HDV.out]; rfl))

    go_upto_region 7 with fail
    clear c0 c1 c2 c3 c4 c5 c6 c7 c8 cf s0 s1 s2 s3 s4 x0 x1
    generalize W.setCell ⟨a, 5, none⟩ (.slice (some ⟨db, doff, none⟩) 0 0) = W2 at *
    obtain ⟨c0, c1, c2, c3, c4, c5, c6, c7, c8, cf⟩ := HD.out.sa.cells
    obtain ⟨s0, s1, s2, s3, s4⟩ := HD.out.si.cells
    rw [HD.out.as'] at c0
    obtain ⟨x0, x1⟩ := HD.out.acc HX.out.1 HX.out.2
    go_upto_region 9 with fail
    replace HD := Lib.hid (HD.out.below (Below.refl _ _).drew)
    clear c0 c1 c2 c3 c4 c5 c6 c7 c8 cf s0 s1 s2 s3 s4 x0 x1
    obtain ⟨c0, c1, c2, c3, c4, c5, c6, c7, c8, cf⟩ := HD.out.sa.cells
    obtain ⟨s0, s1, s2, s3, s4⟩ := HD.out.si.cells
    rw [HD.out.as'] at c0
    obtain ⟨x0, x1⟩ := HD.out.acc HX.out.1 HX.out.2
    refine wp_region_held_drew (S := (fun w' => w'.cell? ⟨X, 1, none⟩ = some (.int .i64 ((i : Int) + 1)) ∧ w'.cell? ⟨a, 1, none⟩ = some (.int .i64 A.who) ∧ w'.cell? ⟨a, 0, none⟩ = some (.pointer (some ⟨s, 0, none⟩)) ∧ w'.cell? ⟨s, 1, none⟩ = some (.int .i64 S.wd))) (by kernel_rfl) ?_ (fun hHeld => ?_)
    · ((try dsimp only); first | (obtain ⟨k0, k1, _⟩ := HD.out.sa.cells; obtain ⟨_, t1, _⟩ := HD.out.si.cells; obtain ⟨_, y1⟩ := HD.out.acc HX.out.1 HX.out.2; rw [HD.out.as'] at k0; exact ⟨y1, k1, k0, t1⟩))
    refine wpAnyH_take (i := 0) (v := ?_) rfl (by kernel_rfl) (by kernel_rfl) (by kernel_rfl) (fun _ _ _ h => h) (Or.inl ⟨by rfl, ?_⟩) (by assumption) ?_
    rotate_left 1
    · (intro w hSw; (try dsimp only at hSw); first | (go_simp; done) | (go_simp; with_reducible rfl))
    try simp only [Act.put, List.setIfInBounds_toArray, List.set_cons_zero, List.set_cons_succ, List.getElem_toArray, List.getElem_cons_zero]
    refine wpAnyH_take (i := 1) (v := ?_) rfl (by kernel_rfl) (by kernel_rfl) (by kernel_rfl) (fun _ _ _ h => h) (Or.inl ⟨by rfl, ?_⟩) (by assumption) ?_
    rotate_left 1
    · (intro w hSw; (try dsimp only at hSw); first | (go_simp; done) | (go_simp; with_reducible rfl))
    try simp only [Act.put, List.setIfInBounds_toArray, List.set_cons_zero, List.set_cons_succ, List.getElem_toArray, List.getElem_cons_zero, List.getElem_cons_succ]
    refine wpAnyH_take (i := 2) (v := ?_) rfl (by kernel_rfl) (by kernel_rfl) (by kernel_rfl) (fun _ _ _ h => h) (Or.inl ⟨by rfl, ?_⟩) (by assumption) ?_
    rotate_left 1
    · (intro w hSw; (try dsimp only at hSw); first | (go_simp; done) | (go_simp; with_reducible rfl))
    try simp only [Act.put, List.setIfInBounds_toArray, List.set_cons_zero, List.set_cons_succ, List.getElem_toArray, List.getElem_cons_zero, List.getElem_cons_succ]
    refine wpAnyH_take (i := 3) (v := ?_) rfl (by kernel_rfl) (by kernel_rfl) (by kernel_rfl) (fun _ _ _ h => h) (Or.inl ⟨by rfl, ?_⟩) (by assumption) ?_
    rotate_left 1
    · (intro w hSw; (try dsimp only at hSw); first | (go_simp; done) | (go_simp; with_reducible rfl))
    try simp only [Act.put, List.setIfInBounds_toArray, List.set_cons_zero, List.set_cons_succ, List.getElem_toArray, List.getElem_cons_zero, List.getElem_cons_succ]
    refine wpAnyH_take (i := 4) (v := ?_) rfl (by kernel_rfl) (by kernel_rfl) (by kernel_rfl) (fun _ _ _ h => h) (Or.inl ⟨by rfl, ?_⟩) (by assumption) ?_
    rotate_left 1
    · (intro w hSw; (try dsimp only at hSw); first | (go_simp; done) | (go_simp; with_reducible rfl))
    try simp only [Act.put, List.setIfInBounds_toArray, List.set_cons_zero, List.set_cons_succ, List.getElem_toArray, List.getElem_cons_zero, List.getElem_cons_succ]
    refine wpAnyH_take (i := 5) (v := ?_) rfl (by kernel_rfl) (by kernel_rfl) (by kernel_rfl) (fun _ _ _ h => h) (Or.inl ⟨by rfl, ?_⟩) (by assumption) ?_
    rotate_left 1
    · (intro w hSw; (try dsimp only at hSw); first | (go_simp; done) | (go_simp; with_reducible rfl))
    try simp only [Act.put, List.setIfInBounds_toArray, List.set_cons_zero, List.set_cons_succ, List.getElem_toArray, List.getElem_cons_zero, List.getElem_cons_succ]
    refine wpAnyH_take (i := 6) (v := ?_) rfl (by kernel_rfl) (by kernel_rfl) (by kernel_rfl) (fun _ _ _ h => h) (Or.inl ⟨by rfl, ?_⟩) (by assumption) ?_
    rotate_left 1
    · (intro w hSw; (try dsimp only at hSw); first | (go_simp; done) | (go_simp; with_reducible rfl))
    try simp only [Act.put, List.setIfInBounds_toArray, List.set_cons_zero, List.set_cons_succ, List.getElem_toArray, List.getElem_cons_zero, List.getElem_cons_succ]
    refine wpAnyH_take (i := 7) (v := ?_) rfl (by kernel_rfl) (by kernel_rfl) (by kernel_rfl) (fun _ _ _ h => h) (Or.inl ⟨by rfl, ?_⟩) (by assumption) ?_
    rotate_left 1
    · (intro w hSw; (try dsimp only at hSw); first | (go_simp; done) | (go_simp; with_reducible rfl))
    try simp only [Act.put, List.setIfInBounds_toArray, List.set_cons_zero, List.set_cons_succ, List.getElem_toArray, List.getElem_cons_zero, List.getElem_cons_succ]
    refine wpAnyH_take (i := 8) (v := ?_) rfl (by kernel_rfl) (by kernel_rfl) (by kernel_rfl) (fun _ _ _ h => h) (Or.inl ⟨by rfl, ?_⟩) (by assumption) ?_
    rotate_left 1
    · (intro w hSw; (try dsimp only at hSw); first | (go_simp; done) | (go_simp; with_reducible rfl))
    try simp only [Act.put, List.setIfInBounds_toArray, List.set_cons_zero, List.set_cons_succ, List.getElem_toArray, List.getElem_cons_zero, List.getElem_cons_succ]
    refine wpAnyH_take (i := 9) (v := ?_) rfl (by kernel_rfl) (by kernel_rfl) (by kernel_rfl) (fun _ _ _ h => h) (Or.inl ⟨by rfl, ?_⟩) (by assumption) ?_
    rotate_left 1
    · (intro w hSw; (try dsimp only at hSw); first | (go_simp; done) | (go_simp; with_reducible rfl))
    try simp only [Act.put, List.setIfInBounds_toArray, List.set_cons_zero, List.set_cons_succ, List.getElem_toArray, List.getElem_cons_zero, List.getElem_cons_succ]
    refine wpAnyH_take (i := 10) (v := ?_) rfl (by kernel_rfl) (by kernel_rfl) (by kernel_rfl) (fun _ _ _ h => h) (Or.inl ⟨by rfl, ?_⟩) (by assumption) ?_
    rotate_left 1
    · (intro w hSw; (try dsimp only at hSw); first | (go_simp; done) | (go_simp; with_reducible rfl))
    try simp only [Act.put, List.setIfInBounds_toArray, List.set_cons_zero, List.set_cons_succ, List.getElem_toArray, List.getElem_cons_zero, List.getElem_cons_succ]
    refine wpAnyH_take (i := 11) (v := ?_) rfl (by kernel_rfl) (by kernel_rfl) (by kernel_rfl) (fun _ _ _ h => h) (Or.inl ⟨by rfl, ?_⟩) (by assumption) ?_
    rotate_left 1
    · (intro w hSw; (try dsimp only at hSw); first | (go_simp; done) | (go_simp; with_reducible rfl))
    try simp only [Act.put, List.setIfInBounds_toArray, List.set_cons_zero, List.set_cons_succ, List.getElem_toArray, List.getElem_cons_zero, List.getElem_cons_succ]
    refine wpAnyH_take (i := 12) (v := ?_) rfl (by kernel_rfl) (by kernel_rfl) (by kernel_rfl) (fun _ _ _ h => h) (Or.inl ⟨by rfl, ?_⟩) (by assumption) ?_
    rotate_left 1
    · (intro w hSw; (try dsimp only at hSw); first | (go_simp; done) | (go_simp; with_reducible rfl))
    try simp only [Act.put, List.setIfInBounds_toArray, List.set_cons_zero, List.set_cons_succ, List.getElem_toArray, List.getElem_cons_zero, List.getElem_cons_succ]
    refine wpAnyH_take (i := 13) (v := ?_) rfl (by kernel_rfl) (by kernel_rfl) (by kernel_rfl) (fun _ _ _ h => h) (Or.inl ⟨by rfl, ?_⟩) (by assumption) ?_
    rotate_left 1
    · (intro w hSw; (try dsimp only at hSw); first | (go_simp; done) | (go_simp; with_reducible rfl))
    try simp only [Act.put, List.setIfInBounds_toArray, List.set_cons_zero, List.set_cons_succ, List.getElem_toArray, List.getElem_cons_zero, List.getElem_cons_succ]
    refine wpAnyH_take (i := 14) (v := ?_) rfl (by kernel_rfl) (by kernel_rfl) (by kernel_rfl) (fun _ _ _ h => h) (Or.inl ⟨by rfl, ?_⟩) (by assumption) ?_
    rotate_left 1
    · (intro w hSw; (try dsimp only at hSw); first | (go_simp; done) | (go_simp; with_reducible rfl))
    try simp only [Act.put, List.setIfInBounds_toArray, List.set_cons_zero, List.set_cons_succ, List.getElem_toArray, List.getElem_cons_zero, List.getElem_cons_succ]
    refine wpAnyH_take (i := 15) (v := ?_) rfl (by kernel_rfl) (by kernel_rfl) (by kernel_rfl) (fun _ _ _ h => h) (Or.inl ⟨by rfl, ?_⟩) (by assumption) ?_
    rotate_left 1
    · (intro w hSw; (try dsimp only at hSw); first | (go_simp; done) | (go_simp; with_reducible rfl))
    try simp only [Act.put, List.setIfInBounds_toArray, List.set_cons_zero, List.set_cons_succ, List.getElem_toArray, List.getElem_cons_zero, List.getElem_cons_succ]
    refine wpAnyH_take (i := 16) (v := ?_) rfl (by kernel_rfl) (by kernel_rfl) (by kernel_rfl) (fun _ _ _ h => h) (Or.inl ⟨by rfl, ?_⟩) (by assumption) ?_
    rotate_left 1
    · (intro w hSw; (try dsimp only at hSw); first | (go_simp; done) | (go_simp; with_reducible rfl))
    try simp only [Act.put, List.setIfInBounds_toArray, List.set_cons_zero, List.set_cons_succ, List.getElem_toArray, List.getElem_cons_zero, List.getElem_cons_succ]
    refine wpAnyH_take (i := 17) (v := ?_) rfl (by kernel_rfl) (by kernel_rfl) (by kernel_rfl) (fun _ _ _ h => h) (Or.inl ⟨by rfl, ?_⟩) (by assumption) ?_
    rotate_left 1
    · (intro w hSw; (try dsimp only at hSw); first | (go_simp; done) | (go_simp; with_reducible rfl))
    try simp only [Act.put, List.setIfInBounds_toArray, List.set_cons_zero, List.set_cons_succ, List.getElem_toArray, List.getElem_cons_zero, List.getElem_cons_succ]
    refine wpAnyH_ready (rs := [18]) (by kernel_rfl) (by simp) ?_
    refine AllReadyH.cons rfl (fun K hK => ?_) AllReadyH.nil
    go_simp
    go_at_call 78
    refine (mz_load HD.out.mz HG.out HB.out.1 HB.out.2.1 HB.out.2.2.1 HB.out.2.2.2 A.who (S.wd + ((i : Int) + 1)) HWHO.out HWI.out).mono ?_
    rintro e W3 ⟨rfl, hm, hkb⟩
    have H3 := Lib.hid (HD.out.call hm hkb)
    clear hm hkb
    try go_wp2_with fail
    refine hK.out _ _ ?_ (fun hHeld => ?_)
    · ((try dsimp only); first | (obtain ⟨k0, k1, _⟩ := H3.out.sa.cells; obtain ⟨_, t1, _⟩ := H3.out.si.cells; obtain ⟨_, y1⟩ := H3.out.acc HX.out.1 HX.out.2; rw [H3.out.as'] at k0; exact ⟨y1, k1, k0, t1⟩))
    clear hK K
    try simp only [Act.put, List.setIfInBounds_toArray, List.set_cons_zero, List.set_cons_succ, List.getElem_toArray, List.getElem_cons_zero, List.getElem_cons_succ]
    refine wpAnyH_ready (rs := [19]) (by kernel_rfl) (by simp) ?_
    refine AllReadyH.cons rfl (fun K hK => ?_) AllReadyH.nil
    go_simp
    go_at_call 119
    refine (shloaded_p H3.out _ HT.out hip).mono ?_
    rintro e W4 ⟨rfl, tv, zs2, z3, z4, h4⟩
    have HF := Lib.hid h4
    have HZ2 := Lib.hid (And.intro z3 z4)
    clear h4 z3 z4
    try go_wp2_with fail
    refine hK.out _ _ ?_ (fun hHeld => ?_)
    · ((try dsimp only); first | (obtain ⟨k0, k1, _⟩ := HF.out.sa.cells; obtain ⟨_, t1, _⟩ := HF.out.si.cells; obtain ⟨_, y1⟩ := HF.out.acc HX.out.1 HX.out.2; rw [HF.out.as'] at k0; exact ⟨y1, k1, k0, t1⟩))
    clear hK K
    try simp only [Act.put, List.setIfInBounds_toArray, List.set_cons_zero, List.set_cons_succ, List.getElem_toArray, List.getElem_cons_zero, List.getElem_cons_succ]
    refine wpAnyH_done (by kernel_rfl) ?_ _
    clear c0 c1 c2 c3 c4 c5 c6 c7 c8 cf s0 s1 s2 s3 s4 x0 x1


    obtain ⟨f0, f1, f2, f3, f4, f5, f6, f7, f8, ff⟩ := HF.out.sa.cells
    have f8' : W4.cell? ⟨a, 8, none⟩ = some (.int .i64 A.mk') := f8
    clear f8
    by_cases hm : A.mk' = 0
    · rw [hm] at f8'
      rcases Bool.eq_false_or_eq_true (teB []) with hte | hte
      · go_wp2_with fail
        go_at_call 121
        refine (shte_any HF.out.sa HF.out.tod).mono ?_
        rw [hte]
        rintro e w5 ⟨rfl, rfl⟩
        go_wp2_with fail
        go_at_call 14
        refine (mz_time HF.out.mz).mono ?_
        rintro e w5 ⟨rfl, rfl⟩
        have HE := Lib.hid (HF.out.setA 8 (.int .i64 ((lookS M A.who 0 (S.wd + ((i : Int) + 1))).lg.length : Int)) (HF.out.sa.set8 ((lookS M A.who 0 (S.wd + ((i : Int) + 1))).lg.length : Int)) rfl rfl rfl rfl)
        go_wp2_with fail
        go_at_call 52
        refine (shover_any HE.out.sa HE.out.tod).mono ?_
        rintro e w9 ⟨rfl, rfl⟩
        go_wp2_with fail
        go_ret
        refine ⟨rfl, zs2, (.slice (some ⟨db, doff, none⟩) 0 0), tv, fun j hj => HZ2.out.1 j (HZ1.out.1 j hj), fun j hj => (HZ2.out.2 j hj).elim (fun e => (HZ1.out.2 j e).imp id (fun e => by have := hX.out; omega)) (fun e => .inr (by have := hX.out; have := HSZ.out; have := H3.out.sz; omega)), ?_⟩
        have e : mkA { A with dv := (.slice (some ⟨db, doff, none⟩) 0 0), tv := tv, ver := A.ver } [] ((lookS M A.who 0 (S.wd + ((i : Int) + 1))).lg.length : Int) = { { A with dv := (.slice (some ⟨db, doff, none⟩) 0 0), tv := tv, ver := A.ver } with mk' := ((lookS M A.who 0 (S.wd + ((i : Int) + 1))).lg.length : Int) } := by unfold mkA; rw [if_pos ⟨hm, hte⟩]
        rw [e]
        exact HE.out.under HS.out.1 HS.out.2
      · have HE := HF
        go_wp2_with fail
        go_at_call 121
        refine (shte_any HF.out.sa HF.out.tod).mono ?_
        rw [hte]
        rintro e w5 ⟨rfl, rfl⟩
        go_wp2_with fail
        go_at_call 52
        refine (shover_any HE.out.sa HE.out.tod).mono ?_
        rintro e w9 ⟨rfl, rfl⟩
        go_wp2_with fail
        go_ret
        refine ⟨rfl, zs2, (.slice (some ⟨db, doff, none⟩) 0 0), tv, fun j hj => HZ2.out.1 j (HZ1.out.1 j hj), fun j hj => (HZ2.out.2 j hj).elim (fun e => (HZ1.out.2 j e).imp id (fun e => by have := hX.out; omega)) (fun e => .inr (by have := hX.out; have := HSZ.out; have := H3.out.sz; omega)), ?_⟩
        have e : mkA { A with dv := (.slice (some ⟨db, doff, none⟩) 0 0), tv := tv, ver := A.ver } [] ((lookS M A.who 0 (S.wd + ((i : Int) + 1))).lg.length : Int) = { A with dv := (.slice (some ⟨db, doff, none⟩) 0 0), tv := tv, ver := A.ver } := by unfold mkA; rw [if_neg (by rw [hte]; simp)]
        rw [e]
        exact HE.out.under HS.out.1 HS.out.2
    · have HE := HF
      have hm2 : (A.mk' == 0) = false := by rw [beq_eq_false_iff_ne]; exact hm
      go_wp2_with fail
      go_at_call 52
      refine (shover_any HE.out.sa HE.out.tod).mono ?_
      rintro e w9 ⟨rfl, rfl⟩
      go_wp2_with fail
      go_ret
      refine ⟨rfl, zs2, (.slice (some ⟨db, doff, none⟩) 0 0), tv, fun j hj => HZ2.out.1 j (HZ1.out.1 j hj), fun j hj => (HZ2.out.2 j hj).elim (fun e => (HZ1.out.2 j e).imp id (fun e => by have := hX.out; omega)) (fun e => .inr (by have := hX.out; have := HSZ.out; have := H3.out.sz; omega)), ?_⟩
      have e : mkA { A with dv := (.slice (some ⟨db, doff, none⟩) 0 0), tv := tv, ver := A.ver } [] ((lookS M A.who 0 (S.wd + ((i : Int) + 1))).lg.length : Int) = { A with dv := (.slice (some ⟨db, doff, none⟩) 0 0), tv := tv, ver := A.ver } := by unfold mkA; exact if_neg (fun h => hm h.1)
      rw [e]
      exact HE.out.under HS.out.1 HS.out.2
  · skip
    have HD := Lib.hid (HO.out.setD (v := (.slice (some ⟨db, doff + 2, none⟩) D.length (dcap - 1))) (rr_tail (HTW.out)) (by rw [HDV.out]; rfl))
    have hc1 : 0 < dcap - 1 := by omega
    go_upto_region 7 with fail
    clear c0 c1 c2 c3 c4 c5 c6 c7 c8 cf s0 s1 s2 s3 s4 x0 x1
    generalize W.setCell ⟨a, 5, none⟩ (.slice (some ⟨db, doff + 2, none⟩) D.length (dcap - 1)) = W2 at *
    obtain ⟨c0, c1, c2, c3, c4, c5, c6, c7, c8, cf⟩ := HD.out.sa.cells
    obtain ⟨s0, s1, s2, s3, s4⟩ := HD.out.si.cells
    rw [HD.out.as'] at c0
    obtain ⟨x0, x1⟩ := HD.out.acc HX.out.1 HX.out.2
    go_upto_region 9 with fail
    replace HD := Lib.hid (HD.out.below (Below.refl _ _).drew)
    clear c0 c1 c2 c3 c4 c5 c6 c7 c8 cf s0 s1 s2 s3 s4 x0 x1
    obtain ⟨c0, c1, c2, c3, c4, c5, c6, c7, c8, cf⟩ := HD.out.sa.cells
    obtain ⟨s0, s1, s2, s3, s4⟩ := HD.out.si.cells
    rw [HD.out.as'] at c0
    obtain ⟨x0, x1⟩ := HD.out.acc HX.out.1 HX.out.2
    refine wp_region_held_drew (S := (fun w' => w'.cell? ⟨X, 1, none⟩ = some (.int .i64 ((i : Int) + 1)) ∧ w'.cell? ⟨a, 1, none⟩ = some (.int .i64 A.who) ∧ w'.cell? ⟨a, 0, none⟩ = some (.pointer (some ⟨s, 0, none⟩)) ∧ w'.cell? ⟨s, 1, none⟩ = some (.int .i64 S.wd))) (by kernel_rfl) ?_ (fun hHeld => ?_)
    · ((try dsimp only); first | (obtain ⟨k0, k1, _⟩ := HD.out.sa.cells; obtain ⟨_, t1, _⟩ := HD.out.si.cells; obtain ⟨_, y1⟩ := HD.out.acc HX.out.1 HX.out.2; rw [HD.out.as'] at k0; exact ⟨y1, k1, k0, t1⟩))
    refine wpAnyH_take (i := 0) (v := ?_) rfl (by kernel_rfl) (by kernel_rfl) (by kernel_rfl) (fun _ _ _ h => h) (Or.inl ⟨by rfl, ?_⟩) (by assumption) ?_
    rotate_left 1
    · (intro w hSw; (try dsimp only at hSw); first | (go_simp; done) | (go_simp; with_reducible rfl))
    try simp only [Act.put, List.setIfInBounds_toArray, List.set_cons_zero, List.set_cons_succ, List.getElem_toArray, List.getElem_cons_zero]
    refine wpAnyH_take (i := 1) (v := ?_) rfl (by kernel_rfl) (by kernel_rfl) (by kernel_rfl) (fun _ _ _ h => h) (Or.inl ⟨by rfl, ?_⟩) (by assumption) ?_
    rotate_left 1
    · (intro w hSw; (try dsimp only at hSw); first | (go_simp; done) | (go_simp; with_reducible rfl))
    try simp only [Act.put, List.setIfInBounds_toArray, List.set_cons_zero, List.set_cons_succ, List.getElem_toArray, List.getElem_cons_zero, List.getElem_cons_succ]
    refine wpAnyH_take (i := 2) (v := ?_) rfl (by kernel_rfl) (by kernel_rfl) (by kernel_rfl) (fun _ _ _ h => h) (Or.inl ⟨by rfl, ?_⟩) (by assumption) ?_
    rotate_left 1
    · (intro w hSw; (try dsimp only at hSw); first | (go_simp; done) | (go_simp; with_reducible rfl))
    try simp only [Act.put, List.setIfInBounds_toArray, List.set_cons_zero, List.set_cons_succ, List.getElem_toArray, List.getElem_cons_zero, List.getElem_cons_succ]
    refine wpAnyH_take (i := 3) (v := ?_) rfl (by kernel_rfl) (by kernel_rfl) (by kernel_rfl) (fun _ _ _ h => h) (Or.inl ⟨by rfl, ?_⟩) (by assumption) ?_
    rotate_left 1
    · (intro w hSw; (try dsimp only at hSw); first | (go_simp; done) | (go_simp; with_reducible rfl))
    try simp only [Act.put, List.setIfInBounds_toArray, List.set_cons_zero, List.set_cons_succ, List.getElem_toArray, List.getElem_cons_zero, List.getElem_cons_succ]
    refine wpAnyH_take (i := 4) (v := ?_) rfl (by kernel_rfl) (by kernel_rfl) (by kernel_rfl) (fun _ _ _ h => h) (Or.inl ⟨by rfl, ?_⟩) (by assumption) ?_
    rotate_left 1
    · (intro w hSw; (try dsimp only at hSw); first | (go_simp; done) | (go_simp; with_reducible rfl))
    try simp only [Act.put, List.setIfInBounds_toArray, List.set_cons_zero, List.set_cons_succ, List.getElem_toArray, List.getElem_cons_zero, List.getElem_cons_succ]
    refine wpAnyH_take (i := 5) (v := ?_) rfl (by kernel_rfl) (by kernel_rfl) (by kernel_rfl) (fun _ _ _ h => h) (Or.inl ⟨by rfl, ?_⟩) (by assumption) ?_
    rotate_left 1
    · (intro w hSw; (try dsimp only at hSw); first | (go_simp; done) | (go_simp; with_reducible rfl))
    try simp only [Act.put, List.setIfInBounds_toArray, List.set_cons_zero, List.set_cons_succ, List.getElem_toArray, List.getElem_cons_zero, List.getElem_cons_succ]
    refine wpAnyH_take (i := 6) (v := ?_) rfl (by kernel_rfl) (by kernel_rfl) (by kernel_rfl) (fun _ _ _ h => h) (Or.inl ⟨by rfl, ?_⟩) (by assumption) ?_
    rotate_left 1
    · (intro w hSw; (try dsimp only at hSw); first | (go_simp; done) | (go_simp; with_reducible rfl))
    try simp only [Act.put, List.setIfInBounds_toArray, List.set_cons_zero, List.set_cons_succ, List.getElem_toArray, List.getElem_cons_zero, List.getElem_cons_succ]
    refine wpAnyH_take (i := 7) (v := ?_) rfl (by kernel_rfl) (by kernel_rfl) (by kernel_rfl) (fun _ _ _ h => h) (Or.inl ⟨by rfl, ?_⟩) (by assumption) ?_
    rotate_left 1
    · (intro w hSw; (try dsimp only at hSw); first | (go_simp; done) | (go_simp; with_reducible rfl))
    try simp only [Act.put, List.setIfInBounds_toArray, List.set_cons_zero, List.set_cons_succ, List.getElem_toArray, List.getElem_cons_zero, List.getElem_cons_succ]
    refine wpAnyH_take (i := 8) (v := ?_) rfl (by kernel_rfl) (by kernel_rfl) (by kernel_rfl) (fun _ _ _ h => h) (Or.inl ⟨by rfl, ?_⟩) (by assumption) ?_
    rotate_left 1
    · (intro w hSw; (try dsimp only at hSw); first | (go_simp; done) | (go_simp; with_reducible rfl))
    try simp only [Act.put, List.setIfInBounds_toArray, List.set_cons_zero, List.set_cons_succ, List.getElem_toArray, List.getElem_cons_zero, List.getElem_cons_succ]
    refine wpAnyH_take (i := 9) (v := ?_) rfl (by kernel_rfl) (by kernel_rfl) (by kernel_rfl) (fun _ _ _ h => h) (Or.inl ⟨by rfl, ?_⟩) (by assumption) ?_
    rotate_left 1
    · (intro w hSw; (try dsimp only at hSw); first | (go_simp; done) | (go_simp; with_reducible rfl))
    try simp only [Act.put, List.setIfInBounds_toArray, List.set_cons_zero, List.set_cons_succ, List.getElem_toArray, List.getElem_cons_zero, List.getElem_cons_succ]
    refine wpAnyH_take (i := 10) (v := ?_) rfl (by kernel_rfl) (by kernel_rfl) (by kernel_rfl) (fun _ _ _ h => h) (Or.inl ⟨by rfl, ?_⟩) (by assumption) ?_
    rotate_left 1
    · (intro w hSw; (try dsimp only at hSw); first | (go_simp; done) | (go_simp; with_reducible rfl))
    try simp only [Act.put, List.setIfInBounds_toArray, List.set_cons_zero, List.set_cons_succ, List.getElem_toArray, List.getElem_cons_zero, List.getElem_cons_succ]
    refine wpAnyH_take (i := 11) (v := ?_) rfl (by kernel_rfl) (by kernel_rfl) (by kernel_rfl) (fun _ _ _ h => h) (Or.inl ⟨by rfl, ?_⟩) (by assumption) ?_
    rotate_left 1
    · (intro w hSw; (try dsimp only at hSw); first | (go_simp; done) | (go_simp; with_reducible rfl))
    try simp only [Act.put, List.setIfInBounds_toArray, List.set_cons_zero, List.set_cons_succ, List.getElem_toArray, List.getElem_cons_zero, List.getElem_cons_succ]
    refine wpAnyH_take (i := 12) (v := ?_) rfl (by kernel_rfl) (by kernel_rfl) (by kernel_rfl) (fun _ _ _ h => h) (Or.inl ⟨by rfl, ?_⟩) (by assumption) ?_
    rotate_left 1
    · (intro w hSw; (try dsimp only at hSw); first | (go_simp; done) | (go_simp; with_reducible rfl))
    try simp only [Act.put, List.setIfInBounds_toArray, List.set_cons_zero, List.set_cons_succ, List.getElem_toArray, List.getElem_cons_zero, List.getElem_cons_succ]
    refine wpAnyH_take (i := 13) (v := ?_) rfl (by kernel_rfl) (by kernel_rfl) (by kernel_rfl) (fun _ _ _ h => h) (Or.inl ⟨by rfl, ?_⟩) (by assumption) ?_
    rotate_left 1
    · (intro w hSw; (try dsimp only at hSw); first | (go_simp; done) | (go_simp; with_reducible rfl))
    try simp only [Act.put, List.setIfInBounds_toArray, List.set_cons_zero, List.set_cons_succ, List.getElem_toArray, List.getElem_cons_zero, List.getElem_cons_succ]
    refine wpAnyH_take (i := 14) (v := ?_) rfl (by kernel_rfl) (by kernel_rfl) (by kernel_rfl) (fun _ _ _ h => h) (Or.inl ⟨by rfl, ?_⟩) (by assumption) ?_
    rotate_left 1
    · (intro w hSw; (try dsimp only at hSw); first | (go_simp; done) | (go_simp; with_reducible rfl))
    try simp only [Act.put, List.setIfInBounds_toArray, List.set_cons_zero, List.set_cons_succ, List.getElem_toArray, List.getElem_cons_zero, List.getElem_cons_succ]
    refine wpAnyH_take (i := 15) (v := ?_) rfl (by kernel_rfl) (by kernel_rfl) (by kernel_rfl) (fun _ _ _ h => h) (Or.inl ⟨by rfl, ?_⟩) (by assumption) ?_
    rotate_left 1
    · (intro w hSw; (try dsimp only at hSw); first | (go_simp; done) | (go_simp; with_reducible rfl))
    try simp only [Act.put, List.setIfInBounds_toArray, List.set_cons_zero, List.set_cons_succ, List.getElem_toArray, List.getElem_cons_zero, List.getElem_cons_succ]
    refine wpAnyH_take (i := 16) (v := ?_) rfl (by kernel_rfl) (by kernel_rfl) (by kernel_rfl) (fun _ _ _ h => h) (Or.inl ⟨by rfl, ?_⟩) (by assumption) ?_
    rotate_left 1
    · (intro w hSw; (try dsimp only at hSw); first | (go_simp; done) | (go_simp; with_reducible rfl))
    try simp only [Act.put, List.setIfInBounds_toArray, List.set_cons_zero, List.set_cons_succ, List.getElem_toArray, List.getElem_cons_zero, List.getElem_cons_succ]
    refine wpAnyH_take (i := 17) (v := ?_) rfl (by kernel_rfl) (by kernel_rfl) (by kernel_rfl) (fun _ _ _ h => h) (Or.inl ⟨by rfl, ?_⟩) (by assumption) ?_
    rotate_left 1
    · (intro w hSw; (try dsimp only at hSw); first | (go_simp; done) | (go_simp; with_reducible rfl))
    try simp only [Act.put, List.setIfInBounds_toArray, List.set_cons_zero, List.set_cons_succ, List.getElem_toArray, List.getElem_cons_zero, List.getElem_cons_succ]
    refine wpAnyH_ready (rs := [18]) (by kernel_rfl) (by simp) ?_
    refine AllReadyH.cons rfl (fun K hK => ?_) AllReadyH.nil
    go_simp
    go_at_call 78
    refine (mz_load HD.out.mz HG.out HB.out.1 HB.out.2.1 HB.out.2.2.1 HB.out.2.2.2 A.who (S.wd + ((i : Int) + 1)) HWHO.out HWI.out).mono ?_
    rintro e W3 ⟨rfl, hm, hkb⟩
    have H3 := Lib.hid (HD.out.call hm hkb)
    clear hm hkb
    try go_wp2_with fail
    refine hK.out _ _ ?_ (fun hHeld => ?_)
    · ((try dsimp only); first | (obtain ⟨k0, k1, _⟩ := H3.out.sa.cells; obtain ⟨_, t1, _⟩ := H3.out.si.cells; obtain ⟨_, y1⟩ := H3.out.acc HX.out.1 HX.out.2; rw [H3.out.as'] at k0; exact ⟨y1, k1, k0, t1⟩))
    clear hK K
    try simp only [Act.put, List.setIfInBounds_toArray, List.set_cons_zero, List.set_cons_succ, List.getElem_toArray, List.getElem_cons_zero, List.getElem_cons_succ]
    refine wpAnyH_ready (rs := [19]) (by kernel_rfl) (by simp) ?_
    refine AllReadyH.cons rfl (fun K hK => ?_) AllReadyH.nil
    go_simp
    go_at_call 119
    refine (shloaded_p H3.out _ HT.out hip).mono ?_
    rintro e W4 ⟨rfl, tv, zs2, z3, z4, h4⟩
    have HF := Lib.hid h4
    have HZ2 := Lib.hid (And.intro z3 z4)
    clear h4 z3 z4
    try go_wp2_with fail
    refine hK.out _ _ ?_ (fun hHeld => ?_)
    · ((try dsimp only); first | (obtain ⟨k0, k1, _⟩ := HF.out.sa.cells; obtain ⟨_, t1, _⟩ := HF.out.si.cells; obtain ⟨_, y1⟩ := HF.out.acc HX.out.1 HX.out.2; rw [HF.out.as'] at k0; exact ⟨y1, k1, k0, t1⟩))
    clear hK K
    try simp only [Act.put, List.setIfInBounds_toArray, List.set_cons_zero, List.set_cons_succ, List.getElem_toArray, List.getElem_cons_zero, List.getElem_cons_succ]
    refine wpAnyH_done (by kernel_rfl) ?_ _
    clear c0 c1 c2 c3 c4 c5 c6 c7 c8 cf s0 s1 s2 s3 s4 x0 x1


    obtain ⟨f0, f1, f2, f3, f4, f5, f6, f7, f8, ff⟩ := HF.out.sa.cells
    have f8' : W4.cell? ⟨a, 8, none⟩ = some (.int .i64 A.mk') := f8
    clear f8
    by_cases hm : A.mk' = 0
    · rw [hm] at f8'
      rcases Bool.eq_false_or_eq_true (teB D) with hte | hte
      · go_wp2_with fail
        go_at_call 121
        refine (shte_any HF.out.sa HF.out.tod).mono ?_
        rw [hte]
        rintro e w5 ⟨rfl, rfl⟩
        go_wp2_with fail
        go_at_call 14
        refine (mz_time HF.out.mz).mono ?_
        rintro e w5 ⟨rfl, rfl⟩
        have HE := Lib.hid (HF.out.setA 8 (.int .i64 ((lookS M A.who 0 (S.wd + ((i : Int) + 1))).lg.length : Int)) (HF.out.sa.set8 ((lookS M A.who 0 (S.wd + ((i : Int) + 1))).lg.length : Int)) rfl rfl rfl rfl)
        go_wp2_with fail
        go_at_call 52
        refine (shover_any HE.out.sa HE.out.tod).mono ?_
        rintro e w9 ⟨rfl, rfl⟩
        go_wp2_with fail
        go_ret
        refine ⟨rfl, zs2, (.slice (some ⟨db, doff + 2, none⟩) D.length (dcap - 1)), tv, fun j hj => HZ2.out.1 j (HZ1.out.1 j hj), fun j hj => (HZ2.out.2 j hj).elim (fun e => (HZ1.out.2 j e).imp id (fun e => by have := hX.out; omega)) (fun e => .inr (by have := hX.out; have := HSZ.out; have := H3.out.sz; omega)), ?_⟩
        have e : mkA { A with dv := (.slice (some ⟨db, doff + 2, none⟩) D.length (dcap - 1)), tv := tv, ver := A.ver } D ((lookS M A.who 0 (S.wd + ((i : Int) + 1))).lg.length : Int) = { { A with dv := (.slice (some ⟨db, doff + 2, none⟩) D.length (dcap - 1)), tv := tv, ver := A.ver } with mk' := ((lookS M A.who 0 (S.wd + ((i : Int) + 1))).lg.length : Int) } := by unfold mkA; rw [if_pos ⟨hm, hte⟩]
        rw [e]
        exact HE.out.under HS.out.1 HS.out.2
      · have HE := HF
        go_wp2_with fail
        go_at_call 121
        refine (shte_any HF.out.sa HF.out.tod).mono ?_
        rw [hte]
        rintro e w5 ⟨rfl, rfl⟩
        go_wp2_with fail
        go_at_call 52
        refine (shover_any HE.out.sa HE.out.tod).mono ?_
        rintro e w9 ⟨rfl, rfl⟩
        go_wp2_with fail
        go_ret
        refine ⟨rfl, zs2, (.slice (some ⟨db, doff + 2, none⟩) D.length (dcap - 1)), tv, fun j hj => HZ2.out.1 j (HZ1.out.1 j hj), fun j hj => (HZ2.out.2 j hj).elim (fun e => (HZ1.out.2 j e).imp id (fun e => by have := hX.out; omega)) (fun e => .inr (by have := hX.out; have := HSZ.out; have := H3.out.sz; omega)), ?_⟩
        have e : mkA { A with dv := (.slice (some ⟨db, doff + 2, none⟩) D.length (dcap - 1)), tv := tv, ver := A.ver } D ((lookS M A.who 0 (S.wd + ((i : Int) + 1))).lg.length : Int) = { A with dv := (.slice (some ⟨db, doff + 2, none⟩) D.length (dcap - 1)), tv := tv, ver := A.ver } := by unfold mkA; rw [if_neg (by rw [hte]; simp)]
        rw [e]
        exact HE.out.under HS.out.1 HS.out.2
    · have HE := HF
      have hm2 : (A.mk' == 0) = false := by rw [beq_eq_false_iff_ne]; exact hm
      go_wp2_with fail
      go_at_call 52
      refine (shover_any HE.out.sa HE.out.tod).mono ?_
      rintro e w9 ⟨rfl, rfl⟩
      go_wp2_with fail
      go_ret
      refine ⟨rfl, zs2, (.slice (some ⟨db, doff + 2, none⟩) D.length (dcap - 1)), tv, fun j hj => HZ2.out.1 j (HZ1.out.1 j hj), fun j hj => (HZ2.out.2 j hj).elim (fun e => (HZ1.out.2 j e).imp id (fun e => by have := hX.out; omega)) (fun e => .inr (by have := hX.out; have := HSZ.out; have := H3.out.sz; omega)), ?_⟩
      have e : mkA { A with dv := (.slice (some ⟨db, doff + 2, none⟩) D.length (dcap - 1)), tv := tv, ver := A.ver } D ((lookS M A.who 0 (S.wd + ((i : Int) + 1))).lg.length : Int) = { A with dv := (.slice (some ⟨db, doff + 2, none⟩) D.length (dcap - 1)), tv := tv, ver := A.ver } := by unfold mkA; exact if_neg (fun h => hm h.1)
      rw [e]
      exact HE.out.under HS.out.1 HS.out.2

set_option maxRecDepth 1000000 in
set_option maxHeartbeats 16000000 in
theorem shstep_store0 (h : Sg n w0 wr fs zs a s S A P T ((1, 0) :: D) M w) (hsp : M.sp A.who = false) (hG : Mm.Good a0 b0 c0 k M) (ha : a0 ≤ 65536) (hb : b0 ≤ 65536) (hc : c0 ≤ 65536) (hk : k ≤ 100000) (hwho : I64 A.who) (hwd : 0 ≤ S.wd ∧ S.wd ≤ 100000) (hver : 0 ≤ A.ver ∧ A.ver ≤ 1000000) :
    Calls Try.prog 93 #[.pointer (some ⟨a, 0, none⟩)] w (ShQ n w0 wr fs zs a s S A P T D (storeS M A.who S.wd (A.ver + 1)) (A.ver + 1) w.heap.size) := by
  have HR := Lib.hid h
  have HOV := Lib.hid (shover_any h.sa h.tod)
  have hdf : decide (((1, 0) :: D : List (Int × Int)) = []) = false := by simp
  rw [hdf] at HOV
  obtain ⟨c0, c1, c2, c3, c4, c5, c6, c7, c8, cf⟩ := h.sa.cells
  obtain ⟨s0, s1, s2, s3, s4⟩ := h.si.cells
  rw [h.as'] at c0
  obtain ⟨dao, dcap, hdv, hdc0, hdc⟩ := h.tod.form
  have htod := h.tod
  rw [hdv] at c5 htod
  obtain ⟨db, doff, rfl, hdb, hx⟩ := htod.at (i := 0) (x := (1, 0)) rfl
  have e0 := hx 0 _ (by decide) rfl
  have e1 := hx 1 _ (by decide) rfl
  simp only [Nat.zero_mul, Nat.add_zero] at e0 e1
  have hdl : (0 : Int) < ((D.length + 1 : Nat) : Int) := by omega
  have hdc1 : D.length + 1 ≤ dcap := by simpa using hdc0
  have hal := h.sa.lt
  have hsl := h.si.lt
  have HTOD := Lib.hid (show Rr accK w (.slice (some ⟨db, doff, none⟩) (D.length + 1) dcap) ((1, 0) :: D) from htod)
  have HDV := Lib.hid (show A.dv = .slice (some ⟨db, doff, none⟩) (D.length + 1) dcap from hdv)
  have HG := Lib.hid hG
  have HSP := Lib.hid hsp
  have HB := Lib.hid (And.intro ha (And.intro hb (And.intro hc hk)))
  have HWHO := Lib.hid hwho
  have HWI : Hid (I64 S.wd) := Lib.hid ⟨by omega, by omega⟩
  have HV := Lib.hid hver
  have hw1 : IntKind.i64.wrap S.wd = S.wd := by rw [IntKind.wrap_i64]; omega
  clear hver hwd

  clear hx htod hdf h hdv hG hsp ha hb hc hk hwho hdc0
  go_enter Try.func93, Try.ntmps93
  go_wp2_with fail
  go_at_call 52
  refine HOV.out.mono ?_
  rintro e w1 ⟨rfl, rfl⟩
  go_upto_region 3 with fail
  go_region
  go_upto_region 4 with fail
  have hn := heap_alloc_new w (.cells #[Value.int .i64 (1), .int .i64 (0)] 164)
  have hxl : w.heap.size < (w.alloc (.cells #[Value.int .i64 (1), .int .i64 (0)] 164)).drew.heap.size := (Array.getElem?_eq_some_iff.1 hn).1
  have x0 : (w.alloc (.cells #[Value.int .i64 (1), .int .i64 (0)] 164)).drew.cell? ⟨w.heap.size, 0, none⟩ = some (.int .i64 (1)) := cell_of_row _ _ _ _ _ _ hn
  have x1 : (w.alloc (.cells #[Value.int .i64 (1), .int .i64 (0)] 164)).drew.cell? ⟨w.heap.size, 1, none⟩ = some (.int .i64 (0)) := cell_of_row _ _ _ _ _ _ hn
  have hbx : Below w.heap.size w (w.alloc (.cells #[Value.int .i64 (1), .int .i64 (0)] 164)).drew := ((Below.refl _ _).alloc (Nat.le_refl _) _).drew
  obtain ⟨zs1, y1, y2, hov⟩ := HR.out.over hbx (Nat.le_refl w.heap.size) hxl
  have HO := Lib.hid hov
  have HZ1 := Lib.hid (And.intro y1 y2)
  have HTW := Lib.hid (HTOD.out.below hbx)
  have HS := Lib.hid (And.intro (fun j (hj : j ∈ fs) => (hbx.block j (zs_lt HR.out.mz j (HR.out.fz j hj))).trans (HR.out.fr j hj)) (Nat.le_trans HR.out.sz hbx.size))
  have HX := Lib.hid (And.intro x0 x1)
  have HSZ := Lib.hid hbx.size
  generalize hX : w.heap.size = X at *
  replace hX := Lib.hid hX
  generalize (w.alloc (.cells #[Value.int .i64 (1), .int .i64 (0)] 164)).drew = W at *
  clear hn hxl hbx hov y1 y2 c0 c1 c2 c3 c4 c5 c6 c7 c8 cf s0 s1 s2 s3 s4 hal hsl hdb e0 e1 HOV HTOD
  obtain ⟨c0, c1, c2, c3, c4, c5, c6, c7, c8, cf⟩ := HO.out.sa.cells
  obtain ⟨s0, s1, s2, s3, s4⟩ := HO.out.si.cells
  rw [HO.out.as'] at c0
  rw [HDV.out] at c5
  go_wp2_with fail
  go_at_call 66
  refine (mz_asleep HO.out.mz A.who HWHO.out).mono ?_
  rw [HSP.out]
  rintro e w1 ⟨rfl, rfl⟩
  go_upto_region 6 with fail

  have hcc : (dcap = 1 ∧ D = []) ∨ dcap ≠ 1 := by
    by_cases e : dcap = 1
    · exact .inl ⟨e, List.length_eq_zero_iff.1 (by omega)⟩
    · exact .inr e
  rcases hcc with ⟨rfl, rfl⟩ | hcap
  · skip
    have HD := Lib.hid (HO.out.setD (v := (.slice (some ⟨db, doff, none⟩) 0 0)) rr_nil0 (by rw [HDV.out]; rfl))

    go_upto_region 7 with fail
    clear c0 c1 c2 c3 c4 c5 c6 c7 c8 cf s0 s1 s2 s3 s4 x0 x1
    generalize W.setCell ⟨a, 5, none⟩ (.slice (some ⟨db, doff, none⟩) 0 0) = W2 at *
    obtain ⟨c0, c1, c2, c3, c4, c5, c6, c7, c8, cf⟩ := HD.out.sa.cells
    obtain ⟨s0, s1, s2, s3, s4⟩ := HD.out.si.cells
    rw [HD.out.as'] at c0
    obtain ⟨x0, x1⟩ := HD.out.acc HX.out.1 HX.out.2
    go_upto_region 11 with fail
    replace HD := Lib.hid (HD.out.below (Below.refl _ _).drew)
    clear c0 c1 c2 c3 c4 c5 c6 c7 c8 cf s0 s1 s2 s3 s4 x0 x1
    obtain ⟨c0, c1, c2, c3, c4, c5, c6, c7, c8, cf⟩ := HD.out.sa.cells
    obtain ⟨s0, s1, s2, s3, s4⟩ := HD.out.si.cells
    rw [HD.out.as'] at c0
    obtain ⟨x0, x1⟩ := HD.out.acc HX.out.1 HX.out.2
    refine wp_region_held_drew (S := (fun w' => w'.cell? ⟨X, 1, none⟩ = some (.int .i64 (0)) ∧ w'.cell? ⟨a, 1, none⟩ = some (.int .i64 A.who) ∧ w'.cell? ⟨a, 0, none⟩ = some (.pointer (some ⟨s, 0, none⟩)) ∧ w'.cell? ⟨s, 1, none⟩ = some (.int .i64 S.wd))) (by kernel_rfl) ?_ (fun hHeld => ?_)
    · ((try dsimp only); first | (obtain ⟨k0, k1, _⟩ := HD.out.sa.cells; obtain ⟨_, t1, _⟩ := HD.out.si.cells; obtain ⟨_, y1⟩ := HD.out.acc HX.out.1 HX.out.2; rw [HD.out.as'] at k0; exact ⟨y1, k1, k0, t1⟩))
    refine wpAnyH_take (i := 0) (v := ?_) rfl (by kernel_rfl) (by kernel_rfl) (by kernel_rfl) (fun _ _ _ h => h) (Or.inl ⟨by rfl, ?_⟩) (by assumption) ?_
    rotate_left 1
    · (intro w hSw; (try dsimp only at hSw); first | (go_simp; done) | (go_simp; with_reducible rfl))
    try simp only [Act.put, List.setIfInBounds_toArray, List.set_cons_zero, List.set_cons_succ, List.getElem_toArray, List.getElem_cons_zero]
    refine wpAnyH_take (i := 1) (v := ?_) rfl (by kernel_rfl) (by kernel_rfl) (by kernel_rfl) (fun _ _ _ h => h) (Or.inl ⟨by rfl, ?_⟩) (by assumption) ?_
    rotate_left 1
    · (intro w hSw; (try dsimp only at hSw); first | (go_simp; done) | (go_simp; with_reducible rfl))
    try simp only [Act.put, List.setIfInBounds_toArray, List.set_cons_zero, List.set_cons_succ, List.getElem_toArray, List.getElem_cons_zero, List.getElem_cons_succ]
    refine wpAnyH_take (i := 2) (v := ?_) rfl (by kernel_rfl) (by kernel_rfl) (by kernel_rfl) (fun _ _ _ h => h) (Or.inl ⟨by rfl, ?_⟩) (by assumption) ?_
    rotate_left 1
    · (intro w hSw; (try dsimp only at hSw); first | (go_simp; done) | (go_simp; with_reducible rfl))
    try simp only [Act.put, List.setIfInBounds_toArray, List.set_cons_zero, List.set_cons_succ, List.getElem_toArray, List.getElem_cons_zero, List.getElem_cons_succ]
    refine wpAnyH_take (i := 3) (v := ?_) rfl (by kernel_rfl) (by kernel_rfl) (by kernel_rfl) (fun _ _ _ h => h) (Or.inl ⟨by rfl, ?_⟩) (by assumption) ?_
    rotate_left 1
    · (intro w hSw; (try dsimp only at hSw); first | (go_simp; done) | (go_simp; with_reducible rfl))
    try simp only [Act.put, List.setIfInBounds_toArray, List.set_cons_zero, List.set_cons_succ, List.getElem_toArray, List.getElem_cons_zero, List.getElem_cons_succ]
    refine wpAnyH_take (i := 4) (v := ?_) rfl (by kernel_rfl) (by kernel_rfl) (by kernel_rfl) (fun _ _ _ h => h) (Or.inl ⟨by rfl, ?_⟩) (by assumption) ?_
    rotate_left 1
    · (intro w hSw; (try dsimp only at hSw); first | (go_simp; done) | (go_simp; with_reducible rfl))
    try simp only [Act.put, List.setIfInBounds_toArray, List.set_cons_zero, List.set_cons_succ, List.getElem_toArray, List.getElem_cons_zero, List.getElem_cons_succ]
    refine wpAnyH_take (i := 5) (v := ?_) rfl (by kernel_rfl) (by kernel_rfl) (by kernel_rfl) (fun _ _ _ h => h) (Or.inl ⟨by rfl, ?_⟩) (by assumption) ?_
    rotate_left 1
    · (intro w hSw; (try dsimp only at hSw); first | (go_simp; done) | (go_simp; with_reducible rfl))
    try simp only [Act.put, List.setIfInBounds_toArray, List.set_cons_zero, List.set_cons_succ, List.getElem_toArray, List.getElem_cons_zero, List.getElem_cons_succ]
    refine wpAnyH_take (i := 6) (v := ?_) rfl (by kernel_rfl) (by kernel_rfl) (by kernel_rfl) (fun _ _ _ h => h) (Or.inl ⟨by rfl, ?_⟩) (by assumption) ?_
    rotate_left 1
    · (intro w hSw; (try dsimp only at hSw); first | (go_simp; done) | (go_simp; with_reducible rfl))
    try simp only [Act.put, List.setIfInBounds_toArray, List.set_cons_zero, List.set_cons_succ, List.getElem_toArray, List.getElem_cons_zero, List.getElem_cons_succ]
    refine wpAnyH_take (i := 7) (v := ?_) rfl (by kernel_rfl) (by kernel_rfl) (by kernel_rfl) (fun _ _ _ h => h) (Or.inl ⟨by rfl, ?_⟩) (by assumption) ?_
    rotate_left 1
    · (intro w hSw; (try dsimp only at hSw); first | (go_simp; done) | (go_simp; with_reducible rfl))
    try simp only [Act.put, List.setIfInBounds_toArray, List.set_cons_zero, List.set_cons_succ, List.getElem_toArray, List.getElem_cons_zero, List.getElem_cons_succ]
    refine wpAnyH_take (i := 8) (v := ?_) rfl (by kernel_rfl) (by kernel_rfl) (by kernel_rfl) (fun _ _ _ h => h) (Or.inl ⟨by rfl, ?_⟩) (by assumption) ?_
    rotate_left 1
    · (intro w hSw; (try dsimp only at hSw); first | (go_simp; done) | (go_simp; with_reducible rfl))
    try simp only [Act.put, List.setIfInBounds_toArray, List.set_cons_zero, List.set_cons_succ, List.getElem_toArray, List.getElem_cons_zero, List.getElem_cons_succ]
    refine wpAnyH_take (i := 9) (v := ?_) rfl (by kernel_rfl) (by kernel_rfl) (by kernel_rfl) (fun _ _ _ h => h) (Or.inl ⟨by rfl, ?_⟩) (by assumption) ?_
    rotate_left 1
    · (intro w hSw; (try dsimp only at hSw); first | (go_simp; done) | (go_simp; with_reducible rfl))
    try simp only [Act.put, List.setIfInBounds_toArray, List.set_cons_zero, List.set_cons_succ, List.getElem_toArray, List.getElem_cons_zero, List.getElem_cons_succ]
    refine wpAnyH_take (i := 10) (v := ?_) rfl (by kernel_rfl) (by kernel_rfl) (by kernel_rfl) (fun _ _ _ h => h) (Or.inl ⟨by rfl, ?_⟩) (by assumption) ?_
    rotate_left 1
    · (intro w hSw; (try dsimp only at hSw); first | (go_simp; done) | (go_simp; with_reducible rfl))
    try simp only [Act.put, List.setIfInBounds_toArray, List.set_cons_zero, List.set_cons_succ, List.getElem_toArray, List.getElem_cons_zero, List.getElem_cons_succ]
    refine wpAnyH_take (i := 11) (v := ?_) rfl (by kernel_rfl) (by kernel_rfl) (by kernel_rfl) (fun _ _ _ h => h) (Or.inl ⟨by rfl, ?_⟩) (by assumption) ?_
    rotate_left 1
    · (intro w hSw; (try dsimp only at hSw); first | (go_simp; done) | (go_simp; with_reducible rfl))
    try simp only [Act.put, List.setIfInBounds_toArray, List.set_cons_zero, List.set_cons_succ, List.getElem_toArray, List.getElem_cons_zero, List.getElem_cons_succ]
    refine wpAnyH_take (i := 12) (v := ?_) rfl (by kernel_rfl) (by kernel_rfl) (by kernel_rfl) (fun _ _ _ h => h) (Or.inl ⟨by rfl, ?_⟩) (by assumption) ?_
    rotate_left 1
    · (intro w hSw; (try dsimp only at hSw); first | (go_simp; done) | (go_simp; with_reducible rfl))
    try simp only [Act.put, List.setIfInBounds_toArray, List.set_cons_zero, List.set_cons_succ, List.getElem_toArray, List.getElem_cons_zero, List.getElem_cons_succ]
    refine wpAnyH_take (i := 13) (v := ?_) rfl (by kernel_rfl) (by kernel_rfl) (by kernel_rfl) (fun _ _ _ h => h) (Or.inl ⟨by rfl, ?_⟩) (by assumption) ?_
    rotate_left 1
    · (intro w hSw; (try dsimp only at hSw); first | (go_simp; done) | (go_simp; with_reducible rfl))
    try simp only [Act.put, List.setIfInBounds_toArray, List.set_cons_zero, List.set_cons_succ, List.getElem_toArray, List.getElem_cons_zero, List.getElem_cons_succ]
    refine wpAnyH_take (i := 14) (v := ?_) rfl (by kernel_rfl) (by kernel_rfl) (by kernel_rfl) (fun _ _ _ h => h) (Or.inl ⟨by rfl, ?_⟩) (by assumption) ?_
    rotate_left 1
    · (intro w hSw; (try dsimp only at hSw); first | (go_simp; done) | (go_simp; with_reducible rfl))
    try simp only [Act.put, List.setIfInBounds_toArray, List.set_cons_zero, List.set_cons_succ, List.getElem_toArray, List.getElem_cons_zero, List.getElem_cons_succ]
    refine wpAnyH_take (i := 15) (v := ?_) rfl (by kernel_rfl) (by kernel_rfl) (by kernel_rfl) (fun _ _ _ h => h) (Or.inl ⟨by rfl, ?_⟩) (by assumption) ?_
    rotate_left 1
    · (intro w hSw; (try dsimp only at hSw); first | (go_simp; done) | (go_simp; with_reducible rfl))
    try simp only [Act.put, List.setIfInBounds_toArray, List.set_cons_zero, List.set_cons_succ, List.getElem_toArray, List.getElem_cons_zero, List.getElem_cons_succ]
    refine wpAnyH_take (i := 16) (v := ?_) rfl (by kernel_rfl) (by kernel_rfl) (by kernel_rfl) (fun _ _ _ h => h) (Or.inl ⟨by rfl, ?_⟩) (by assumption) ?_
    rotate_left 1
    · (intro w hSw; (try dsimp only at hSw); first | (go_simp; done) | (go_simp; with_reducible rfl))
    try simp only [Act.put, List.setIfInBounds_toArray, List.set_cons_zero, List.set_cons_succ, List.getElem_toArray, List.getElem_cons_zero, List.getElem_cons_succ]
    refine wpAnyH_take (i := 17) (v := ?_) rfl (by kernel_rfl) (by kernel_rfl) (by kernel_rfl) (fun _ _ _ h => h) (Or.inl ⟨by rfl, ?_⟩) (by assumption) ?_
    rotate_left 1
    · (intro w hSw; (try dsimp only at hSw); first | (go_simp; done) | (go_simp; with_reducible rfl))
    try simp only [Act.put, List.setIfInBounds_toArray, List.set_cons_zero, List.set_cons_succ, List.getElem_toArray, List.getElem_cons_zero, List.getElem_cons_succ]
    refine wpAnyH_ready (rs := [18]) (by kernel_rfl) (by simp) ?_
    refine AllReadyH.cons rfl (fun K hK => ?_) AllReadyH.nil
    go_simp
    go_at_call 120
    refine (shnext_0 HD.out HV.out).mono ?_
    rintro e W3 ⟨rfl, h3⟩
    have H3 := Lib.hid h3
    clear h3
    try go_wp2_with fail
    refine hK.out _ _ ?_ (fun hHeld => ?_)
    · ((try dsimp only); first | (obtain ⟨k0, k1, _⟩ := H3.out.sa.cells; obtain ⟨_, t1, _⟩ := H3.out.si.cells; obtain ⟨_, y1⟩ := H3.out.acc HX.out.1 HX.out.2; rw [H3.out.as'] at k0; exact ⟨y1, k1, k0, t1⟩))
    clear hK K
    try simp only [Act.put, List.setIfInBounds_toArray, List.set_cons_zero, List.set_cons_succ, List.getElem_toArray, List.getElem_cons_zero, List.getElem_cons_succ]
    refine wpAnyH_ready (rs := [19]) (by kernel_rfl) (by simp) ?_
    refine AllReadyH.cons rfl (fun K hK => ?_) AllReadyH.nil
    go_simp
    go_at_call 113
    refine (mz_store H3.out.mz HG.out HB.out.1 HB.out.2.1 HB.out.2.2.1 HB.out.2.2.2 A.who S.wd (A.ver + 1) HWHO.out HWI.out).mono ?_
    rintro e W4 ⟨rfl, hm, hkb⟩
    have HF := Lib.hid (H3.out.call hm hkb)
    clear hm hkb
    try go_wp2_with fail
    refine hK.out _ _ ?_ (fun hHeld => ?_)
    · ((try dsimp only); first | (obtain ⟨k0, k1, _⟩ := HF.out.sa.cells; obtain ⟨_, t1, _⟩ := HF.out.si.cells; obtain ⟨_, y1⟩ := HF.out.acc HX.out.1 HX.out.2; rw [HF.out.as'] at k0; exact ⟨y1, k1, k0, t1⟩))
    clear hK K
    try simp only [Act.put, List.setIfInBounds_toArray, List.set_cons_zero, List.set_cons_succ, List.getElem_toArray, List.getElem_cons_zero, List.getElem_cons_succ]
    refine wpAnyH_done (by kernel_rfl) ?_ _
    clear c0 c1 c2 c3 c4 c5 c6 c7 c8 cf s0 s1 s2 s3 s4 x0 x1


    obtain ⟨f0, f1, f2, f3, f4, f5, f6, f7, f8, ff⟩ := HF.out.sa.cells
    have f8' : W4.cell? ⟨a, 8, none⟩ = some (.int .i64 A.mk') := f8
    clear f8
    by_cases hm : A.mk' = 0
    · rw [hm] at f8'
      rcases Bool.eq_false_or_eq_true (teB []) with hte | hte
      · go_wp2_with fail
        go_at_call 121
        refine (shte_any HF.out.sa HF.out.tod).mono ?_
        rw [hte]
        rintro e w5 ⟨rfl, rfl⟩
        go_wp2_with fail
        go_at_call 14
        refine (mz_time HF.out.mz).mono ?_
        rintro e w5 ⟨rfl, rfl⟩
        have HE := Lib.hid (HF.out.setA 8 (.int .i64 ((storeS M A.who S.wd (A.ver + 1)).lg.length : Int)) (HF.out.sa.set8 ((storeS M A.who S.wd (A.ver + 1)).lg.length : Int)) rfl rfl rfl rfl)
        go_wp2_with fail
        go_at_call 52
        refine (shover_any HE.out.sa HE.out.tod).mono ?_
        rintro e w9 ⟨rfl, rfl⟩
        go_wp2_with fail
        go_ret
        refine ⟨rfl, zs1, (.slice (some ⟨db, doff, none⟩) 0 0), A.tv, HZ1.out.1, fun j hj => (HZ1.out.2 j hj).imp id (fun e => by have := hX.out; omega), ?_⟩
        have e : mkA { A with dv := (.slice (some ⟨db, doff, none⟩) 0 0), tv := A.tv, ver := A.ver + 1 } [] ((storeS M A.who S.wd (A.ver + 1)).lg.length : Int) = { { A with dv := (.slice (some ⟨db, doff, none⟩) 0 0), tv := A.tv, ver := A.ver + 1 } with mk' := ((storeS M A.who S.wd (A.ver + 1)).lg.length : Int) } := by unfold mkA; rw [if_pos ⟨hm, hte⟩]
        rw [e]
        exact HE.out.under HS.out.1 HS.out.2
      · have HE := HF
        go_wp2_with fail
        go_at_call 121
        refine (shte_any HF.out.sa HF.out.tod).mono ?_
        rw [hte]
        rintro e w5 ⟨rfl, rfl⟩
        go_wp2_with fail
        go_at_call 52
        refine (shover_any HE.out.sa HE.out.tod).mono ?_
        rintro e w9 ⟨rfl, rfl⟩
        go_wp2_with fail
        go_ret
        refine ⟨rfl, zs1, (.slice (some ⟨db, doff, none⟩) 0 0), A.tv, HZ1.out.1, fun j hj => (HZ1.out.2 j hj).imp id (fun e => by have := hX.out; omega), ?_⟩
        have e : mkA { A with dv := (.slice (some ⟨db, doff, none⟩) 0 0), tv := A.tv, ver := A.ver + 1 } [] ((storeS M A.who S.wd (A.ver + 1)).lg.length : Int) = { A with dv := (.slice (some ⟨db, doff, none⟩) 0 0), tv := A.tv, ver := A.ver + 1 } := by unfold mkA; rw [if_neg (by rw [hte]; simp)]
        rw [e]
        exact HE.out.under HS.out.1 HS.out.2
    · have HE := HF
      have hm2 : (A.mk' == 0) = false := by rw [beq_eq_false_iff_ne]; exact hm
      go_wp2_with fail
      go_at_call 52
      refine (shover_any HE.out.sa HE.out.tod).mono ?_
      rintro e w9 ⟨rfl, rfl⟩
      go_wp2_with fail
      go_ret
      refine ⟨rfl, zs1, (.slice (some ⟨db, doff, none⟩) 0 0), A.tv, HZ1.out.1, fun j hj => (HZ1.out.2 j hj).imp id (fun e => by have := hX.out; omega), ?_⟩
      have e : mkA { A with dv := (.slice (some ⟨db, doff, none⟩) 0 0), tv := A.tv, ver := A.ver + 1 } [] ((storeS M A.who S.wd (A.ver + 1)).lg.length : Int) = { A with dv := (.slice (some ⟨db, doff, none⟩) 0 0), tv := A.tv, ver := A.ver + 1 } := by unfold mkA; exact if_neg (fun h => hm h.1)
      rw [e]
      exact HE.out.under HS.out.1 HS.out.2
  · skip
    have HD := Lib.hid (HO.out.setD (v := (.slice (some ⟨db, doff + 2, none⟩) D.length (dcap - 1))) (rr_tail (HTW.out)) (by rw [HDV.out]; rfl))
    have hc1 : 0 < dcap - 1 := by omega
    go_upto_region 7 with fail
    clear c0 c1 c2 c3 c4 c5 c6 c7 c8 cf s0 s1 s2 s3 s4 x0 x1
    generalize W.setCell ⟨a, 5, none⟩ (.slice (some ⟨db, doff + 2, none⟩) D.length (dcap - 1)) = W2 at *
    obtain ⟨c0, c1, c2, c3, c4, c5, c6, c7, c8, cf⟩ := HD.out.sa.cells
    obtain ⟨s0, s1, s2, s3, s4⟩ := HD.out.si.cells
    rw [HD.out.as'] at c0
    obtain ⟨x0, x1⟩ := HD.out.acc HX.out.1 HX.out.2
    go_upto_region 11 with fail
    replace HD := Lib.hid (HD.out.below (Below.refl _ _).drew)
    clear c0 c1 c2 c3 c4 c5 c6 c7 c8 cf s0 s1 s2 s3 s4 x0 x1
    obtain ⟨c0, c1, c2, c3, c4, c5, c6, c7, c8, cf⟩ := HD.out.sa.cells
    obtain ⟨s0, s1, s2, s3, s4⟩ := HD.out.si.cells
    rw [HD.out.as'] at c0
    obtain ⟨x0, x1⟩ := HD.out.acc HX.out.1 HX.out.2
    refine wp_region_held_drew (S := (fun w' => w'.cell? ⟨X, 1, none⟩ = some (.int .i64 (0)) ∧ w'.cell? ⟨a, 1, none⟩ = some (.int .i64 A.who) ∧ w'.cell? ⟨a, 0, none⟩ = some (.pointer (some ⟨s, 0, none⟩)) ∧ w'.cell? ⟨s, 1, none⟩ = some (.int .i64 S.wd))) (by kernel_rfl) ?_ (fun hHeld => ?_)
    · ((try dsimp only); first | (obtain ⟨k0, k1, _⟩ := HD.out.sa.cells; obtain ⟨_, t1, _⟩ := HD.out.si.cells; obtain ⟨_, y1⟩ := HD.out.acc HX.out.1 HX.out.2; rw [HD.out.as'] at k0; exact ⟨y1, k1, k0, t1⟩))
    refine wpAnyH_take (i := 0) (v := ?_) rfl (by kernel_rfl) (by kernel_rfl) (by kernel_rfl) (fun _ _ _ h => h) (Or.inl ⟨by rfl, ?_⟩) (by assumption) ?_
    rotate_left 1
    · (intro w hSw; (try dsimp only at hSw); first | (go_simp; done) | (go_simp; with_reducible rfl))
    try simp only [Act.put, List.setIfInBounds_toArray, List.set_cons_zero, List.set_cons_succ, List.getElem_toArray, List.getElem_cons_zero]
    refine wpAnyH_take (i := 1) (v := ?_) rfl (by kernel_rfl) (by kernel_rfl) (by kernel_rfl) (fun _ _ _ h => h) (Or.inl ⟨by rfl, ?_⟩) (by assumption) ?_
    rotate_left 1
    · (intro w hSw; (try dsimp only at hSw); first | (go_simp; done) | (go_simp; with_reducible rfl))
    try simp only [Act.put, List.setIfInBounds_toArray, List.set_cons_zero, List.set_cons_succ, List.getElem_toArray, List.getElem_cons_zero, List.getElem_cons_succ]
    refine wpAnyH_take (i := 2) (v := ?_) rfl (by kernel_rfl) (by kernel_rfl) (by kernel_rfl) (fun _ _ _ h => h) (Or.inl ⟨by rfl, ?_⟩) (by assumption) ?_
    rotate_left 1
    · (intro w hSw; (try dsimp only at hSw); first | (go_simp; done) | (go_simp; with_reducible rfl))
    try simp only [Act.put, List.setIfInBounds_toArray, List.set_cons_zero, List.set_cons_succ, List.getElem_toArray, List.getElem_cons_zero, List.getElem_cons_succ]
    refine wpAnyH_take (i := 3) (v := ?_) rfl (by kernel_rfl) (by kernel_rfl) (by kernel_rfl) (fun _ _ _ h => h) (Or.inl ⟨by rfl, ?_⟩) (by assumption) ?_
    rotate_left 1
    · (intro w hSw; (try dsimp only at hSw); first | (go_simp; done) | (go_simp; with_reducible rfl))
    try simp only [Act.put, List.setIfInBounds_toArray, List.set_cons_zero, List.set_cons_succ, List.getElem_toArray, List.getElem_cons_zero, List.getElem_cons_succ]
    refine wpAnyH_take (i := 4) (v := ?_) rfl (by kernel_rfl) (by kernel_rfl) (by kernel_rfl) (fun _ _ _ h => h) (Or.inl ⟨by rfl, ?_⟩) (by assumption) ?_
    rotate_left 1
    · (intro w hSw; (try dsimp only at hSw); first | (go_simp; done) | (go_simp; with_reducible rfl))
    try simp only [Act.put, List.setIfInBounds_toArray, List.set_cons_zero, List.set_cons_succ, List.getElem_toArray, List.getElem_cons_zero, List.getElem_cons_succ]
    refine wpAnyH_take (i := 5) (v := ?_) rfl (by kernel_rfl) (by kernel_rfl) (by kernel_rfl) (fun _ _ _ h => h) (Or.inl ⟨by rfl, ?_⟩) (by assumption) ?_
    rotate_left 1
    · (intro w hSw; (try dsimp only at hSw); first | (go_simp; done) | (go_simp; with_reducible rfl))
    try simp only [Act.put, List.setIfInBounds_toArray, List.set_cons_zero, List.set_cons_succ, List.getElem_toArray, List.getElem_cons_zero, List.getElem_cons_succ]
    refine wpAnyH_take (i := 6) (v := ?_) rfl (by kernel_rfl) (by kernel_rfl) (by kernel_rfl) (fun _ _ _ h => h) (Or.inl ⟨by rfl, ?_⟩) (by assumption) ?_
    rotate_left 1
    · (intro w hSw; (try dsimp only at hSw); first | (go_simp; done) | (go_simp; with_reducible rfl))
    try simp only [Act.put, List.setIfInBounds_toArray, List.set_cons_zero, List.set_cons_succ, List.getElem_toArray, List.getElem_cons_zero, List.getElem_cons_succ]
    refine wpAnyH_take (i := 7) (v := ?_) rfl (by kernel_rfl) (by kernel_rfl) (by kernel_rfl) (fun _ _ _ h => h) (Or.inl ⟨by rfl, ?_⟩) (by assumption) ?_
    rotate_left 1
    · (intro w hSw; (try dsimp only at hSw); first | (go_simp; done) | (go_simp; with_reducible rfl))
    try simp only [Act.put, List.setIfInBounds_toArray, List.set_cons_zero, List.set_cons_succ, List.getElem_toArray, List.getElem_cons_zero, List.getElem_cons_succ]
    refine wpAnyH_take (i := 8) (v := ?_) rfl (by kernel_rfl) (by kernel_rfl) (by kernel_rfl) (fun _ _ _ h => h) (Or.inl ⟨by rfl, ?_⟩) (by assumption) ?_
    rotate_left 1
    · (intro w hSw; (try dsimp only at hSw); first | (go_simp; done) | (go_simp; with_reducible rfl))
    try simp only [Act.put, List.setIfInBounds_toArray, List.set_cons_zero, List.set_cons_succ, List.getElem_toArray, List.getElem_cons_zero, List.getElem_cons_succ]
    refine wpAnyH_take (i := 9) (v := ?_) rfl (by kernel_rfl) (by kernel_rfl) (by kernel_rfl) (fun _ _ _ h => h) (Or.inl ⟨by rfl, ?_⟩) (by assumption) ?_
    rotate_left 1
    · (intro w hSw; (try dsimp only at hSw); first | (go_simp; done) | (go_simp; with_reducible rfl))
    try simp only [Act.put, List.setIfInBounds_toArray, List.set_cons_zero, List.set_cons_succ, List.getElem_toArray, List.getElem_cons_zero, List.getElem_cons_succ]
    refine wpAnyH_take (i := 10) (v := ?_) rfl (by kernel_rfl) (by kernel_rfl) (by kernel_rfl) (fun _ _ _ h => h) (Or.inl ⟨by rfl, ?_⟩) (by assumption) ?_
    rotate_left 1
    · (intro w hSw; (try dsimp only at hSw); first | (go_simp; done) | (go_simp; with_reducible rfl))
    try simp only [Act.put, List.setIfInBounds_toArray, List.set_cons_zero, List.set_cons_succ, List.getElem_toArray, List.getElem_cons_zero, List.getElem_cons_succ]
    refine wpAnyH_take (i := 11) (v := ?_) rfl (by kernel_rfl) (by kernel_rfl) (by kernel_rfl) (fun _ _ _ h => h) (Or.inl ⟨by rfl, ?_⟩) (by assumption) ?_
    rotate_left 1
    · (intro w hSw; (try dsimp only at hSw); first | (go_simp; done) | (go_simp; with_reducible rfl))
    try simp only [Act.put, List.setIfInBounds_toArray, List.set_cons_zero, List.set_cons_succ, List.getElem_toArray, List.getElem_cons_zero, List.getElem_cons_succ]
    refine wpAnyH_take (i := 12) (v := ?_) rfl (by kernel_rfl) (by kernel_rfl) (by kernel_rfl) (fun _ _ _ h => h) (Or.inl ⟨by rfl, ?_⟩) (by assumption) ?_
    rotate_left 1
    · (intro w hSw; (try dsimp only at hSw); first | (go_simp; done) | (go_simp; with_reducible rfl))
    try simp only [Act.put, List.setIfInBounds_toArray, List.set_cons_zero, List.set_cons_succ, List.getElem_toArray, List.getElem_cons_zero, List.getElem_cons_succ]
    refine wpAnyH_take (i := 13) (v := ?_) rfl (by kernel_rfl) (by kernel_rfl) (by kernel_rfl) (fun _ _ _ h => h) (Or.inl ⟨by rfl, ?_⟩) (by assumption) ?_
    rotate_left 1
    · (intro w hSw; (try dsimp only at hSw); first | (go_simp; done) | (go_simp; with_reducible rfl))
    try simp only [Act.put, List.setIfInBounds_toArray, List.set_cons_zero, List.set_cons_succ, List.getElem_toArray, List.getElem_cons_zero, List.getElem_cons_succ]
    refine wpAnyH_take (i := 14) (v := ?_) rfl (by kernel_rfl) (by kernel_rfl) (by kernel_rfl) (fun _ _ _ h => h) (Or.inl ⟨by rfl, ?_⟩) (by assumption) ?_
    rotate_left 1
    · (intro w hSw; (try dsimp only at hSw); first | (go_simp; done) | (go_simp; with_reducible rfl))
    try simp only [Act.put, List.setIfInBounds_toArray, List.set_cons_zero, List.set_cons_succ, List.getElem_toArray, List.getElem_cons_zero, List.getElem_cons_succ]
    refine wpAnyH_take (i := 15) (v := ?_) rfl (by kernel_rfl) (by kernel_rfl) (by kernel_rfl) (fun _ _ _ h => h) (Or.inl ⟨by rfl, ?_⟩) (by assumption) ?_
    rotate_left 1
    · (intro w hSw; (try dsimp only at hSw); first | (go_simp; done) | (go_simp; with_reducible rfl))
    try simp only [Act.put, List.setIfInBounds_toArray, List.set_cons_zero, List.set_cons_succ, List.getElem_toArray, List.getElem_cons_zero, List.getElem_cons_succ]
    refine wpAnyH_take (i := 16) (v := ?_) rfl (by kernel_rfl) (by kernel_rfl) (by kernel_rfl) (fun _ _ _ h => h) (Or.inl ⟨by rfl, ?_⟩) (by assumption) ?_
    rotate_left 1
    · (intro w hSw; (try dsimp only at hSw); first | (go_simp; done) | (go_simp; with_reducible rfl))
    try simp only [Act.put, List.setIfInBounds_toArray, List.set_cons_zero, List.set_cons_succ, List.getElem_toArray, List.getElem_cons_zero, List.getElem_cons_succ]
    refine wpAnyH_take (i := 17) (v := ?_) rfl (by kernel_rfl) (by kernel_rfl) (by kernel_rfl) (fun _ _ _ h => h) (Or.inl ⟨by rfl, ?_⟩) (by assumption) ?_
    rotate_left 1
    · (intro w hSw; (try dsimp only at hSw); first | (go_simp; done) | (go_simp; with_reducible rfl))
    try simp only [Act.put, List.setIfInBounds_toArray, List.set_cons_zero, List.set_cons_succ, List.getElem_toArray, List.getElem_cons_zero, List.getElem_cons_succ]
    refine wpAnyH_ready (rs := [18]) (by kernel_rfl) (by simp) ?_
    refine AllReadyH.cons rfl (fun K hK => ?_) AllReadyH.nil
    go_simp
    go_at_call 120
    refine (shnext_0 HD.out HV.out).mono ?_
    rintro e W3 ⟨rfl, h3⟩
    have H3 := Lib.hid h3
    clear h3
    try go_wp2_with fail
    refine hK.out _ _ ?_ (fun hHeld => ?_)
    · ((try dsimp only); first | (obtain ⟨k0, k1, _⟩ := H3.out.sa.cells; obtain ⟨_, t1, _⟩ := H3.out.si.cells; obtain ⟨_, y1⟩ := H3.out.acc HX.out.1 HX.out.2; rw [H3.out.as'] at k0; exact ⟨y1, k1, k0, t1⟩))
    clear hK K
    try simp only [Act.put, List.setIfInBounds_toArray, List.set_cons_zero, List.set_cons_succ, List.getElem_toArray, List.getElem_cons_zero, List.getElem_cons_succ]
    refine wpAnyH_ready (rs := [19]) (by kernel_rfl) (by simp) ?_
    refine AllReadyH.cons rfl (fun K hK => ?_) AllReadyH.nil
    go_simp
    go_at_call 113
    refine (mz_store H3.out.mz HG.out HB.out.1 HB.out.2.1 HB.out.2.2.1 HB.out.2.2.2 A.who S.wd (A.ver + 1) HWHO.out HWI.out).mono ?_
    rintro e W4 ⟨rfl, hm, hkb⟩
    have HF := Lib.hid (H3.out.call hm hkb)
    clear hm hkb
    try go_wp2_with fail
    refine hK.out _ _ ?_ (fun hHeld => ?_)
    · ((try dsimp only); first | (obtain ⟨k0, k1, _⟩ := HF.out.sa.cells; obtain ⟨_, t1, _⟩ := HF.out.si.cells; obtain ⟨_, y1⟩ := HF.out.acc HX.out.1 HX.out.2; rw [HF.out.as'] at k0; exact ⟨y1, k1, k0, t1⟩))
    clear hK K
    try simp only [Act.put, List.setIfInBounds_toArray, List.set_cons_zero, List.set_cons_succ, List.getElem_toArray, List.getElem_cons_zero, List.getElem_cons_succ]
    refine wpAnyH_done (by kernel_rfl) ?_ _
    clear c0 c1 c2 c3 c4 c5 c6 c7 c8 cf s0 s1 s2 s3 s4 x0 x1


    obtain ⟨f0, f1, f2, f3, f4, f5, f6, f7, f8, ff⟩ := HF.out.sa.cells
    have f8' : W4.cell? ⟨a, 8, none⟩ = some (.int .i64 A.mk') := f8
    clear f8
    by_cases hm : A.mk' = 0
    · rw [hm] at f8'
      rcases Bool.eq_false_or_eq_true (teB D) with hte | hte
      · go_wp2_with fail
        go_at_call 121
        refine (shte_any HF.out.sa HF.out.tod).mono ?_
        rw [hte]
        rintro e w5 ⟨rfl, rfl⟩
        go_wp2_with fail
        go_at_call 14
        refine (mz_time HF.out.mz).mono ?_
        rintro e w5 ⟨rfl, rfl⟩
        have HE := Lib.hid (HF.out.setA 8 (.int .i64 ((storeS M A.who S.wd (A.ver + 1)).lg.length : Int)) (HF.out.sa.set8 ((storeS M A.who S.wd (A.ver + 1)).lg.length : Int)) rfl rfl rfl rfl)
        go_wp2_with fail
        go_at_call 52
        refine (shover_any HE.out.sa HE.out.tod).mono ?_
        rintro e w9 ⟨rfl, rfl⟩
        go_wp2_with fail
        go_ret
        refine ⟨rfl, zs1, (.slice (some ⟨db, doff + 2, none⟩) D.length (dcap - 1)), A.tv, HZ1.out.1, fun j hj => (HZ1.out.2 j hj).imp id (fun e => by have := hX.out; omega), ?_⟩
        have e : mkA { A with dv := (.slice (some ⟨db, doff + 2, none⟩) D.length (dcap - 1)), tv := A.tv, ver := A.ver + 1 } D ((storeS M A.who S.wd (A.ver + 1)).lg.length : Int) = { { A with dv := (.slice (some ⟨db, doff + 2, none⟩) D.length (dcap - 1)), tv := A.tv, ver := A.ver + 1 } with mk' := ((storeS M A.who S.wd (A.ver + 1)).lg.length : Int) } := by unfold mkA; rw [if_pos ⟨hm, hte⟩]
        rw [e]
        exact HE.out.under HS.out.1 HS.out.2
      · have HE := HF
        go_wp2_with fail
        go_at_call 121
        refine (shte_any HF.out.sa HF.out.tod).mono ?_
        rw [hte]
        rintro e w5 ⟨rfl, rfl⟩
        go_wp2_with fail
        go_at_call 52
        refine (shover_any HE.out.sa HE.out.tod).mono ?_
        rintro e w9 ⟨rfl, rfl⟩
        go_wp2_with fail
        go_ret
        refine ⟨rfl, zs1, (.slice (some ⟨db, doff + 2, none⟩) D.length (dcap - 1)), A.tv, HZ1.out.1, fun j hj => (HZ1.out.2 j hj).imp id (fun e => by have := hX.out; omega), ?_⟩
        have e : mkA { A with dv := (.slice (some ⟨db, doff + 2, none⟩) D.length (dcap - 1)), tv := A.tv, ver := A.ver + 1 } D ((storeS M A.who S.wd (A.ver + 1)).lg.length : Int) = { A with dv := (.slice (some ⟨db, doff + 2, none⟩) D.length (dcap - 1)), tv := A.tv, ver := A.ver + 1 } := by unfold mkA; rw [if_neg (by rw [hte]; simp)]
        rw [e]
        exact HE.out.under HS.out.1 HS.out.2
    · have HE := HF
      have hm2 : (A.mk' == 0) = false := by rw [beq_eq_false_iff_ne]; exact hm
      go_wp2_with fail
      go_at_call 52
      refine (shover_any HE.out.sa HE.out.tod).mono ?_
      rintro e w9 ⟨rfl, rfl⟩
      go_wp2_with fail
      go_ret
      refine ⟨rfl, zs1, (.slice (some ⟨db, doff + 2, none⟩) D.length (dcap - 1)), A.tv, HZ1.out.1, fun j hj => (HZ1.out.2 j hj).imp id (fun e => by have := hX.out; omega), ?_⟩
      have e : mkA { A with dv := (.slice (some ⟨db, doff + 2, none⟩) D.length (dcap - 1)), tv := A.tv, ver := A.ver + 1 } D ((storeS M A.who S.wd (A.ver + 1)).lg.length : Int) = { A with dv := (.slice (some ⟨db, doff + 2, none⟩) D.length (dcap - 1)), tv := A.tv, ver := A.ver + 1 } := by unfold mkA; exact if_neg (fun h => hm h.1)
      rw [e]
      exact HE.out.under HS.out.1 HS.out.2

set_option maxRecDepth 1000000 in
set_option maxHeartbeats 16000000 in
theorem shstep_storep (h : Sg n w0 wr fs zs a s S A P T ((1, (i : Int) + 1) :: D) M w) (hsp : M.sp A.who = false) (hG : Mm.Good a0 b0 c0 k M) (ha : a0 ≤ 65536) (hb : b0 ≤ 65536) (hc : c0 ≤ 65536) (hk : k ≤ 100000) (hwho : I64 A.who) (hi : i ≤ 100) (hwd : 0 ≤ S.wd ∧ S.wd ≤ 100000) (ht : T[i]? = some t) :
    Calls Try.prog 93 #[.pointer (some ⟨a, 0, none⟩)] w (ShQ n w0 wr fs zs a s S A P T D (storeS M A.who (S.wd + ((i : Int) + 1)) t) A.ver w.heap.size) := by
  have HR := Lib.hid h
  have HOV := Lib.hid (shover_any h.sa h.tod)
  have hdf : decide (((1, (i : Int) + 1) :: D : List (Int × Int)) = []) = false := by simp
  rw [hdf] at HOV
  obtain ⟨c0, c1, c2, c3, c4, c5, c6, c7, c8, cf⟩ := h.sa.cells
  obtain ⟨s0, s1, s2, s3, s4⟩ := h.si.cells
  rw [h.as'] at c0
  obtain ⟨dao, dcap, hdv, hdc0, hdc⟩ := h.tod.form
  have htod := h.tod
  rw [hdv] at c5 htod
  obtain ⟨db, doff, rfl, hdb, hx⟩ := htod.at (i := 0) (x := (1, (i : Int) + 1)) rfl
  have e0 := hx 0 _ (by decide) rfl
  have e1 := hx 1 _ (by decide) rfl
  simp only [Nat.zero_mul, Nat.add_zero] at e0 e1
  have hdl : (0 : Int) < ((D.length + 1 : Nat) : Int) := by omega
  have hdc1 : D.length + 1 ≤ dcap := by simpa using hdc0
  have hal := h.sa.lt
  have hsl := h.si.lt
  have HTOD := Lib.hid (show Rr accK w (.slice (some ⟨db, doff, none⟩) (D.length + 1) dcap) ((1, (i : Int) + 1) :: D) from htod)
  have HDV := Lib.hid (show A.dv = .slice (some ⟨db, doff, none⟩) (D.length + 1) dcap from hdv)
  have HG := Lib.hid hG
  have HSP := Lib.hid hsp
  have HB := Lib.hid (And.intro ha (And.intro hb (And.intro hc hk)))
  have HWHO := Lib.hid hwho
  have HWI : Hid (I64 (S.wd + ((i : Int) + 1))) := Lib.hid ⟨by omega, by omega⟩
  have HT := Lib.hid (And.intro ht hi)
  have hw1 : IntKind.i64.wrap (S.wd + ((i : Int) + 1)) = (S.wd + ((i : Int) + 1)) := by rw [IntKind.wrap_i64]; omega
  clear ht hwd hi

  clear hx htod hdf h hdv hG hsp ha hb hc hk hwho hdc0
  go_enter Try.func93, Try.ntmps93
  go_wp2_with fail
  go_at_call 52
  refine HOV.out.mono ?_
  rintro e w1 ⟨rfl, rfl⟩
  go_upto_region 3 with fail
  go_region
  go_upto_region 4 with fail
  have hn := heap_alloc_new w (.cells #[Value.int .i64 (1), .int .i64 ((i : Int) + 1)] 164)
  have hxl : w.heap.size < (w.alloc (.cells #[Value.int .i64 (1), .int .i64 ((i : Int) + 1)] 164)).drew.heap.size := (Array.getElem?_eq_some_iff.1 hn).1
  have x0 : (w.alloc (.cells #[Value.int .i64 (1), .int .i64 ((i : Int) + 1)] 164)).drew.cell? ⟨w.heap.size, 0, none⟩ = some (.int .i64 (1)) := cell_of_row _ _ _ _ _ _ hn
  have x1 : (w.alloc (.cells #[Value.int .i64 (1), .int .i64 ((i : Int) + 1)] 164)).drew.cell? ⟨w.heap.size, 1, none⟩ = some (.int .i64 ((i : Int) + 1)) := cell_of_row _ _ _ _ _ _ hn
  have hbx : Below w.heap.size w (w.alloc (.cells #[Value.int .i64 (1), .int .i64 ((i : Int) + 1)] 164)).drew := ((Below.refl _ _).alloc (Nat.le_refl _) _).drew
  obtain ⟨zs1, y1, y2, hov⟩ := HR.out.over hbx (Nat.le_refl w.heap.size) hxl
  have HO := Lib.hid hov
  have HZ1 := Lib.hid (And.intro y1 y2)
  have HTW := Lib.hid (HTOD.out.below hbx)
  have HS := Lib.hid (And.intro (fun j (hj : j ∈ fs) => (hbx.block j (zs_lt HR.out.mz j (HR.out.fz j hj))).trans (HR.out.fr j hj)) (Nat.le_trans HR.out.sz hbx.size))
  have HX := Lib.hid (And.intro x0 x1)
  have HSZ := Lib.hid hbx.size
  generalize hX : w.heap.size = X at *
  replace hX := Lib.hid hX
  generalize (w.alloc (.cells #[Value.int .i64 (1), .int .i64 ((i : Int) + 1)] 164)).drew = W at *
  clear hn hxl hbx hov y1 y2 c0 c1 c2 c3 c4 c5 c6 c7 c8 cf s0 s1 s2 s3 s4 hal hsl hdb e0 e1 HOV HTOD
  obtain ⟨c0, c1, c2, c3, c4, c5, c6, c7, c8, cf⟩ := HO.out.sa.cells
  obtain ⟨s0, s1, s2, s3, s4⟩ := HO.out.si.cells
  rw [HO.out.as'] at c0
  rw [HDV.out] at c5
  go_wp2_with fail
  go_at_call 66
  refine (mz_asleep HO.out.mz A.who HWHO.out).mono ?_
  rw [HSP.out]
  rintro e w1 ⟨rfl, rfl⟩
  go_upto_region 6 with fail

  have hcc : (dcap = 1 ∧ D = []) ∨ dcap ≠ 1 := by
    by_cases e : dcap = 1
    · exact .inl ⟨e, List.length_eq_zero_iff.1 (by omega)⟩
    · exact .inr e
  rcases hcc with ⟨rfl, rfl⟩ | hcap
  · skip
    have HD := Lib.hid (HO.out.setD (v := (.slice (some ⟨db, doff, none⟩) 0 0)) rr_nil0 (by rw [HDV.out]; rfl))

    go_upto_region 7 with fail
    clear c0 c1 c2 c3 c4 c5 c6 c7 c8 cf s0 s1 s2 s3 s4 x0 x1
    generalize W.setCell ⟨a, 5, none⟩ (.slice (some ⟨db, doff, none⟩) 0 0) = W2 at *
    obtain ⟨c0, c1, c2, c3, c4, c5, c6, c7, c8, cf⟩ := HD.out.sa.cells
    obtain ⟨s0, s1, s2, s3, s4⟩ := HD.out.si.cells
    rw [HD.out.as'] at c0
    obtain ⟨x0, x1⟩ := HD.out.acc HX.out.1 HX.out.2
    go_upto_region 11 with fail
    replace HD := Lib.hid (HD.out.below (Below.refl _ _).drew)
    clear c0 c1 c2 c3 c4 c5 c6 c7 c8 cf s0 s1 s2 s3 s4 x0 x1
    obtain ⟨c0, c1, c2, c3, c4, c5, c6, c7, c8, cf⟩ := HD.out.sa.cells
    obtain ⟨s0, s1, s2, s3, s4⟩ := HD.out.si.cells
    rw [HD.out.as'] at c0
    obtain ⟨x0, x1⟩ := HD.out.acc HX.out.1 HX.out.2
    refine wp_region_held_drew (S := (fun w' => w'.cell? ⟨X, 1, none⟩ = some (.int .i64 ((i : Int) + 1)) ∧ w'.cell? ⟨a, 1, none⟩ = some (.int .i64 A.who) ∧ w'.cell? ⟨a, 0, none⟩ = some (.pointer (some ⟨s, 0, none⟩)) ∧ w'.cell? ⟨s, 1, none⟩ = some (.int .i64 S.wd))) (by kernel_rfl) ?_ (fun hHeld => ?_)
    · ((try dsimp only); first | (obtain ⟨k0, k1, _⟩ := HD.out.sa.cells; obtain ⟨_, t1, _⟩ := HD.out.si.cells; obtain ⟨_, y1⟩ := HD.out.acc HX.out.1 HX.out.2; rw [HD.out.as'] at k0; exact ⟨y1, k1, k0, t1⟩))
    refine wpAnyH_take (i := 0) (v := ?_) rfl (by kernel_rfl) (by kernel_rfl) (by kernel_rfl) (fun _ _ _ h => h) (Or.inl ⟨by rfl, ?_⟩) (by assumption) ?_
    rotate_left 1
    · (intro w hSw; (try dsimp only at hSw); first | (go_simp; done) | (go_simp; with_reducible rfl))
    try simp only [Act.put, List.setIfInBounds_toArray, List.set_cons_zero, List.set_cons_succ, List.getElem_toArray, List.getElem_cons_zero]
    refine wpAnyH_take (i := 1) (v := ?_) rfl (by kernel_rfl) (by kernel_rfl) (by kernel_rfl) (fun _ _ _ h => h) (Or.inl ⟨by rfl, ?_⟩) (by assumption) ?_
    rotate_left 1
    · (intro w hSw; (try dsimp only at hSw); first | (go_simp; done) | (go_simp; with_reducible rfl))
    try simp only [Act.put, List.setIfInBounds_toArray, List.set_cons_zero, List.set_cons_succ, List.getElem_toArray, List.getElem_cons_zero, List.getElem_cons_succ]
    refine wpAnyH_take (i := 2) (v := ?_) rfl (by kernel_rfl) (by kernel_rfl) (by kernel_rfl) (fun _ _ _ h => h) (Or.inl ⟨by rfl, ?_⟩) (by assumption) ?_
    rotate_left 1
    · (intro w hSw; (try dsimp only at hSw); first | (go_simp; done) | (go_simp; with_reducible rfl))
    try simp only [Act.put, List.setIfInBounds_toArray, List.set_cons_zero, List.set_cons_succ, List.getElem_toArray, List.getElem_cons_zero, List.getElem_cons_succ]
    refine wpAnyH_take (i := 3) (v := ?_) rfl (by kernel_rfl) (by kernel_rfl) (by kernel_rfl) (fun _ _ _ h => h) (Or.inl ⟨by rfl, ?_⟩) (by assumption) ?_
    rotate_left 1
    · (intro w hSw; (try dsimp only at hSw); first | (go_simp; done) | (go_simp; with_reducible rfl))
    try simp only [Act.put, List.setIfInBounds_toArray, List.set_cons_zero, List.set_cons_succ, List.getElem_toArray, List.getElem_cons_zero, List.getElem_cons_succ]
    refine wpAnyH_take (i := 4) (v := ?_) rfl (by kernel_rfl) (by kernel_rfl) (by kernel_rfl) (fun _ _ _ h => h) (Or.inl ⟨by rfl, ?_⟩) (by assumption) ?_
    rotate_left 1
    · (intro w hSw; (try dsimp only at hSw); first | (go_simp; done) | (go_simp; with_reducible rfl))
    try simp only [Act.put, List.setIfInBounds_toArray, List.set_cons_zero, List.set_cons_succ, List.getElem_toArray, List.getElem_cons_zero, List.getElem_cons_succ]
    refine wpAnyH_take (i := 5) (v := ?_) rfl (by kernel_rfl) (by kernel_rfl) (by kernel_rfl) (fun _ _ _ h => h) (Or.inl ⟨by rfl, ?_⟩) (by assumption) ?_
    rotate_left 1
    · (intro w hSw; (try dsimp only at hSw); first | (go_simp; done) | (go_simp; with_reducible rfl))
    try simp only [Act.put, List.setIfInBounds_toArray, List.set_cons_zero, List.set_cons_succ, List.getElem_toArray, List.getElem_cons_zero, List.getElem_cons_succ]
    refine wpAnyH_take (i := 6) (v := ?_) rfl (by kernel_rfl) (by kernel_rfl) (by kernel_rfl) (fun _ _ _ h => h) (Or.inl ⟨by rfl, ?_⟩) (by assumption) ?_
    rotate_left 1
    · (intro w hSw; (try dsimp only at hSw); first | (go_simp; done) | (go_simp; with_reducible rfl))
    try simp only [Act.put, List.setIfInBounds_toArray, List.set_cons_zero, List.set_cons_succ, List.getElem_toArray, List.getElem_cons_zero, List.getElem_cons_succ]
    refine wpAnyH_take (i := 7) (v := ?_) rfl (by kernel_rfl) (by kernel_rfl) (by kernel_rfl) (fun _ _ _ h => h) (Or.inl ⟨by rfl, ?_⟩) (by assumption) ?_
    rotate_left 1
    · (intro w hSw; (try dsimp only at hSw); first | (go_simp; done) | (go_simp; with_reducible rfl))
    try simp only [Act.put, List.setIfInBounds_toArray, List.set_cons_zero, List.set_cons_succ, List.getElem_toArray, List.getElem_cons_zero, List.getElem_cons_succ]
    refine wpAnyH_take (i := 8) (v := ?_) rfl (by kernel_rfl) (by kernel_rfl) (by kernel_rfl) (fun _ _ _ h => h) (Or.inl ⟨by rfl, ?_⟩) (by assumption) ?_
    rotate_left 1
    · (intro w hSw; (try dsimp only at hSw); first | (go_simp; done) | (go_simp; with_reducible rfl))
    try simp only [Act.put, List.setIfInBounds_toArray, List.set_cons_zero, List.set_cons_succ, List.getElem_toArray, List.getElem_cons_zero, List.getElem_cons_succ]
    refine wpAnyH_take (i := 9) (v := ?_) rfl (by kernel_rfl) (by kernel_rfl) (by kernel_rfl) (fun _ _ _ h => h) (Or.inl ⟨by rfl, ?_⟩) (by assumption) ?_
    rotate_left 1
    · (intro w hSw; (try dsimp only at hSw); first | (go_simp; done) | (go_simp; with_reducible rfl))
    try simp only [Act.put, List.setIfInBounds_toArray, List.set_cons_zero, List.set_cons_succ, List.getElem_toArray, List.getElem_cons_zero, List.getElem_cons_succ]
    refine wpAnyH_take (i := 10) (v := ?_) rfl (by kernel_rfl) (by kernel_rfl) (by kernel_rfl) (fun _ _ _ h => h) (Or.inl ⟨by rfl, ?_⟩) (by assumption) ?_
    rotate_left 1
    · (intro w hSw; (try dsimp only at hSw); first | (go_simp; done) | (go_simp; with_reducible rfl))
    try simp only [Act.put, List.setIfInBounds_toArray, List.set_cons_zero, List.set_cons_succ, List.getElem_toArray, List.getElem_cons_zero, List.getElem_cons_succ]
    refine wpAnyH_take (i := 11) (v := ?_) rfl (by kernel_rfl) (by kernel_rfl) (by kernel_rfl) (fun _ _ _ h => h) (Or.inl ⟨by rfl, ?_⟩) (by assumption) ?_
    rotate_left 1
    · (intro w hSw; (try dsimp only at hSw); first | (go_simp; done) | (go_simp; with_reducible rfl))
    try simp only [Act.put, List.setIfInBounds_toArray, List.set_cons_zero, List.set_cons_succ, List.getElem_toArray, List.getElem_cons_zero, List.getElem_cons_succ]
    refine wpAnyH_take (i := 12) (v := ?_) rfl (by kernel_rfl) (by kernel_rfl) (by kernel_rfl) (fun _ _ _ h => h) (Or.inl ⟨by rfl, ?_⟩) (by assumption) ?_
    rotate_left 1
    · (intro w hSw; (try dsimp only at hSw); first | (go_simp; done) | (go_simp; with_reducible rfl))
    try simp only [Act.put, List.setIfInBounds_toArray, List.set_cons_zero, List.set_cons_succ, List.getElem_toArray, List.getElem_cons_zero, List.getElem_cons_succ]
    refine wpAnyH_take (i := 13) (v := ?_) rfl (by kernel_rfl) (by kernel_rfl) (by kernel_rfl) (fun _ _ _ h => h) (Or.inl ⟨by rfl, ?_⟩) (by assumption) ?_
    rotate_left 1
    · (intro w hSw; (try dsimp only at hSw); first | (go_simp; done) | (go_simp; with_reducible rfl))
    try simp only [Act.put, List.setIfInBounds_toArray, List.set_cons_zero, List.set_cons_succ, List.getElem_toArray, List.getElem_cons_zero, List.getElem_cons_succ]
    refine wpAnyH_take (i := 14) (v := ?_) rfl (by kernel_rfl) (by kernel_rfl) (by kernel_rfl) (fun _ _ _ h => h) (Or.inl ⟨by rfl, ?_⟩) (by assumption) ?_
    rotate_left 1
    · (intro w hSw; (try dsimp only at hSw); first | (go_simp; done) | (go_simp; with_reducible rfl))
    try simp only [Act.put, List.setIfInBounds_toArray, List.set_cons_zero, List.set_cons_succ, List.getElem_toArray, List.getElem_cons_zero, List.getElem_cons_succ]
    refine wpAnyH_take (i := 15) (v := ?_) rfl (by kernel_rfl) (by kernel_rfl) (by kernel_rfl) (fun _ _ _ h => h) (Or.inl ⟨by rfl, ?_⟩) (by assumption) ?_
    rotate_left 1
    · (intro w hSw; (try dsimp only at hSw); first | (go_simp; done) | (go_simp; with_reducible rfl))
    try simp only [Act.put, List.setIfInBounds_toArray, List.set_cons_zero, List.set_cons_succ, List.getElem_toArray, List.getElem_cons_zero, List.getElem_cons_succ]
    refine wpAnyH_take (i := 16) (v := ?_) rfl (by kernel_rfl) (by kernel_rfl) (by kernel_rfl) (fun _ _ _ h => h) (Or.inl ⟨by rfl, ?_⟩) (by assumption) ?_
    rotate_left 1
    · (intro w hSw; (try dsimp only at hSw); first | (go_simp; done) | (go_simp; with_reducible rfl))
    try simp only [Act.put, List.setIfInBounds_toArray, List.set_cons_zero, List.set_cons_succ, List.getElem_toArray, List.getElem_cons_zero, List.getElem_cons_succ]
    refine wpAnyH_take (i := 17) (v := ?_) rfl (by kernel_rfl) (by kernel_rfl) (by kernel_rfl) (fun _ _ _ h => h) (Or.inl ⟨by rfl, ?_⟩) (by assumption) ?_
    rotate_left 1
    · (intro w hSw; (try dsimp only at hSw); first | (go_simp; done) | (go_simp; with_reducible rfl))
    try simp only [Act.put, List.setIfInBounds_toArray, List.set_cons_zero, List.set_cons_succ, List.getElem_toArray, List.getElem_cons_zero, List.getElem_cons_succ]
    refine wpAnyH_ready (rs := [18]) (by kernel_rfl) (by simp) ?_
    refine AllReadyH.cons rfl (fun K hK => ?_) AllReadyH.nil
    go_simp
    go_at_call 120
    refine (shnext_p HD.out HT.out.1 HT.out.2).mono ?_
    rintro e W3 ⟨rfl, rfl⟩
    try go_wp2_with fail
    refine hK.out _ _ ?_ (fun hHeld => ?_)
    · ((try dsimp only); first | (obtain ⟨k0, k1, _⟩ := HD.out.sa.cells; obtain ⟨_, t1, _⟩ := HD.out.si.cells; obtain ⟨_, y1⟩ := HD.out.acc HX.out.1 HX.out.2; rw [HD.out.as'] at k0; exact ⟨y1, k1, k0, t1⟩))
    clear hK K
    try simp only [Act.put, List.setIfInBounds_toArray, List.set_cons_zero, List.set_cons_succ, List.getElem_toArray, List.getElem_cons_zero, List.getElem_cons_succ]
    refine wpAnyH_ready (rs := [19]) (by kernel_rfl) (by simp) ?_
    refine AllReadyH.cons rfl (fun K hK => ?_) AllReadyH.nil
    go_simp
    go_at_call 113
    refine (mz_store HD.out.mz HG.out HB.out.1 HB.out.2.1 HB.out.2.2.1 HB.out.2.2.2 A.who (S.wd + ((i : Int) + 1)) t HWHO.out HWI.out).mono ?_
    rintro e W4 ⟨rfl, hm, hkb⟩
    have HF := Lib.hid (HD.out.call hm hkb)
    clear hm hkb
    try go_wp2_with fail
    refine hK.out _ _ ?_ (fun hHeld => ?_)
    · ((try dsimp only); first | (obtain ⟨k0, k1, _⟩ := HF.out.sa.cells; obtain ⟨_, t1, _⟩ := HF.out.si.cells; obtain ⟨_, y1⟩ := HF.out.acc HX.out.1 HX.out.2; rw [HF.out.as'] at k0; exact ⟨y1, k1, k0, t1⟩))
    clear hK K
    try simp only [Act.put, List.setIfInBounds_toArray, List.set_cons_zero, List.set_cons_succ, List.getElem_toArray, List.getElem_cons_zero, List.getElem_cons_succ]
    refine wpAnyH_done (by kernel_rfl) ?_ _
    clear c0 c1 c2 c3 c4 c5 c6 c7 c8 cf s0 s1 s2 s3 s4 x0 x1


    obtain ⟨f0, f1, f2, f3, f4, f5, f6, f7, f8, ff⟩ := HF.out.sa.cells
    have f8' : W4.cell? ⟨a, 8, none⟩ = some (.int .i64 A.mk') := f8
    clear f8
    by_cases hm : A.mk' = 0
    · rw [hm] at f8'
      rcases Bool.eq_false_or_eq_true (teB []) with hte | hte
      · go_wp2_with fail
        go_at_call 121
        refine (shte_any HF.out.sa HF.out.tod).mono ?_
        rw [hte]
        rintro e w5 ⟨rfl, rfl⟩
        go_wp2_with fail
        go_at_call 14
        refine (mz_time HF.out.mz).mono ?_
        rintro e w5 ⟨rfl, rfl⟩
        have HE := Lib.hid (HF.out.setA 8 (.int .i64 ((storeS M A.who (S.wd + ((i : Int) + 1)) t).lg.length : Int)) (HF.out.sa.set8 ((storeS M A.who (S.wd + ((i : Int) + 1)) t).lg.length : Int)) rfl rfl rfl rfl)
        go_wp2_with fail
        go_at_call 52
        refine (shover_any HE.out.sa HE.out.tod).mono ?_
        rintro e w9 ⟨rfl, rfl⟩
        go_wp2_with fail
        go_ret
        refine ⟨rfl, zs1, (.slice (some ⟨db, doff, none⟩) 0 0), A.tv, HZ1.out.1, fun j hj => (HZ1.out.2 j hj).imp id (fun e => by have := hX.out; omega), ?_⟩
        have e : mkA { A with dv := (.slice (some ⟨db, doff, none⟩) 0 0), tv := A.tv, ver := A.ver } [] ((storeS M A.who (S.wd + ((i : Int) + 1)) t).lg.length : Int) = { { A with dv := (.slice (some ⟨db, doff, none⟩) 0 0), tv := A.tv, ver := A.ver } with mk' := ((storeS M A.who (S.wd + ((i : Int) + 1)) t).lg.length : Int) } := by unfold mkA; rw [if_pos ⟨hm, hte⟩]
        rw [e]
        exact HE.out.under HS.out.1 HS.out.2
      · have HE := HF
        go_wp2_with fail
        go_at_call 121
        refine (shte_any HF.out.sa HF.out.tod).mono ?_
        rw [hte]
        rintro e w5 ⟨rfl, rfl⟩
        go_wp2_with fail
        go_at_call 52
        refine (shover_any HE.out.sa HE.out.tod).mono ?_
        rintro e w9 ⟨rfl, rfl⟩
        go_wp2_with fail
        go_ret
        refine ⟨rfl, zs1, (.slice (some ⟨db, doff, none⟩) 0 0), A.tv, HZ1.out.1, fun j hj => (HZ1.out.2 j hj).imp id (fun e => by have := hX.out; omega), ?_⟩
        have e : mkA { A with dv := (.slice (some ⟨db, doff, none⟩) 0 0), tv := A.tv, ver := A.ver } [] ((storeS M A.who (S.wd + ((i : Int) + 1)) t).lg.length : Int) = { A with dv := (.slice (some ⟨db, doff, none⟩) 0 0), tv := A.tv, ver := A.ver } := by unfold mkA; rw [if_neg (by rw [hte]; simp)]
        rw [e]
        exact HE.out.under HS.out.1 HS.out.2
    · have HE := HF
      have hm2 : (A.mk' == 0) = false := by rw [beq_eq_false_iff_ne]; exact hm
      go_wp2_with fail
      go_at_call 52
      refine (shover_any HE.out.sa HE.out.tod).mono ?_
      rintro e w9 ⟨rfl, rfl⟩
      go_wp2_with fail
      go_ret
      refine ⟨rfl, zs1, (.slice (some ⟨db, doff, none⟩) 0 0), A.tv, HZ1.out.1, fun j hj => (HZ1.out.2 j hj).imp id (fun e => by have := hX.out; omega), ?_⟩
      have e : mkA { A with dv := (.slice (some ⟨db, doff, none⟩) 0 0), tv := A.tv, ver := A.ver } [] ((storeS M A.who (S.wd + ((i : Int) + 1)) t).lg.length : Int) = { A with dv := (.slice (some ⟨db, doff, none⟩) 0 0), tv := A.tv, ver := A.ver } := by unfold mkA; exact if_neg (fun h => hm h.1)
      rw [e]
      exact HE.out.under HS.out.1 HS.out.2
  · skip
    have HD := Lib.hid (HO.out.setD (v := (.slice (some ⟨db, doff + 2, none⟩) D.length (dcap - 1))) (rr_tail (HTW.out)) (by rw [HDV.out]; rfl))
    have hc1 : 0 < dcap - 1 := by omega
    go_upto_region 7 with fail
    clear c0 c1 c2 c3 c4 c5 c6 c7 c8 cf s0 s1 s2 s3 s4 x0 x1
    generalize W.setCell ⟨a, 5, none⟩ (.slice (some ⟨db, doff + 2, none⟩) D.length (dcap - 1)) = W2 at *
    obtain ⟨c0, c1, c2, c3, c4, c5, c6, c7, c8, cf⟩ := HD.out.sa.cells
    obtain ⟨s0, s1, s2, s3, s4⟩ := HD.out.si.cells
    rw [HD.out.as'] at c0
    obtain ⟨x0, x1⟩ := HD.out.acc HX.out.1 HX.out.2
    go_upto_region 11 with fail
    replace HD := Lib.hid (HD.out.below (Below.refl _ _).drew)
    clear c0 c1 c2 c3 c4 c5 c6 c7 c8 cf s0 s1 s2 s3 s4 x0 x1
    obtain ⟨c0, c1, c2, c3, c4, c5, c6, c7, c8, cf⟩ := HD.out.sa.cells
    obtain ⟨s0, s1, s2, s3, s4⟩ := HD.out.si.cells
    rw [HD.out.as'] at c0
    obtain ⟨x0, x1⟩ := HD.out.acc HX.out.1 HX.out.2
    refine wp_region_held_drew (S := (fun w' => w'.cell? ⟨X, 1, none⟩ = some (.int .i64 ((i : Int) + 1)) ∧ w'.cell? ⟨a, 1, none⟩ = some (.int .i64 A.who) ∧ w'.cell? ⟨a, 0, none⟩ = some (.pointer (some ⟨s, 0, none⟩)) ∧ w'.cell? ⟨s, 1, none⟩ = some (.int .i64 S.wd))) (by kernel_rfl) ?_ (fun hHeld => ?_)
    · ((try dsimp only); first | (obtain ⟨k0, k1, _⟩ := HD.out.sa.cells; obtain ⟨_, t1, _⟩ := HD.out.si.cells; obtain ⟨_, y1⟩ := HD.out.acc HX.out.1 HX.out.2; rw [HD.out.as'] at k0; exact ⟨y1, k1, k0, t1⟩))
    refine wpAnyH_take (i := 0) (v := ?_) rfl (by kernel_rfl) (by kernel_rfl) (by kernel_rfl) (fun _ _ _ h => h) (Or.inl ⟨by rfl, ?_⟩) (by assumption) ?_
    rotate_left 1
    · (intro w hSw; (try dsimp only at hSw); first | (go_simp; done) | (go_simp; with_reducible rfl))
    try simp only [Act.put, List.setIfInBounds_toArray, List.set_cons_zero, List.set_cons_succ, List.getElem_toArray, List.getElem_cons_zero]
    refine wpAnyH_take (i := 1) (v := ?_) rfl (by kernel_rfl) (by kernel_rfl) (by kernel_rfl) (fun _ _ _ h => h) (Or.inl ⟨by rfl, ?_⟩) (by assumption) ?_
    rotate_left 1
    · (intro w hSw; (try dsimp only at hSw); first | (go_simp; done) | (go_simp; with_reducible rfl))
    try simp only [Act.put, List.setIfInBounds_toArray, List.set_cons_zero, List.set_cons_succ, List.getElem_toArray, List.getElem_cons_zero, List.getElem_cons_succ]
    refine wpAnyH_take (i := 2) (v := ?_) rfl (by kernel_rfl) (by kernel_rfl) (by kernel_rfl) (fun _ _ _ h => h) (Or.inl ⟨by rfl, ?_⟩) (by assumption) ?_
    rotate_left 1
    · (intro w hSw; (try dsimp only at hSw); first | (go_simp; done) | (go_simp; with_reducible rfl))
    try simp only [Act.put, List.setIfInBounds_toArray, List.set_cons_zero, List.set_cons_succ, List.getElem_toArray, List.getElem_cons_zero, List.getElem_cons_succ]
    refine wpAnyH_take (i := 3) (v := ?_) rfl (by kernel_rfl) (by kernel_rfl) (by kernel_rfl) (fun _ _ _ h => h) (Or.inl ⟨by rfl, ?_⟩) (by assumption) ?_
    rotate_left 1
    · (intro w hSw; (try dsimp only at hSw); first | (go_simp; done) | (go_simp; with_reducible rfl))
    try simp only [Act.put, List.setIfInBounds_toArray, List.set_cons_zero, List.set_cons_succ, List.getElem_toArray, List.getElem_cons_zero, List.getElem_cons_succ]
    refine wpAnyH_take (i := 4) (v := ?_) rfl (by kernel_rfl) (by kernel_rfl) (by kernel_rfl) (fun _ _ _ h => h) (Or.inl ⟨by rfl, ?_⟩) (by assumption) ?_
    rotate_left 1
    · (intro w hSw; (try dsimp only at hSw); first | (go_simp; done) | (go_simp; with_reducible rfl))
    try simp only [Act.put, List.setIfInBounds_toArray, List.set_cons_zero, List.set_cons_succ, List.getElem_toArray, List.getElem_cons_zero, List.getElem_cons_succ]
    refine wpAnyH_take (i := 5) (v := ?_) rfl (by kernel_rfl) (by kernel_rfl) (by kernel_rfl) (fun _ _ _ h => h) (Or.inl ⟨by rfl, ?_⟩) (by assumption) ?_
    rotate_left 1
    · (intro w hSw; (try dsimp only at hSw); first | (go_simp; done) | (go_simp; with_reducible rfl))
    try simp only [Act.put, List.setIfInBounds_toArray, List.set_cons_zero, List.set_cons_succ, List.getElem_toArray, List.getElem_cons_zero, List.getElem_cons_succ]
    refine wpAnyH_take (i := 6) (v := ?_) rfl (by kernel_rfl) (by kernel_rfl) (by kernel_rfl) (fun _ _ _ h => h) (Or.inl ⟨by rfl, ?_⟩) (by assumption) ?_
    rotate_left 1
    · (intro w hSw; (try dsimp only at hSw); first | (go_simp; done) | (go_simp; with_reducible rfl))
    try simp only [Act.put, List.setIfInBounds_toArray, List.set_cons_zero, List.set_cons_succ, List.getElem_toArray, List.getElem_cons_zero, List.getElem_cons_succ]
    refine wpAnyH_take (i := 7) (v := ?_) rfl (by kernel_rfl) (by kernel_rfl) (by kernel_rfl) (fun _ _ _ h => h) (Or.inl ⟨by rfl, ?_⟩) (by assumption) ?_
    rotate_left 1
    · (intro w hSw; (try dsimp only at hSw); first | (go_simp; done) | (go_simp; with_reducible rfl))
    try simp only [Act.put, List.setIfInBounds_toArray, List.set_cons_zero, List.set_cons_succ, List.getElem_toArray, List.getElem_cons_zero, List.getElem_cons_succ]
    refine wpAnyH_take (i := 8) (v := ?_) rfl (by kernel_rfl) (by kernel_rfl) (by kernel_rfl) (fun _ _ _ h => h) (Or.inl ⟨by rfl, ?_⟩) (by assumption) ?_
    rotate_left 1
    · (intro w hSw; (try dsimp only at hSw); first | (go_simp; done) | (go_simp; with_reducible rfl))
    try simp only [Act.put, List.setIfInBounds_toArray, List.set_cons_zero, List.set_cons_succ, List.getElem_toArray, List.getElem_cons_zero, List.getElem_cons_succ]
    refine wpAnyH_take (i := 9) (v := ?_) rfl (by kernel_rfl) (by kernel_rfl) (by kernel_rfl) (fun _ _ _ h => h) (Or.inl ⟨by rfl, ?_⟩) (by assumption) ?_
    rotate_left 1
    · (intro w hSw; (try dsimp only at hSw); first | (go_simp; done) | (go_simp; with_reducible rfl))
    try simp only [Act.put, List.setIfInBounds_toArray, List.set_cons_zero, List.set_cons_succ, List.getElem_toArray, List.getElem_cons_zero, List.getElem_cons_succ]
    refine wpAnyH_take (i := 10) (v := ?_) rfl (by kernel_rfl) (by kernel_rfl) (by kernel_rfl) (fun _ _ _ h => h) (Or.inl ⟨by rfl, ?_⟩) (by assumption) ?_
    rotate_left 1
    · (intro w hSw; (try dsimp only at hSw); first | (go_simp; done) | (go_simp; with_reducible rfl))
    try simp only [Act.put, List.setIfInBounds_toArray, List.set_cons_zero, List.set_cons_succ, List.getElem_toArray, List.getElem_cons_zero, List.getElem_cons_succ]
    refine wpAnyH_take (i := 11) (v := ?_) rfl (by kernel_rfl) (by kernel_rfl) (by kernel_rfl) (fun _ _ _ h => h) (Or.inl ⟨by rfl, ?_⟩) (by assumption) ?_
    rotate_left 1
    · (intro w hSw; (try dsimp only at hSw); first | (go_simp; done) | (go_simp; with_reducible rfl))
    try simp only [Act.put, List.setIfInBounds_toArray, List.set_cons_zero, List.set_cons_succ, List.getElem_toArray, List.getElem_cons_zero, List.getElem_cons_succ]
    refine wpAnyH_take (i := 12) (v := ?_) rfl (by kernel_rfl) (by kernel_rfl) (by kernel_rfl) (fun _ _ _ h => h) (Or.inl ⟨by rfl, ?_⟩) (by assumption) ?_
    rotate_left 1
    · (intro w hSw; (try dsimp only at hSw); first | (go_simp; done) | (go_simp; with_reducible rfl))
    try simp only [Act.put, List.setIfInBounds_toArray, List.set_cons_zero, List.set_cons_succ, List.getElem_toArray, List.getElem_cons_zero, List.getElem_cons_succ]
    refine wpAnyH_take (i := 13) (v := ?_) rfl (by kernel_rfl) (by kernel_rfl) (by kernel_rfl) (fun _ _ _ h => h) (Or.inl ⟨by rfl, ?_⟩) (by assumption) ?_
    rotate_left 1
    · (intro w hSw; (try dsimp only at hSw); first | (go_simp; done) | (go_simp; with_reducible rfl))
    try simp only [Act.put, List.setIfInBounds_toArray, List.set_cons_zero, List.set_cons_succ, List.getElem_toArray, List.getElem_cons_zero, List.getElem_cons_succ]
    refine wpAnyH_take (i := 14) (v := ?_) rfl (by kernel_rfl) (by kernel_rfl) (by kernel_rfl) (fun _ _ _ h => h) (Or.inl ⟨by rfl, ?_⟩) (by assumption) ?_
    rotate_left 1
    · (intro w hSw; (try dsimp only at hSw); first | (go_simp; done) | (go_simp; with_reducible rfl))
    try simp only [Act.put, List.setIfInBounds_toArray, List.set_cons_zero, List.set_cons_succ, List.getElem_toArray, List.getElem_cons_zero, List.getElem_cons_succ]
    refine wpAnyH_take (i := 15) (v := ?_) rfl (by kernel_rfl) (by kernel_rfl) (by kernel_rfl) (fun _ _ _ h => h) (Or.inl ⟨by rfl, ?_⟩) (by assumption) ?_
    rotate_left 1
    · (intro w hSw; (try dsimp only at hSw); first | (go_simp; done) | (go_simp; with_reducible rfl))
    try simp only [Act.put, List.setIfInBounds_toArray, List.set_cons_zero, List.set_cons_succ, List.getElem_toArray, List.getElem_cons_zero, List.getElem_cons_succ]
    refine wpAnyH_take (i := 16) (v := ?_) rfl (by kernel_rfl) (by kernel_rfl) (by kernel_rfl) (fun _ _ _ h => h) (Or.inl ⟨by rfl, ?_⟩) (by assumption) ?_
    rotate_left 1
    · (intro w hSw; (try dsimp only at hSw); first | (go_simp; done) | (go_simp; with_reducible rfl))
    try simp only [Act.put, List.setIfInBounds_toArray, List.set_cons_zero, List.set_cons_succ, List.getElem_toArray, List.getElem_cons_zero, List.getElem_cons_succ]
    refine wpAnyH_take (i := 17) (v := ?_) rfl (by kernel_rfl) (by kernel_rfl) (by kernel_rfl) (fun _ _ _ h => h) (Or.inl ⟨by rfl, ?_⟩) (by assumption) ?_
    rotate_left 1
    · (intro w hSw; (try dsimp only at hSw); first | (go_simp; done) | (go_simp; with_reducible rfl))
    try simp only [Act.put, List.setIfInBounds_toArray, List.set_cons_zero, List.set_cons_succ, List.getElem_toArray, List.getElem_cons_zero, List.getElem_cons_succ]
    refine wpAnyH_ready (rs := [18]) (by kernel_rfl) (by simp) ?_
    refine AllReadyH.cons rfl (fun K hK => ?_) AllReadyH.nil
    go_simp
    go_at_call 120
    refine (shnext_p HD.out HT.out.1 HT.out.2).mono ?_
    rintro e W3 ⟨rfl, rfl⟩
    try go_wp2_with fail
    refine hK.out _ _ ?_ (fun hHeld => ?_)
    · ((try dsimp only); first | (obtain ⟨k0, k1, _⟩ := HD.out.sa.cells; obtain ⟨_, t1, _⟩ := HD.out.si.cells; obtain ⟨_, y1⟩ := HD.out.acc HX.out.1 HX.out.2; rw [HD.out.as'] at k0; exact ⟨y1, k1, k0, t1⟩))
    clear hK K
    try simp only [Act.put, List.setIfInBounds_toArray, List.set_cons_zero, List.set_cons_succ, List.getElem_toArray, List.getElem_cons_zero, List.getElem_cons_succ]
    refine wpAnyH_ready (rs := [19]) (by kernel_rfl) (by simp) ?_
    refine AllReadyH.cons rfl (fun K hK => ?_) AllReadyH.nil
    go_simp
    go_at_call 113
    refine (mz_store HD.out.mz HG.out HB.out.1 HB.out.2.1 HB.out.2.2.1 HB.out.2.2.2 A.who (S.wd + ((i : Int) + 1)) t HWHO.out HWI.out).mono ?_
    rintro e W4 ⟨rfl, hm, hkb⟩
    have HF := Lib.hid (HD.out.call hm hkb)
    clear hm hkb
    try go_wp2_with fail
    refine hK.out _ _ ?_ (fun hHeld => ?_)
    · ((try dsimp only); first | (obtain ⟨k0, k1, _⟩ := HF.out.sa.cells; obtain ⟨_, t1, _⟩ := HF.out.si.cells; obtain ⟨_, y1⟩ := HF.out.acc HX.out.1 HX.out.2; rw [HF.out.as'] at k0; exact ⟨y1, k1, k0, t1⟩))
    clear hK K
    try simp only [Act.put, List.setIfInBounds_toArray, List.set_cons_zero, List.set_cons_succ, List.getElem_toArray, List.getElem_cons_zero, List.getElem_cons_succ]
    refine wpAnyH_done (by kernel_rfl) ?_ _
    clear c0 c1 c2 c3 c4 c5 c6 c7 c8 cf s0 s1 s2 s3 s4 x0 x1


    obtain ⟨f0, f1, f2, f3, f4, f5, f6, f7, f8, ff⟩ := HF.out.sa.cells
    have f8' : W4.cell? ⟨a, 8, none⟩ = some (.int .i64 A.mk') := f8
    clear f8
    by_cases hm : A.mk' = 0
    · rw [hm] at f8'
      rcases Bool.eq_false_or_eq_true (teB D) with hte | hte
      · go_wp2_with fail
        go_at_call 121
        refine (shte_any HF.out.sa HF.out.tod).mono ?_
        rw [hte]
        rintro e w5 ⟨rfl, rfl⟩
        go_wp2_with fail
        go_at_call 14
        refine (mz_time HF.out.mz).mono ?_
        rintro e w5 ⟨rfl, rfl⟩
        have HE := Lib.hid (HF.out.setA 8 (.int .i64 ((storeS M A.who (S.wd + ((i : Int) + 1)) t).lg.length : Int)) (HF.out.sa.set8 ((storeS M A.who (S.wd + ((i : Int) + 1)) t).lg.length : Int)) rfl rfl rfl rfl)
        go_wp2_with fail
        go_at_call 52
        refine (shover_any HE.out.sa HE.out.tod).mono ?_
        rintro e w9 ⟨rfl, rfl⟩
        go_wp2_with fail
        go_ret
        refine ⟨rfl, zs1, (.slice (some ⟨db, doff + 2, none⟩) D.length (dcap - 1)), A.tv, HZ1.out.1, fun j hj => (HZ1.out.2 j hj).imp id (fun e => by have := hX.out; omega), ?_⟩
        have e : mkA { A with dv := (.slice (some ⟨db, doff + 2, none⟩) D.length (dcap - 1)), tv := A.tv, ver := A.ver } D ((storeS M A.who (S.wd + ((i : Int) + 1)) t).lg.length : Int) = { { A with dv := (.slice (some ⟨db, doff + 2, none⟩) D.length (dcap - 1)), tv := A.tv, ver := A.ver } with mk' := ((storeS M A.who (S.wd + ((i : Int) + 1)) t).lg.length : Int) } := by unfold mkA; rw [if_pos ⟨hm, hte⟩]
        rw [e]
        exact HE.out.under HS.out.1 HS.out.2
      · have HE := HF
        go_wp2_with fail
        go_at_call 121
        refine (shte_any HF.out.sa HF.out.tod).mono ?_
        rw [hte]
        rintro e w5 ⟨rfl, rfl⟩
        go_wp2_with fail
        go_at_call 52
        refine (shover_any HE.out.sa HE.out.tod).mono ?_
        rintro e w9 ⟨rfl, rfl⟩
        go_wp2_with fail
        go_ret
        refine ⟨rfl, zs1, (.slice (some ⟨db, doff + 2, none⟩) D.length (dcap - 1)), A.tv, HZ1.out.1, fun j hj => (HZ1.out.2 j hj).imp id (fun e => by have := hX.out; omega), ?_⟩
        have e : mkA { A with dv := (.slice (some ⟨db, doff + 2, none⟩) D.length (dcap - 1)), tv := A.tv, ver := A.ver } D ((storeS M A.who (S.wd + ((i : Int) + 1)) t).lg.length : Int) = { A with dv := (.slice (some ⟨db, doff + 2, none⟩) D.length (dcap - 1)), tv := A.tv, ver := A.ver } := by unfold mkA; rw [if_neg (by rw [hte]; simp)]
        rw [e]
        exact HE.out.under HS.out.1 HS.out.2
    · have HE := HF
      have hm2 : (A.mk' == 0) = false := by rw [beq_eq_false_iff_ne]; exact hm
      go_wp2_with fail
      go_at_call 52
      refine (shover_any HE.out.sa HE.out.tod).mono ?_
      rintro e w9 ⟨rfl, rfl⟩
      go_wp2_with fail
      go_ret
      refine ⟨rfl, zs1, (.slice (some ⟨db, doff + 2, none⟩) D.length (dcap - 1)), A.tv, HZ1.out.1, fun j hj => (HZ1.out.2 j hj).imp id (fun e => by have := hX.out; omega), ?_⟩
      have e : mkA { A with dv := (.slice (some ⟨db, doff + 2, none⟩) D.length (dcap - 1)), tv := A.tv, ver := A.ver } D ((storeS M A.who (S.wd + ((i : Int) + 1)) t).lg.length : Int) = { A with dv := (.slice (some ⟨db, doff + 2, none⟩) D.length (dcap - 1)), tv := A.tv, ver := A.ver } := by unfold mkA; exact if_neg (fun h => hm h.1)
      rw [e]
      exact HE.out.under HS.out.1 HS.out.2

set_option maxRecDepth 1000000 in
set_option maxHeartbeats 16000000 in
theorem shstep_free (h : Sg n w0 wr fs zs a s S A P T ((5, 0) :: D) M w) (hsp : M.sp A.who = false) (hG : Mm.Good a0 b0 c0 k M) (ha : a0 ≤ 65536) (hb : b0 ≤ 65536) (hc : c0 ≤ 65536) (hk : k ≤ 100000) (hwho : I64 A.who) (hla : I64 S.la) :
    Calls Try.prog 93 #[.pointer (some ⟨a, 0, none⟩)] w (ShQ n w0 wr fs zs a s S A P T D (relS M A.who 5 S.la) A.ver w.heap.size) := by
  have HR := Lib.hid h
  have HOV := Lib.hid (shover_any h.sa h.tod)
  have hdf : decide (((5, 0) :: D : List (Int × Int)) = []) = false := by simp
  rw [hdf] at HOV
  obtain ⟨c0, c1, c2, c3, c4, c5, c6, c7, c8, cf⟩ := h.sa.cells
  obtain ⟨s0, s1, s2, s3, s4⟩ := h.si.cells
  rw [h.as'] at c0
  obtain ⟨dao, dcap, hdv, hdc0, hdc⟩ := h.tod.form
  have htod := h.tod
  rw [hdv] at c5 htod
  obtain ⟨db, doff, rfl, hdb, hx⟩ := htod.at (i := 0) (x := (5, 0)) rfl
  have e0 := hx 0 _ (by decide) rfl
  have e1 := hx 1 _ (by decide) rfl
  simp only [Nat.zero_mul, Nat.add_zero] at e0 e1
  have hdl : (0 : Int) < ((D.length + 1 : Nat) : Int) := by omega
  have hdc1 : D.length + 1 ≤ dcap := by simpa using hdc0
  have hal := h.sa.lt
  have hsl := h.si.lt
  have HTOD := Lib.hid (show Rr accK w (.slice (some ⟨db, doff, none⟩) (D.length + 1) dcap) ((5, 0) :: D) from htod)
  have HDV := Lib.hid (show A.dv = .slice (some ⟨db, doff, none⟩) (D.length + 1) dcap from hdv)
  have HG := Lib.hid hG
  have HSP := Lib.hid hsp
  have HB := Lib.hid (And.intro ha (And.intro hb (And.intro hc hk)))
  have HWHO := Lib.hid hwho
  have HLA := Lib.hid hla
  clear hla

  clear hx htod hdf h hdv hG hsp ha hb hc hk hwho hdc0
  go_enter Try.func93, Try.ntmps93
  go_wp2_with fail
  go_at_call 52
  refine HOV.out.mono ?_
  rintro e w1 ⟨rfl, rfl⟩
  go_upto_region 3 with fail
  go_region
  go_upto_region 4 with fail
  have hn := heap_alloc_new w (.cells #[Value.int .i64 (5), .int .i64 (0)] 164)
  have hxl : w.heap.size < (w.alloc (.cells #[Value.int .i64 (5), .int .i64 (0)] 164)).drew.heap.size := (Array.getElem?_eq_some_iff.1 hn).1
  have x0 : (w.alloc (.cells #[Value.int .i64 (5), .int .i64 (0)] 164)).drew.cell? ⟨w.heap.size, 0, none⟩ = some (.int .i64 (5)) := cell_of_row _ _ _ _ _ _ hn
  have x1 : (w.alloc (.cells #[Value.int .i64 (5), .int .i64 (0)] 164)).drew.cell? ⟨w.heap.size, 1, none⟩ = some (.int .i64 (0)) := cell_of_row _ _ _ _ _ _ hn
  have hbx : Below w.heap.size w (w.alloc (.cells #[Value.int .i64 (5), .int .i64 (0)] 164)).drew := ((Below.refl _ _).alloc (Nat.le_refl _) _).drew
  obtain ⟨zs1, y1, y2, hov⟩ := HR.out.over hbx (Nat.le_refl w.heap.size) hxl
  have HO := Lib.hid hov
  have HZ1 := Lib.hid (And.intro y1 y2)
  have HTW := Lib.hid (HTOD.out.below hbx)
  have HS := Lib.hid (And.intro (fun j (hj : j ∈ fs) => (hbx.block j (zs_lt HR.out.mz j (HR.out.fz j hj))).trans (HR.out.fr j hj)) (Nat.le_trans HR.out.sz hbx.size))
  have HX := Lib.hid (And.intro x0 x1)
  have HSZ := Lib.hid hbx.size
  generalize hX : w.heap.size = X at *
  replace hX := Lib.hid hX
  generalize (w.alloc (.cells #[Value.int .i64 (5), .int .i64 (0)] 164)).drew = W at *
  clear hn hxl hbx hov y1 y2 c0 c1 c2 c3 c4 c5 c6 c7 c8 cf s0 s1 s2 s3 s4 hal hsl hdb e0 e1 HOV HTOD
  obtain ⟨c0, c1, c2, c3, c4, c5, c6, c7, c8, cf⟩ := HO.out.sa.cells
  obtain ⟨s0, s1, s2, s3, s4⟩ := HO.out.si.cells
  rw [HO.out.as'] at c0
  rw [HDV.out] at c5
  go_wp2_with fail
  go_at_call 66
  refine (mz_asleep HO.out.mz A.who HWHO.out).mono ?_
  rw [HSP.out]
  rintro e w1 ⟨rfl, rfl⟩
  go_upto_region 6 with fail

  have hcc : (dcap = 1 ∧ D = []) ∨ dcap ≠ 1 := by
    by_cases e : dcap = 1
    · exact .inl ⟨e, List.length_eq_zero_iff.1 (by omega)⟩
    · exact .inr e
  rcases hcc with ⟨rfl, rfl⟩ | hcap
  · skip
    have HD := Lib.hid (HO.out.setD (v := (.slice (some ⟨db, doff, none⟩) 0 0)) rr_nil0 (by rw [HDV.out]; rfl))

    go_upto_region 7 with fail
    clear c0 c1 c2 c3 c4 c5 c6 c7 c8 cf s0 s1 s2 s3 s4 x0 x1
    generalize W.setCell ⟨a, 5, none⟩ (.slice (some ⟨db, doff, none⟩) 0 0) = W2 at *
    obtain ⟨c0, c1, c2, c3, c4, c5, c6, c7, c8, cf⟩ := HD.out.sa.cells
    obtain ⟨s0, s1, s2, s3, s4⟩ := HD.out.si.cells
    rw [HD.out.as'] at c0
    obtain ⟨x0, x1⟩ := HD.out.acc HX.out.1 HX.out.2
    go_upto_region 13 with fail
    replace HD := Lib.hid (HD.out.below (Below.refl _ _).drew)
    clear c0 c1 c2 c3 c4 c5 c6 c7 c8 cf s0 s1 s2 s3 s4 x0 x1
    obtain ⟨c0, c1, c2, c3, c4, c5, c6, c7, c8, cf⟩ := HD.out.sa.cells
    obtain ⟨s0, s1, s2, s3, s4⟩ := HD.out.si.cells
    rw [HD.out.as'] at c0
    obtain ⟨x0, x1⟩ := HD.out.acc HX.out.1 HX.out.2
    refine wp_region_held_drew (S := (fun w' => w'.cell? ⟨a, 1, none⟩ = some (.int .i64 A.who) ∧ w'.cell? ⟨a, 0, none⟩ = some (.pointer (some ⟨s, 0, none⟩)) ∧ w'.cell? ⟨s, 2, none⟩ = some (.int .i64 S.la))) (by kernel_rfl) ?_ (fun hHeld => ?_)
    · ((try dsimp only); obtain ⟨k0, k1, _⟩ := HD.out.sa.cells; obtain ⟨_, _, t2, _⟩ := HD.out.si.cells; rw [HD.out.as'] at k0; exact ⟨k1, k0, t2⟩)
    refine wpAnyH_take (i := 0) (v := ?_) rfl (by kernel_rfl) (by kernel_rfl) (by kernel_rfl) (fun _ _ _ h => h) (Or.inl ⟨by rfl, ?_⟩) (by assumption) ?_
    rotate_left 1
    · (intro w hSw; (try dsimp only at hSw); first | (go_simp; done) | (go_simp; with_reducible rfl))
    try simp only [Act.put, List.setIfInBounds_toArray, List.set_cons_zero, List.set_cons_succ, List.getElem_toArray, List.getElem_cons_zero]
    refine wpAnyH_take (i := 1) (v := ?_) rfl (by kernel_rfl) (by kernel_rfl) (by kernel_rfl) (fun _ _ _ h => h) (Or.inl ⟨by rfl, ?_⟩) (by assumption) ?_
    rotate_left 1
    · (intro w hSw; (try dsimp only at hSw); first | (go_simp; done) | (go_simp; with_reducible rfl))
    try simp only [Act.put, List.setIfInBounds_toArray, List.set_cons_zero, List.set_cons_succ, List.getElem_toArray, List.getElem_cons_zero, List.getElem_cons_succ]
    refine wpAnyH_take (i := 2) (v := ?_) rfl (by kernel_rfl) (by kernel_rfl) (by kernel_rfl) (fun _ _ _ h => h) (Or.inl ⟨by rfl, ?_⟩) (by assumption) ?_
    rotate_left 1
    · (intro w hSw; (try dsimp only at hSw); first | (go_simp; done) | (go_simp; with_reducible rfl))
    try simp only [Act.put, List.setIfInBounds_toArray, List.set_cons_zero, List.set_cons_succ, List.getElem_toArray, List.getElem_cons_zero, List.getElem_cons_succ]
    refine wpAnyH_take (i := 3) (v := ?_) rfl (by kernel_rfl) (by kernel_rfl) (by kernel_rfl) (fun _ _ _ h => h) (Or.inl ⟨by rfl, ?_⟩) (by assumption) ?_
    rotate_left 1
    · (intro w hSw; (try dsimp only at hSw); first | (go_simp; done) | (go_simp; with_reducible rfl))
    try simp only [Act.put, List.setIfInBounds_toArray, List.set_cons_zero, List.set_cons_succ, List.getElem_toArray, List.getElem_cons_zero, List.getElem_cons_succ]
    refine wpAnyH_take (i := 4) (v := ?_) rfl (by kernel_rfl) (by kernel_rfl) (by kernel_rfl) (fun _ _ _ h => h) (Or.inl ⟨by rfl, ?_⟩) (by assumption) ?_
    rotate_left 1
    · (intro w hSw; (try dsimp only at hSw); first | (go_simp; done) | (go_simp; with_reducible rfl))
    try simp only [Act.put, List.setIfInBounds_toArray, List.set_cons_zero, List.set_cons_succ, List.getElem_toArray, List.getElem_cons_zero, List.getElem_cons_succ]
    refine wpAnyH_take (i := 5) (v := ?_) rfl (by kernel_rfl) (by kernel_rfl) (by kernel_rfl) (fun _ _ _ h => h) (Or.inl ⟨by rfl, ?_⟩) (by assumption) ?_
    rotate_left 1
    · (intro w hSw; (try dsimp only at hSw); first | (go_simp; done) | (go_simp; with_reducible rfl))
    try simp only [Act.put, List.setIfInBounds_toArray, List.set_cons_zero, List.set_cons_succ, List.getElem_toArray, List.getElem_cons_zero, List.getElem_cons_succ]
    refine wpAnyH_take (i := 6) (v := ?_) rfl (by kernel_rfl) (by kernel_rfl) (by kernel_rfl) (fun _ _ _ h => h) (Or.inl ⟨by rfl, ?_⟩) (by assumption) ?_
    rotate_left 1
    · (intro w hSw; (try dsimp only at hSw); first | (go_simp; done) | (go_simp; with_reducible rfl))
    try simp only [Act.put, List.setIfInBounds_toArray, List.set_cons_zero, List.set_cons_succ, List.getElem_toArray, List.getElem_cons_zero, List.getElem_cons_succ]
    refine wpAnyH_take (i := 7) (v := ?_) rfl (by kernel_rfl) (by kernel_rfl) (by kernel_rfl) (fun _ _ _ h => h) (Or.inl ⟨by rfl, ?_⟩) (by assumption) ?_
    rotate_left 1
    · (intro w hSw; (try dsimp only at hSw); first | (go_simp; done) | (go_simp; with_reducible rfl))
    try simp only [Act.put, List.setIfInBounds_toArray, List.set_cons_zero, List.set_cons_succ, List.getElem_toArray, List.getElem_cons_zero, List.getElem_cons_succ]
    refine wpAnyH_take (i := 8) (v := ?_) rfl (by kernel_rfl) (by kernel_rfl) (by kernel_rfl) (fun _ _ _ h => h) (Or.inl ⟨by rfl, ?_⟩) (by assumption) ?_
    rotate_left 1
    · (intro w hSw; (try dsimp only at hSw); first | (go_simp; done) | (go_simp; with_reducible rfl))
    try simp only [Act.put, List.setIfInBounds_toArray, List.set_cons_zero, List.set_cons_succ, List.getElem_toArray, List.getElem_cons_zero, List.getElem_cons_succ]
    refine wpAnyH_take (i := 9) (v := ?_) rfl (by kernel_rfl) (by kernel_rfl) (by kernel_rfl) (fun _ _ _ h => h) (Or.inl ⟨by rfl, ?_⟩) (by assumption) ?_
    rotate_left 1
    · (intro w hSw; (try dsimp only at hSw); first | (go_simp; done) | (go_simp; with_reducible rfl))
    try simp only [Act.put, List.setIfInBounds_toArray, List.set_cons_zero, List.set_cons_succ, List.getElem_toArray, List.getElem_cons_zero, List.getElem_cons_succ]
    refine wpAnyH_take (i := 10) (v := ?_) rfl (by kernel_rfl) (by kernel_rfl) (by kernel_rfl) (fun _ _ _ h => h) (Or.inl ⟨by rfl, ?_⟩) (by assumption) ?_
    rotate_left 1
    · (intro w hSw; (try dsimp only at hSw); first | (go_simp; done) | (go_simp; with_reducible rfl))
    try simp only [Act.put, List.setIfInBounds_toArray, List.set_cons_zero, List.set_cons_succ, List.getElem_toArray, List.getElem_cons_zero, List.getElem_cons_succ]
    refine wpAnyH_take (i := 11) (v := ?_) rfl (by kernel_rfl) (by kernel_rfl) (by kernel_rfl) (fun _ _ _ h => h) (Or.inl ⟨by rfl, ?_⟩) (by assumption) ?_
    rotate_left 1
    · (intro w hSw; (try dsimp only at hSw); first | (go_simp; done) | (go_simp; with_reducible rfl))
    try simp only [Act.put, List.setIfInBounds_toArray, List.set_cons_zero, List.set_cons_succ, List.getElem_toArray, List.getElem_cons_zero, List.getElem_cons_succ]
    refine wpAnyH_ready (rs := [12]) (by kernel_rfl) (by simp) ?_
    refine AllReadyH.cons rfl (fun K hK => ?_) AllReadyH.nil
    go_simp
    go_at_call 47
    refine (mz_free HD.out.mz HG.out HB.out.1 HB.out.2.1 HB.out.2.2.1 HB.out.2.2.2 A.who S.la HWHO.out HLA.out).mono ?_
    rintro e W4 ⟨rfl, hm, hkb⟩
    have HF := Lib.hid (HD.out.call hm hkb)
    clear hm hkb
    try go_wp2_with fail
    refine hK.out _ _ ?_ (fun hHeld => ?_)
    · ((try dsimp only); obtain ⟨k0, k1, _⟩ := HF.out.sa.cells; obtain ⟨_, _, t2, _⟩ := HF.out.si.cells; rw [HF.out.as'] at k0; exact ⟨k1, k0, t2⟩)
    clear hK K
    try simp only [Act.put, List.setIfInBounds_toArray, List.set_cons_zero, List.set_cons_succ, List.getElem_toArray, List.getElem_cons_zero, List.getElem_cons_succ]
    refine wpAnyH_done (by kernel_rfl) ?_ _
    clear c0 c1 c2 c3 c4 c5 c6 c7 c8 cf s0 s1 s2 s3 s4 x0 x1


    obtain ⟨f0, f1, f2, f3, f4, f5, f6, f7, f8, ff⟩ := HF.out.sa.cells
    have f8' : W4.cell? ⟨a, 8, none⟩ = some (.int .i64 A.mk') := f8
    clear f8
    by_cases hm : A.mk' = 0
    · rw [hm] at f8'
      rcases Bool.eq_false_or_eq_true (teB []) with hte | hte
      · go_wp2_with fail
        go_at_call 121
        refine (shte_any HF.out.sa HF.out.tod).mono ?_
        rw [hte]
        rintro e w5 ⟨rfl, rfl⟩
        go_wp2_with fail
        go_at_call 14
        refine (mz_time HF.out.mz).mono ?_
        rintro e w5 ⟨rfl, rfl⟩
        have HE := Lib.hid (HF.out.setA 8 (.int .i64 ((relS M A.who 5 S.la).lg.length : Int)) (HF.out.sa.set8 ((relS M A.who 5 S.la).lg.length : Int)) rfl rfl rfl rfl)
        go_wp2_with fail
        go_at_call 52
        refine (shover_any HE.out.sa HE.out.tod).mono ?_
        rintro e w9 ⟨rfl, rfl⟩
        go_wp2_with fail
        go_ret
        refine ⟨rfl, zs1, (.slice (some ⟨db, doff, none⟩) 0 0), A.tv, HZ1.out.1, fun j hj => (HZ1.out.2 j hj).imp id (fun e => by have := hX.out; omega), ?_⟩
        have e : mkA { A with dv := (.slice (some ⟨db, doff, none⟩) 0 0), tv := A.tv, ver := A.ver } [] ((relS M A.who 5 S.la).lg.length : Int) = { { A with dv := (.slice (some ⟨db, doff, none⟩) 0 0), tv := A.tv, ver := A.ver } with mk' := ((relS M A.who 5 S.la).lg.length : Int) } := by unfold mkA; rw [if_pos ⟨hm, hte⟩]
        rw [e]
        exact HE.out.under HS.out.1 HS.out.2
      · have HE := HF
        go_wp2_with fail
        go_at_call 121
        refine (shte_any HF.out.sa HF.out.tod).mono ?_
        rw [hte]
        rintro e w5 ⟨rfl, rfl⟩
        go_wp2_with fail
        go_at_call 52
        refine (shover_any HE.out.sa HE.out.tod).mono ?_
        rintro e w9 ⟨rfl, rfl⟩
        go_wp2_with fail
        go_ret
        refine ⟨rfl, zs1, (.slice (some ⟨db, doff, none⟩) 0 0), A.tv, HZ1.out.1, fun j hj => (HZ1.out.2 j hj).imp id (fun e => by have := hX.out; omega), ?_⟩
        have e : mkA { A with dv := (.slice (some ⟨db, doff, none⟩) 0 0), tv := A.tv, ver := A.ver } [] ((relS M A.who 5 S.la).lg.length : Int) = { A with dv := (.slice (some ⟨db, doff, none⟩) 0 0), tv := A.tv, ver := A.ver } := by unfold mkA; rw [if_neg (by rw [hte]; simp)]
        rw [e]
        exact HE.out.under HS.out.1 HS.out.2
    · have HE := HF
      have hm2 : (A.mk' == 0) = false := by rw [beq_eq_false_iff_ne]; exact hm
      go_wp2_with fail
      go_at_call 52
      refine (shover_any HE.out.sa HE.out.tod).mono ?_
      rintro e w9 ⟨rfl, rfl⟩
      go_wp2_with fail
      go_ret
      refine ⟨rfl, zs1, (.slice (some ⟨db, doff, none⟩) 0 0), A.tv, HZ1.out.1, fun j hj => (HZ1.out.2 j hj).imp id (fun e => by have := hX.out; omega), ?_⟩
      have e : mkA { A with dv := (.slice (some ⟨db, doff, none⟩) 0 0), tv := A.tv, ver := A.ver } [] ((relS M A.who 5 S.la).lg.length : Int) = { A with dv := (.slice (some ⟨db, doff, none⟩) 0 0), tv := A.tv, ver := A.ver } := by unfold mkA; exact if_neg (fun h => hm h.1)
      rw [e]
      exact HE.out.under HS.out.1 HS.out.2
  · skip
    have HD := Lib.hid (HO.out.setD (v := (.slice (some ⟨db, doff + 2, none⟩) D.length (dcap - 1))) (rr_tail (HTW.out)) (by rw [HDV.out]; rfl))
    have hc1 : 0 < dcap - 1 := by omega
    go_upto_region 7 with fail
    clear c0 c1 c2 c3 c4 c5 c6 c7 c8 cf s0 s1 s2 s3 s4 x0 x1
    generalize W.setCell ⟨a, 5, none⟩ (.slice (some ⟨db, doff + 2, none⟩) D.length (dcap - 1)) = W2 at *
    obtain ⟨c0, c1, c2, c3, c4, c5, c6, c7, c8, cf⟩ := HD.out.sa.cells
    obtain ⟨s0, s1, s2, s3, s4⟩ := HD.out.si.cells
    rw [HD.out.as'] at c0
    obtain ⟨x0, x1⟩ := HD.out.acc HX.out.1 HX.out.2
    go_upto_region 13 with fail
    replace HD := Lib.hid (HD.out.below (Below.refl _ _).drew)
    clear c0 c1 c2 c3 c4 c5 c6 c7 c8 cf s0 s1 s2 s3 s4 x0 x1
    obtain ⟨c0, c1, c2, c3, c4, c5, c6, c7, c8, cf⟩ := HD.out.sa.cells
    obtain ⟨s0, s1, s2, s3, s4⟩ := HD.out.si.cells
    rw [HD.out.as'] at c0
    obtain ⟨x0, x1⟩ := HD.out.acc HX.out.1 HX.out.2
    refine wp_region_held_drew (S := (fun w' => w'.cell? ⟨a, 1, none⟩ = some (.int .i64 A.who) ∧ w'.cell? ⟨a, 0, none⟩ = some (.pointer (some ⟨s, 0, none⟩)) ∧ w'.cell? ⟨s, 2, none⟩ = some (.int .i64 S.la))) (by kernel_rfl) ?_ (fun hHeld => ?_)
    · ((try dsimp only); obtain ⟨k0, k1, _⟩ := HD.out.sa.cells; obtain ⟨_, _, t2, _⟩ := HD.out.si.cells; rw [HD.out.as'] at k0; exact ⟨k1, k0, t2⟩)
    refine wpAnyH_take (i := 0) (v := ?_) rfl (by kernel_rfl) (by kernel_rfl) (by kernel_rfl) (fun _ _ _ h => h) (Or.inl ⟨by rfl, ?_⟩) (by assumption) ?_
    rotate_left 1
    · (intro w hSw; (try dsimp only at hSw); first | (go_simp; done) | (go_simp; with_reducible rfl))
    try simp only [Act.put, List.setIfInBounds_toArray, List.set_cons_zero, List.set_cons_succ, List.getElem_toArray, List.getElem_cons_zero]
    refine wpAnyH_take (i := 1) (v := ?_) rfl (by kernel_rfl) (by kernel_rfl) (by kernel_rfl) (fun _ _ _ h => h) (Or.inl ⟨by rfl, ?_⟩) (by assumption) ?_
    rotate_left 1
    · (intro w hSw; (try dsimp only at hSw); first | (go_simp; done) | (go_simp; with_reducible rfl))
    try simp only [Act.put, List.setIfInBounds_toArray, List.set_cons_zero, List.set_cons_succ, List.getElem_toArray, List.getElem_cons_zero, List.getElem_cons_succ]
    refine wpAnyH_take (i := 2) (v := ?_) rfl (by kernel_rfl) (by kernel_rfl) (by kernel_rfl) (fun _ _ _ h => h) (Or.inl ⟨by rfl, ?_⟩) (by assumption) ?_
    rotate_left 1
    · (intro w hSw; (try dsimp only at hSw); first | (go_simp; done) | (go_simp; with_reducible rfl))
    try simp only [Act.put, List.setIfInBounds_toArray, List.set_cons_zero, List.set_cons_succ, List.getElem_toArray, List.getElem_cons_zero, List.getElem_cons_succ]
    refine wpAnyH_take (i := 3) (v := ?_) rfl (by kernel_rfl) (by kernel_rfl) (by kernel_rfl) (fun _ _ _ h => h) (Or.inl ⟨by rfl, ?_⟩) (by assumption) ?_
    rotate_left 1
    · (intro w hSw; (try dsimp only at hSw); first | (go_simp; done) | (go_simp; with_reducible rfl))
    try simp only [Act.put, List.setIfInBounds_toArray, List.set_cons_zero, List.set_cons_succ, List.getElem_toArray, List.getElem_cons_zero, List.getElem_cons_succ]
    refine wpAnyH_take (i := 4) (v := ?_) rfl (by kernel_rfl) (by kernel_rfl) (by kernel_rfl) (fun _ _ _ h => h) (Or.inl ⟨by rfl, ?_⟩) (by assumption) ?_
    rotate_left 1
    · (intro w hSw; (try dsimp only at hSw); first | (go_simp; done) | (go_simp; with_reducible rfl))
    try simp only [Act.put, List.setIfInBounds_toArray, List.set_cons_zero, List.set_cons_succ, List.getElem_toArray, List.getElem_cons_zero, List.getElem_cons_succ]
    refine wpAnyH_take (i := 5) (v := ?_) rfl (by kernel_rfl) (by kernel_rfl) (by kernel_rfl) (fun _ _ _ h => h) (Or.inl ⟨by rfl, ?_⟩) (by assumption) ?_
    rotate_left 1
    · (intro w hSw; (try dsimp only at hSw); first | (go_simp; done) | (go_simp; with_reducible rfl))
    try simp only [Act.put, List.setIfInBounds_toArray, List.set_cons_zero, List.set_cons_succ, List.getElem_toArray, List.getElem_cons_zero, List.getElem_cons_succ]
    refine wpAnyH_take (i := 6) (v := ?_) rfl (by kernel_rfl) (by kernel_rfl) (by kernel_rfl) (fun _ _ _ h => h) (Or.inl ⟨by rfl, ?_⟩) (by assumption) ?_
    rotate_left 1
    · (intro w hSw; (try dsimp only at hSw); first | (go_simp; done) | (go_simp; with_reducible rfl))
    try simp only [Act.put, List.setIfInBounds_toArray, List.set_cons_zero, List.set_cons_succ, List.getElem_toArray, List.getElem_cons_zero, List.getElem_cons_succ]
    refine wpAnyH_take (i := 7) (v := ?_) rfl (by kernel_rfl) (by kernel_rfl) (by kernel_rfl) (fun _ _ _ h => h) (Or.inl ⟨by rfl, ?_⟩) (by assumption) ?_
    rotate_left 1
    · (intro w hSw; (try dsimp only at hSw); first | (go_simp; done) | (go_simp; with_reducible rfl))
    try simp only [Act.put, List.setIfInBounds_toArray, List.set_cons_zero, List.set_cons_succ, List.getElem_toArray, List.getElem_cons_zero, List.getElem_cons_succ]
    refine wpAnyH_take (i := 8) (v := ?_) rfl (by kernel_rfl) (by kernel_rfl) (by kernel_rfl) (fun _ _ _ h => h) (Or.inl ⟨by rfl, ?_⟩) (by assumption) ?_
    rotate_left 1
    · (intro w hSw; (try dsimp only at hSw); first | (go_simp; done) | (go_simp; with_reducible rfl))
    try simp only [Act.put, List.setIfInBounds_toArray, List.set_cons_zero, List.set_cons_succ, List.getElem_toArray, List.getElem_cons_zero, List.getElem_cons_succ]
    refine wpAnyH_take (i := 9) (v := ?_) rfl (by kernel_rfl) (by kernel_rfl) (by kernel_rfl) (fun _ _ _ h => h) (Or.inl ⟨by rfl, ?_⟩) (by assumption) ?_
    rotate_left 1
    · (intro w hSw; (try dsimp only at hSw); first | (go_simp; done) | (go_simp; with_reducible rfl))
    try simp only [Act.put, List.setIfInBounds_toArray, List.set_cons_zero, List.set_cons_succ, List.getElem_toArray, List.getElem_cons_zero, List.getElem_cons_succ]
    refine wpAnyH_take (i := 10) (v := ?_) rfl (by kernel_rfl) (by kernel_rfl) (by kernel_rfl) (fun _ _ _ h => h) (Or.inl ⟨by rfl, ?_⟩) (by assumption) ?_
    rotate_left 1
    · (intro w hSw; (try dsimp only at hSw); first | (go_simp; done) | (go_simp; with_reducible rfl))
    try simp only [Act.put, List.setIfInBounds_toArray, List.set_cons_zero, List.set_cons_succ, List.getElem_toArray, List.getElem_cons_zero, List.getElem_cons_succ]
    refine wpAnyH_take (i := 11) (v := ?_) rfl (by kernel_rfl) (by kernel_rfl) (by kernel_rfl) (fun _ _ _ h => h) (Or.inl ⟨by rfl, ?_⟩) (by assumption) ?_
    rotate_left 1
    · (intro w hSw; (try dsimp only at hSw); first | (go_simp; done) | (go_simp; with_reducible rfl))
    try simp only [Act.put, List.setIfInBounds_toArray, List.set_cons_zero, List.set_cons_succ, List.getElem_toArray, List.getElem_cons_zero, List.getElem_cons_succ]
    refine wpAnyH_ready (rs := [12]) (by kernel_rfl) (by simp) ?_
    refine AllReadyH.cons rfl (fun K hK => ?_) AllReadyH.nil
    go_simp
    go_at_call 47
    refine (mz_free HD.out.mz HG.out HB.out.1 HB.out.2.1 HB.out.2.2.1 HB.out.2.2.2 A.who S.la HWHO.out HLA.out).mono ?_
    rintro e W4 ⟨rfl, hm, hkb⟩
    have HF := Lib.hid (HD.out.call hm hkb)
    clear hm hkb
    try go_wp2_with fail
    refine hK.out _ _ ?_ (fun hHeld => ?_)
    · ((try dsimp only); obtain ⟨k0, k1, _⟩ := HF.out.sa.cells; obtain ⟨_, _, t2, _⟩ := HF.out.si.cells; rw [HF.out.as'] at k0; exact ⟨k1, k0, t2⟩)
    clear hK K
    try simp only [Act.put, List.setIfInBounds_toArray, List.set_cons_zero, List.set_cons_succ, List.getElem_toArray, List.getElem_cons_zero, List.getElem_cons_succ]
    refine wpAnyH_done (by kernel_rfl) ?_ _
    clear c0 c1 c2 c3 c4 c5 c6 c7 c8 cf s0 s1 s2 s3 s4 x0 x1


    obtain ⟨f0, f1, f2, f3, f4, f5, f6, f7, f8, ff⟩ := HF.out.sa.cells
    have f8' : W4.cell? ⟨a, 8, none⟩ = some (.int .i64 A.mk') := f8
    clear f8
    by_cases hm : A.mk' = 0
    · rw [hm] at f8'
      rcases Bool.eq_false_or_eq_true (teB D) with hte | hte
      · go_wp2_with fail
        go_at_call 121
        refine (shte_any HF.out.sa HF.out.tod).mono ?_
        rw [hte]
        rintro e w5 ⟨rfl, rfl⟩
        go_wp2_with fail
        go_at_call 14
        refine (mz_time HF.out.mz).mono ?_
        rintro e w5 ⟨rfl, rfl⟩
        have HE := Lib.hid (HF.out.setA 8 (.int .i64 ((relS M A.who 5 S.la).lg.length : Int)) (HF.out.sa.set8 ((relS M A.who 5 S.la).lg.length : Int)) rfl rfl rfl rfl)
        go_wp2_with fail
        go_at_call 52
        refine (shover_any HE.out.sa HE.out.tod).mono ?_
        rintro e w9 ⟨rfl, rfl⟩
        go_wp2_with fail
        go_ret
        refine ⟨rfl, zs1, (.slice (some ⟨db, doff + 2, none⟩) D.length (dcap - 1)), A.tv, HZ1.out.1, fun j hj => (HZ1.out.2 j hj).imp id (fun e => by have := hX.out; omega), ?_⟩
        have e : mkA { A with dv := (.slice (some ⟨db, doff + 2, none⟩) D.length (dcap - 1)), tv := A.tv, ver := A.ver } D ((relS M A.who 5 S.la).lg.length : Int) = { { A with dv := (.slice (some ⟨db, doff + 2, none⟩) D.length (dcap - 1)), tv := A.tv, ver := A.ver } with mk' := ((relS M A.who 5 S.la).lg.length : Int) } := by unfold mkA; rw [if_pos ⟨hm, hte⟩]
        rw [e]
        exact HE.out.under HS.out.1 HS.out.2
      · have HE := HF
        go_wp2_with fail
        go_at_call 121
        refine (shte_any HF.out.sa HF.out.tod).mono ?_
        rw [hte]
        rintro e w5 ⟨rfl, rfl⟩
        go_wp2_with fail
        go_at_call 52
        refine (shover_any HE.out.sa HE.out.tod).mono ?_
        rintro e w9 ⟨rfl, rfl⟩
        go_wp2_with fail
        go_ret
        refine ⟨rfl, zs1, (.slice (some ⟨db, doff + 2, none⟩) D.length (dcap - 1)), A.tv, HZ1.out.1, fun j hj => (HZ1.out.2 j hj).imp id (fun e => by have := hX.out; omega), ?_⟩
        have e : mkA { A with dv := (.slice (some ⟨db, doff + 2, none⟩) D.length (dcap - 1)), tv := A.tv, ver := A.ver } D ((relS M A.who 5 S.la).lg.length : Int) = { A with dv := (.slice (some ⟨db, doff + 2, none⟩) D.length (dcap - 1)), tv := A.tv, ver := A.ver } := by unfold mkA; rw [if_neg (by rw [hte]; simp)]
        rw [e]
        exact HE.out.under HS.out.1 HS.out.2
    · have HE := HF
      have hm2 : (A.mk' == 0) = false := by rw [beq_eq_false_iff_ne]; exact hm
      go_wp2_with fail
      go_at_call 52
      refine (shover_any HE.out.sa HE.out.tod).mono ?_
      rintro e w9 ⟨rfl, rfl⟩
      go_wp2_with fail
      go_ret
      refine ⟨rfl, zs1, (.slice (some ⟨db, doff + 2, none⟩) D.length (dcap - 1)), A.tv, HZ1.out.1, fun j hj => (HZ1.out.2 j hj).imp id (fun e => by have := hX.out; omega), ?_⟩
      have e : mkA { A with dv := (.slice (some ⟨db, doff + 2, none⟩) D.length (dcap - 1)), tv := A.tv, ver := A.ver } D ((relS M A.who 5 S.la).lg.length : Int) = { A with dv := (.slice (some ⟨db, doff + 2, none⟩) D.length (dcap - 1)), tv := A.tv, ver := A.ver } := by unfold mkA; exact if_neg (fun h => hm h.1)
      rw [e]
      exact HE.out.under HS.out.1 HS.out.2
end
end Go.Proofs.Ytjmkcgkkgamafaa.Sh
