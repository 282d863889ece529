/-
  PACKAGE pool: Step, over what do does.
-/
import Derived.Test.YtmggnalobfihnaaPlDo
import Derived.Test.YtmggnalobfihnaaPlDo2
import Derived.Test.YtmggnalobfihnaaPlDo3
namespace Go.Proofs.Ytmggnalobfihnaa.Pl
open Go.RowKit Rw Pk Go.Maps Mm
set_option linter.unusedVariables false
section
variable {w w' W : World} {S : Pi} {A A' : Pa} {n a s X i : Nat} {w0 wr : World} {fs zs zs' : List Nat} {P : List Int} {D D' : List (Int × Int)} {x x1 : Int × Int} {B B' : Nat → List Batch.Ch} {T T' l : List Batch.Ch} {M M' : Mm.St} {ga gb gc k : Nat} {v : Value} {rd : Int} {ok : Bool}
/-- The mark, when it takes effect. -/
def mkP (A : Pa) (D : List (Int × Int)) (t : Int) : Pa := if A.mk' = 0 ∧ teP A.ok D = true then { A with mk' := t } else A
/-- Behind do, also where what is to be done is another thing. -/
def DoQ2 (n : Nat) (w0 wr : World) (fs zs : List Nat) (a s : Nat) (S : Pi) (A : Pa) (P : List Int) (D : List (Int × Int)) (B : Nat → List Batch.Ch) (T : List Batch.Ch) (M : Mm.St) (rd : Int) (ok : Bool) (Z : Nat) (e : Ending) (w' : World) : Prop :=
  e = .returned (.bool true) ∧ ∃ zs' bx tk dv, (∀ j ∈ zs, j ∈ zs') ∧ (∀ j ∈ zs', j ∈ zs ∨ Z ≤ j) ∧ (∀ g, Blk { A with bx := bx, tk := tk, rd := rd, dv := dv, ok := ok } g → Blk A g ∨ Z ≤ g) ∧ Pg n w0 wr fs zs' a s S { A with bx := bx, tk := tk, rd := rd, dv := dv, ok := ok } P D B T M w'
theorem DoQ.two {Z : Nat} {e : Ending} (h : DoQ n w0 wr fs zs a s S A P D B T M rd Z e w') : DoQ2 n w0 wr fs zs a s S A P D B T M rd A.ok Z e w' := by
  obtain ⟨h1, zs', bx, tk, h2, h3, h4, h5⟩ := h
  exact ⟨h1, zs', bx, tk, A.dv, h2, h3, h4, h5⟩
/-- Behind a Step. -/
def StQ (n : Nat) (w0 wr : World) (fs zs : List Nat) (a s : Nat) (S : Pi) (A : Pa) (P : List Int) (D : List (Int × Int)) (B : Nat → List Batch.Ch) (T : List Batch.Ch) (M : Mm.St) (rd : Int) (ok : Bool) (Z : Nat) (e : Ending) (w' : World) : Prop :=
  e = .returned (.bool (decide (D = []))) ∧ ∃ zs' bx tk dv, (∀ j ∈ zs, j ∈ zs') ∧ (∀ j ∈ zs', j ∈ zs ∨ Z ≤ j) ∧ (∀ g, Blk { A with bx := bx, tk := tk, rd := rd, dv := dv, ok := ok } g → Blk A g ∨ Z ≤ g) ∧ Pg n w0 wr fs zs' a s S (mkP { A with bx := bx, tk := tk, rd := rd, dv := dv, ok := ok } D (M.lg.length : Int)) P D B T M w'
set_option maxRecDepth 1000000 in
set_option maxHeartbeats 16000000 in
theorem plstep_no {Q : World → Prop} (h : Pg n w0 wr fs zs a s S A P (x :: D') B T M w) (hsp : M.sp A.who = false) (hwho : I64 A.who)
    (hdo : Calls Try.prog 35 #[.pointer (some ⟨a, 0, none⟩), .agg #[.int .i64 x.1, .int .i64 x.2]] w fun e w' => e = .returned (.bool false) ∧ Q w') :
    Calls Try.prog 13 #[.pointer (some ⟨a, 0, none⟩)] w fun e w' => e = .returned (.bool false) ∧ Q w' := by
  have HR := Lib.hid h
  have HOV := Lib.hid (plover_any h.pa h.tod)
  have hdf : decide ((x :: D' : List (Int × Int)) = []) = false := by simp
  rw [hdf] at HOV
  obtain ⟨c0, c1, c2, c3, c12, c13, c14, c15, c16, cf⟩ := h.pa.cells
  obtain ⟨s0, s1, s2, s3, s4⟩ := h.pi.cells
  rw [h.as'] at c0
  obtain ⟨eao, ecap, hev, hec0, hec⟩ := h.tod.form
  have htod := h.tod
  rw [hev] at c12 htod
  obtain ⟨eb, eoff, rfl, heb, hx⟩ := htod.at (i := 0) (x := x) rfl
  have e0 := hx 0 _ (by decide) rfl
  have e1 := hx 1 _ (by decide) rfl
  simp only [Nat.zero_mul, Nat.add_zero] at e0 e1
  have hel : (0 : Int) < ((D'.length + 1 : Nat) : Int) := by omega
  have hal := h.pa.lt
  have hsl := h.pi.lt
  have HSP := Lib.hid hsp
  have HWHO := Lib.hid hwho
  have HDO := Lib.hid hdo
  clear hx htod hdf h hev hsp hwho hec0 hdo
  go_enter Try.func13, Try.ntmps13
  go_wp2_with fail
  go_at_call 33
  refine HOV.out.mono ?_
  rintro e w1 ⟨rfl, rfl⟩
  go_wp2_with fail
  go_at_call 34
  refine (mz_asleep HR.out.mz A.who HWHO.out).mono ?_
  rw [HSP.out]
  rintro e w1 ⟨rfl, rfl⟩
  go_wp2_with fail
  go_at_call 35
  refine HDO.out.mono ?_
  rintro e w1 ⟨rfl, h1⟩
  have H1 := Lib.hid h1
  clear h1
  go_wp2_with fail
  go_ret
  exact ⟨rfl, H1.out⟩
set_option maxRecDepth 1000000 in
set_option maxHeartbeats 16000000 in
theorem plstep_yes (h : Pg n w0 wr fs zs a s S A P (x :: D') B T M w) (hsp : M.sp A.who = false) (hwho : I64 A.who)
    (hdo : Calls Try.prog 35 #[.pointer (some ⟨a, 0, none⟩), .agg #[.int .i64 x.1, .int .i64 x.2]] w (DoQ2 n w0 wr fs zs a s S A P (x1 :: D) B' T' M' rd ok w.heap.size)) :
    Calls Try.prog 13 #[.pointer (some ⟨a, 0, none⟩)] w (StQ n w0 wr fs zs a s S A P D B' T' M' rd ok w.heap.size) := by
  have HR := Lib.hid h
  have HOV := Lib.hid (plover_any h.pa h.tod)
  have hdf : decide ((x :: D' : List (Int × Int)) = []) = false := by simp
  rw [hdf] at HOV
  obtain ⟨c0, c1, c2, c3, c12, c13, c14, c15, c16, cf⟩ := h.pa.cells
  obtain ⟨s0, s1, s2, s3, s4⟩ := h.pi.cells
  rw [h.as'] at c0
  obtain ⟨eao, ecap, hev, hec0, hec⟩ := h.tod.form
  have htod := h.tod
  rw [hev] at c12 htod
  obtain ⟨eb, eoff, rfl, heb, hx⟩ := htod.at (i := 0) (x := x) rfl
  have e0 := hx 0 _ (by decide) rfl
  have e1 := hx 1 _ (by decide) rfl
  simp only [Nat.zero_mul, Nat.add_zero] at e0 e1
  have hel : (0 : Int) < ((D'.length + 1 : Nat) : Int) := by omega
  have hal := h.pa.lt
  have hsl := h.pi.lt
  have HSP := Lib.hid hsp
  have HWHO := Lib.hid hwho
  have HDO := Lib.hid hdo
  clear hx htod hdf h hev hsp hwho hec0 hdo
  go_enter Try.func13, Try.ntmps13
  go_wp2_with fail
  go_at_call 33
  refine HOV.out.mono ?_
  rintro e w1 ⟨rfl, rfl⟩
  go_wp2_with fail
  go_at_call 34
  refine (mz_asleep HR.out.mz A.who HWHO.out).mono ?_
  rw [HSP.out]
  rintro e w1 ⟨rfl, rfl⟩
  go_wp2_with fail
  go_at_call 35
  refine HDO.out.mono ?_
  rintro e W ⟨rfl, zs1, bx, tk, dv, y1, y2, y3, h1⟩
  have HZ1 := Lib.hid (And.intro y1 (And.intro y2 y3))
  have hd1 : Rr accK W dv (x1 :: D) := h1.tod
  obtain ⟨dao, dcap, rfl, hdc0, hdc⟩ := hd1.form
  obtain ⟨db, doff, rfl, hdb, hx⟩ := hd1.at (i := 0) (x := x1) rfl
  have hdl : (0 : Int) < ((D.length + 1 : Nat) : Int) := by omega
  have hdc1 : D.length + 1 ≤ dcap := by simpa using hdc0
  have HTW := Lib.hid (show Rr accK W (.slice (some ⟨db, doff, none⟩) (D.length + 1) dcap) (x1 :: D) from hd1)
  have HBL : Hid (db ∈ zs1 ∧ db ≠ a) := Lib.hid (h1.bl db (.inr (.inl rfl)))
  have HO := Lib.hid h1
  clear hd1 hdc0 hdb hx y1 y2 y3 h1 c0 c1 c2 c3 c12 c13 c14 c15 c16 cf s0 s1 s2 s3 s4 e0 e1 hel hec
  obtain ⟨c0, c1, c2, c3, c12, c13, c14, c15, c16, cf⟩ := HO.out.pa.cells
  obtain ⟨s0, s1, s2, s3, s4⟩ := HO.out.pi.cells
  have c12' : W.cell? ⟨a, 12, none⟩ = some (.slice (some ⟨db, doff, none⟩) (D.length + 1) dcap) := c12
  clear c12
  go_upto_region 6 with fail
  have hcc : (dcap = 1 ∧ D = []) ∨ dcap ≠ 1 := by
    by_cases e : dcap = 1
    · exact .inl ⟨e, List.length_eq_zero_iff.1 (by omega)⟩
    · exact .inr e
  rcases hcc with ⟨rfl, rfl⟩ | hcap
  · skip
    have HF0 := Lib.hid (HO.out.setD (v := (.slice (some ⟨db, doff, none⟩) 0 0)) acc_nil (fun g hg => by obtain rfl : db = g := (by simpa [Value.ownBlock] using hg); exact HBL.out))

    go_upto_region 7 with fail
    clear c0 c1 c2 c3 c12' c13 c14 c15 c16 cf s0 s1 s2 s3 s4
    generalize W.setCell ⟨a, 12, none⟩ (.slice (some ⟨db, doff, none⟩) 0 0) = WF at *
    have HF := HF0
    clear HF0
    obtain ⟨f0, f1, f2, f3, f12, f13, f14, f15, f16, ff⟩ := HF.out.pa.cells
    have f16' : WF.cell? ⟨a, 16, none⟩ = some (.int .i64 A.mk') := f16
    obtain ⟨g0, g1, g2, g3, g4⟩ := HF.out.pi.cells
    clear f16
    by_cases hm : A.mk' = 0
    · rw [hm] at f16'
      rcases Bool.eq_false_or_eq_true (teP ok []) with hte | hte
      · go_wp2_with fail
        go_at_call 36
        refine (plte_any HF.out.pa HF.out.tod).mono ?_
        rw [hte]
        rintro e w5 ⟨rfl, rfl⟩
        go_wp2_with fail
        go_at_call 12
        refine (mz_time HF.out.mz).mono ?_
        rintro e w5 ⟨rfl, rfl⟩
        have HE := Lib.hid (HF.out.setMk (M'.lg.length : Int))
        go_wp2_with fail
        go_at_call 33
        refine (plover_any HE.out.pa HE.out.tod).mono ?_
        rintro e w9 ⟨rfl, rfl⟩
        go_wp2_with fail
        go_ret
        refine ⟨rfl, zs1, bx, tk, (.slice (some ⟨db, doff, none⟩) 0 0), HZ1.out.1, HZ1.out.2.1, fun g hg => HZ1.out.2.2 g (by rcases hg with hg | hg | hg | hg; exact .inl hg; exact .inr (.inl hg); exact .inr (.inr (.inl hg)); exact .inr (.inr (.inr hg))), ?_⟩
        have e : mkP { A with bx := bx, tk := tk, rd := rd, dv := (.slice (some ⟨db, doff, none⟩) 0 0), ok := ok } [] (M'.lg.length : Int) = { { A with bx := bx, tk := tk, rd := rd, dv := (.slice (some ⟨db, doff, none⟩) 0 0), ok := ok } with mk' := (M'.lg.length : Int) } := by unfold mkP; rw [if_pos ⟨hm, hte⟩]
        rw [e]
        exact HE.out
      · have HE := HF
        go_wp2_with fail
        go_at_call 36
        refine (plte_any HF.out.pa HF.out.tod).mono ?_
        rw [hte]
        rintro e w5 ⟨rfl, rfl⟩
        go_wp2_with fail
        go_at_call 33
        refine (plover_any HE.out.pa HE.out.tod).mono ?_
        rintro e w9 ⟨rfl, rfl⟩
        go_wp2_with fail
        go_ret
        refine ⟨rfl, zs1, bx, tk, (.slice (some ⟨db, doff, none⟩) 0 0), HZ1.out.1, HZ1.out.2.1, fun g hg => HZ1.out.2.2 g (by rcases hg with hg | hg | hg | hg; exact .inl hg; exact .inr (.inl hg); exact .inr (.inr (.inl hg)); exact .inr (.inr (.inr hg))), ?_⟩
        have e : mkP { A with bx := bx, tk := tk, rd := rd, dv := (.slice (some ⟨db, doff, none⟩) 0 0), ok := ok } [] (M'.lg.length : Int) = { A with bx := bx, tk := tk, rd := rd, dv := (.slice (some ⟨db, doff, none⟩) 0 0), ok := ok } := by unfold mkP; rw [if_neg (by rw [hte]; simp)]
        rw [e]
        exact HE.out
    · have HE := HF
      have hm2 : (A.mk' == 0) = false := by rw [beq_eq_false_iff_ne]; exact hm
      go_wp2_with fail
      go_at_call 33
      refine (plover_any HE.out.pa HE.out.tod).mono ?_
      rintro e w9 ⟨rfl, rfl⟩
      go_wp2_with fail
      go_ret
      refine ⟨rfl, zs1, bx, tk, (.slice (some ⟨db, doff, none⟩) 0 0), HZ1.out.1, HZ1.out.2.1, fun g hg => HZ1.out.2.2 g (by rcases hg with hg | hg | hg | hg; exact .inl hg; exact .inr (.inl hg); exact .inr (.inr (.inl hg)); exact .inr (.inr (.inr hg))), ?_⟩
      have e : mkP { A with bx := bx, tk := tk, rd := rd, dv := (.slice (some ⟨db, doff, none⟩) 0 0), ok := ok } [] (M'.lg.length : Int) = { A with bx := bx, tk := tk, rd := rd, dv := (.slice (some ⟨db, doff, none⟩) 0 0), ok := ok } := by unfold mkP; exact if_neg (fun h => hm h.1)
      rw [e]
      exact HE.out
  · skip
    have HF0 := Lib.hid (HO.out.setD (v := (.slice (some ⟨db, doff + 2, none⟩) D.length (dcap - 1))) (acc_tail HTW.out) (fun g hg => by obtain rfl : db = g := (by simpa [Value.ownBlock] using hg); exact HBL.out))
    have hc1 : 0 < dcap - 1 := by omega
    go_upto_region 7 with fail
    clear c0 c1 c2 c3 c12' c13 c14 c15 c16 cf s0 s1 s2 s3 s4
    generalize W.setCell ⟨a, 12, none⟩ (.slice (some ⟨db, doff + 2, none⟩) D.length (dcap - 1)) = WF at *
    have HF := HF0
    clear HF0
    obtain ⟨f0, f1, f2, f3, f12, f13, f14, f15, f16, ff⟩ := HF.out.pa.cells
    have f16' : WF.cell? ⟨a, 16, none⟩ = some (.int .i64 A.mk') := f16
    obtain ⟨g0, g1, g2, g3, g4⟩ := HF.out.pi.cells
    clear f16
    by_cases hm : A.mk' = 0
    · rw [hm] at f16'
      rcases Bool.eq_false_or_eq_true (teP ok D) with hte | hte
      · go_wp2_with fail
        go_at_call 36
        refine (plte_any HF.out.pa HF.out.tod).mono ?_
        rw [hte]
        rintro e w5 ⟨rfl, rfl⟩
        go_wp2_with fail
        go_at_call 12
        refine (mz_time HF.out.mz).mono ?_
        rintro e w5 ⟨rfl, rfl⟩
        have HE := Lib.hid (HF.out.setMk (M'.lg.length : Int))
        go_wp2_with fail
        go_at_call 33
        refine (plover_any HE.out.pa HE.out.tod).mono ?_
        rintro e w9 ⟨rfl, rfl⟩
        go_wp2_with fail
        go_ret
        refine ⟨rfl, zs1, bx, tk, (.slice (some ⟨db, doff + 2, none⟩) D.length (dcap - 1)), HZ1.out.1, HZ1.out.2.1, fun g hg => HZ1.out.2.2 g (by rcases hg with hg | hg | hg | hg; exact .inl hg; exact .inr (.inl hg); exact .inr (.inr (.inl hg)); exact .inr (.inr (.inr hg))), ?_⟩
        have e : mkP { A with bx := bx, tk := tk, rd := rd, dv := (.slice (some ⟨db, doff + 2, none⟩) D.length (dcap - 1)), ok := ok } D (M'.lg.length : Int) = { { A with bx := bx, tk := tk, rd := rd, dv := (.slice (some ⟨db, doff + 2, none⟩) D.length (dcap - 1)), ok := ok } with mk' := (M'.lg.length : Int) } := by unfold mkP; rw [if_pos ⟨hm, hte⟩]
        rw [e]
        exact HE.out
      · have HE := HF
        go_wp2_with fail
        go_at_call 36
        refine (plte_any HF.out.pa HF.out.tod).mono ?_
        rw [hte]
        rintro e w5 ⟨rfl, rfl⟩
        go_wp2_with fail
        go_at_call 33
        refine (plover_any HE.out.pa HE.out.tod).mono ?_
        rintro e w9 ⟨rfl, rfl⟩
        go_wp2_with fail
        go_ret
        refine ⟨rfl, zs1, bx, tk, (.slice (some ⟨db, doff + 2, none⟩) D.length (dcap - 1)), HZ1.out.1, HZ1.out.2.1, fun g hg => HZ1.out.2.2 g (by rcases hg with hg | hg | hg | hg; exact .inl hg; exact .inr (.inl hg); exact .inr (.inr (.inl hg)); exact .inr (.inr (.inr hg))), ?_⟩
        have e : mkP { A with bx := bx, tk := tk, rd := rd, dv := (.slice (some ⟨db, doff + 2, none⟩) D.length (dcap - 1)), ok := ok } D (M'.lg.length : Int) = { A with bx := bx, tk := tk, rd := rd, dv := (.slice (some ⟨db, doff + 2, none⟩) D.length (dcap - 1)), ok := ok } := by unfold mkP; rw [if_neg (by rw [hte]; simp)]
        rw [e]
        exact HE.out
    · have HE := HF
      have hm2 : (A.mk' == 0) = false := by rw [beq_eq_false_iff_ne]; exact hm
      go_wp2_with fail
      go_at_call 33
      refine (plover_any HE.out.pa HE.out.tod).mono ?_
      rintro e w9 ⟨rfl, rfl⟩
      go_wp2_with fail
      go_ret
      refine ⟨rfl, zs1, bx, tk, (.slice (some ⟨db, doff + 2, none⟩) D.length (dcap - 1)), HZ1.out.1, HZ1.out.2.1, fun g hg => HZ1.out.2.2 g (by rcases hg with hg | hg | hg | hg; exact .inl hg; exact .inr (.inl hg); exact .inr (.inr (.inl hg)); exact .inr (.inr (.inr hg))), ?_⟩
      have e : mkP { A with bx := bx, tk := tk, rd := rd, dv := (.slice (some ⟨db, doff + 2, none⟩) D.length (dcap - 1)), ok := ok } D (M'.lg.length : Int) = { A with bx := bx, tk := tk, rd := rd, dv := (.slice (some ⟨db, doff + 2, none⟩) D.length (dcap - 1)), ok := ok } := by unfold mkP; exact if_neg (fun h => hm h.1)
      rw [e]
      exact HE.out
end
end Go.Proofs.Ytmggnalobfihnaa.Pl
