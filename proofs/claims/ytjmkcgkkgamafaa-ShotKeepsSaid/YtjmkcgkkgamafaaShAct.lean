/-
  PACKAGE shot: next, take, loaded (of a try that holds).
-/
import Derived.Test.YtjmkcgkkgamafaaShMem
import Derived.Test.YtjmkcgkkgamafaaMemGet
import Derived.Deep.CutRange
import Derived.Deep.RegionHeldLaw
import Derived.BigQuiet
namespace Go.Proofs.Ytjmkcgkkgamafaa.Sh
open Go.RowKit Rw Pk Go.Maps Mm
set_option linter.unusedVariables false
section
variable {w w' : World} {S : Si} {A : Sa} {n a s : Nat} {w0 wr : World} {fs zs : List Nat} {P T : List Int} {D D' : List (Int × Int)} {M M' : Mm.St} {a0 b0 c0 k : Nat}
set_option maxRecDepth 1000000 in
set_option maxHeartbeats 8000000 in
theorem shnext_0 (h : Sg n w0 wr fs zs a s S A P T D M w) (hv : 0 ≤ A.ver ∧ A.ver ≤ 1000000) :
    Calls Try.prog 120 #[.pointer (some ⟨a, 0, none⟩), .int .i64 0] w fun e w' => e = .returned (.int .u64 (A.ver + 1)) ∧ Sg n w0 wr fs zs a s S { A with ver := A.ver + 1 } P T D M w' := by
  have HR := Lib.hid h
  obtain ⟨c0, c1, c2, c3, c4, c5, c6, c7, c8, cf⟩ := h.sa.cells
  have hw1 : IntKind.u64.wrap (A.ver + 1) = A.ver + 1 := by rw [u64_of]; omega
  have HR2 := Lib.hid (h.setA 6 (.int .u64 (A.ver + 1)) (h.sa.set6 (A.ver + 1)) rfl rfl rfl rfl)
  clear h hv
  go_enter Try.func120, Try.ntmps120
  go_wp2_with fail
  go_ret
  exact ⟨rfl, HR2.out⟩
set_option maxRecDepth 1000000 in
set_option maxHeartbeats 8000000 in
theorem shnext_p (h : Sg n w0 wr fs zs a s S A P T D M w) {i : Nat} {t : Int} (ht : T[i]? = some t) (hi : i ≤ 100) :
    Calls Try.prog 120 #[.pointer (some ⟨a, 0, none⟩), .int .i64 ((i : Int) + 1)] w fun e w' => e = .returned (.int .u64 t) ∧ w = w' := by
  obtain ⟨c0, c1, c2, c3, c4, c5, c6, c7, c8, cf⟩ := h.sa.cells
  have hil := (List.getElem?_eq_some_iff.1 ht).1
  obtain ⟨g, cap, hv, hcell⟩ : ∃ g cap, A.tv = .slice (some ⟨g, 0, none⟩) T.length cap ∧ w.cell? ⟨g, i, none⟩ = some (.int .u64 t) := by
    rcases h.ti.form with ⟨rfl, _⟩ | ⟨g, cap, hv, _⟩
    · simp at ht
    · refine ⟨g, cap, hv, ?_⟩
      have := h.ti
      rw [hv] at this
      have := (this.at ht) 0 _ (by decide) rfl
      simpa [show u64K.k = 1 from rfl] using this
  rw [hv] at c4
  have h1 : (0 : Int) < (i : Int) + 1 := by omega
  have hw1 : IntKind.i64.wrap ((i : Int) + 1 - 1) = (i : Int) := by rw [IntKind.wrap_i64]; omega
  have hw2 : wrap64 (i : Int) = (i : Int) := by unfold wrap64; omega
  have hw3 : IntKind.i64.wrap (i : Int) = (i : Int) := by rw [IntKind.wrap_i64]; omega
  have hi0 : (0 : Int) ≤ (i : Int) := Int.natCast_nonneg _
  have hi1 : (i : Int) < (T.length : Int) := by omega
  clear h ht hv
  go_enter Try.func120, Try.ntmps120
  go_wp2_with fail
  go_ret
  exact ⟨rfl, rfl⟩
set_option maxRecDepth 1000000 in
set_option maxHeartbeats 8000000 in
theorem shtake_yes (h : Sg n w0 wr fs zs a s S A P T D M w) (hG : Mm.Good a0 b0 c0 k M) (ha : a0 ≤ 65536) (hb : b0 ≤ 65536) (hc : c0 ≤ 65536) (hk : k ≤ 100000) (hwho : I64 A.who) (hla : I64 S.la) (ht : takeV M A.who S.la = true) :
    Calls Try.prog 118 #[.pointer (some ⟨a, 0, none⟩)] w fun e w' => e = .returned (.bool true) ∧ Sg n w0 wr fs zs a s S A P T D (takeS M A.who S.la) w' := by
  have HR := Lib.hid h
  obtain ⟨c0, c1, c2, c3, c4, c5, c6, c7, c8, cf⟩ := h.sa.cells
  obtain ⟨s0, s1, s2, s3, s4⟩ := h.si.cells
  rw [h.as'] at c0
  have HT := Lib.hid (fun (W : World) (hW : Sg n w0 wr fs zs a s S A P T D M W) => Mm.mz_take hW.mz hG ha hb hc hk A.who S.la hwho hla)
  rw [ht] at HT
  clear h hG ha hb hc hk hwho hla ht
  go_enter Try.func118, Try.ntmps118
  go_wp2_with fail
  go_quiet (fail)
  go_wp2_with fail
  go_at_call 46
  have HRq := Lib.hid (HR.out.below (below_drewN (Below.refl w.heap.size w) nq))
  refine (HT.out _ HRq.out).mono ?_
  rintro e w1 ⟨rfl, hm, hkb⟩
  have HR1 := Lib.hid (HRq.out.call hm hkb)
  clear hm hkb
  go_wp2_with fail
  go_ret
  exact ⟨rfl, HR1.out⟩
set_option maxRecDepth 1000000 in
set_option maxHeartbeats 8000000 in
/-- A port's word. -/
theorem shloaded_p (h : Sg n w0 wr fs zs a s S A P T D M w) (v : Int) (hT : T.length ≤ 1000) {x : Int} (hx : 0 < x) :
    Calls Try.prog 119 #[.pointer (some ⟨a, 0, none⟩), .int .i64 x, .int .u64 v] w fun e w' => e = .returned (.tuple #[]) ∧ ∃ tv zs', (∀ j ∈ zs, j ∈ zs') ∧ (∀ j ∈ zs', j ∈ zs ∨ w.heap.size ≤ j) ∧ Sg n w0 wr fs zs' a s S { A with tv := tv } P (T ++ [v]) D M w' := by
  obtain ⟨i0, hi, hz0, hz1, hz2⟩ := info_partsP infoU8
  have HR := Lib.hid h
  obtain ⟨c0, c1, c2, c3, c4, c5, c6, c7, c8, cf⟩ := h.sa.cells
  obtain ⟨dao, dcap, hdv, _⟩ := h.tod.form
  obtain ⟨tao, tcap, htv⟩ := h.ti.form2
  have hown : w.ownsRow 0 53 1 A.tv T.length (u64K.flat T) := h.ti
  have hal := h.sa.lt
  have hatv : A.tv.ownBlock ≠ some a := fun e => (h.tb a e).2.2.1 rfl
  rw [hdv] at c5
  have HAT := Lib.hid hatv
  clear h hdv hatv
  go_enter Try.func119, Try.ntmps119
  rw [htv] at c4
  go_wp2_with (at_builtin; refine Batch.wpList_append_any _ rfl _ _ 92 92 rfl 0 53 53 i0 (.int .u64 0) 1 8 Try.underlying92 Try.underlying92 hi hz0 hz1 hz2 rfl (by decide) (.slice tao T.length tcap) T.length (u64K.flat T) rfl ((htv ▸ hown).alloc _) (some ⟨w.heap.size, 0, none⟩) 1 1 [.int .u64 v] rfl rfl ?c1 ?c2 ?c3 ?c4 ?c5 ?_)
  case c1 => exact .inr ⟨_, rfl, World.news_of_block (cs := #[.int .u64 v]) (heap_alloc_new w _)⟩
  case c2 => intro y hy; simp at hy; subst hy; rfl
  case c3 => unfold maxLen; omega
  case c4 => omega
  case c5 => simp
  intro v' w1 hown1 hg1 hat1
  have hg : w.grownBy w1 A.tv.ownBlock := by
    rw [htv]
    exact ⟨hg1.os, hg1.tape, hg1.output, by have := hg1.size; simp at this; omega, fun j hj hn => (hg1.block j (by simp; omega) hn).trans (heap_alloc_old w _ hj)⟩
  have hnew : Own u64K w1 0 53 v' (T ++ [v]) := by
    unfold Own
    rw [flat_append, List.length_append]
    exact hown1
  have hvb : ∀ g, v'.ownBlock = some g → A.tv.ownBlock = some g ∨ w.heap.size ≤ g := fun g hg => by
    rcases hat1 with e | e
    · left; rw [htv]; exact e.symm.trans hg
    · right; have := e.symm.trans hg; simp at this; omega
  obtain ⟨vo, vn, vc, rfl⟩ : ∃ ao n c, v' = .slice ao n c := by
    rcases hnew.form2 with ⟨ao, cap, h⟩
    exact ⟨_, _, _, h⟩
  obtain ⟨zs', z1, z2, hs⟩ := HR.out.setT hg hnew hvb
  have HS := Lib.hid hs
  obtain ⟨d0, d1, d2, d3, d4, d5, d6, d7, d8, df⟩ := (HR.out.sa.of_block (hg.block a hal (fun e => HAT.out e.symm))).cells
  clear hown1 hg1 hat1 hg hnew hvb hs c0 c1 c2 c3 c4 c5 c6 c7 c8 cf hown
  go_wp2_with fail
  first | go_ret | go_end0
  exact ⟨rfl, .slice vo vn vc, zs', z1, z2, HS.out⟩
set_option maxRecDepth 1000000 in
set_option maxHeartbeats 8000000 in
/-- The version, of a try that holds. -/
theorem shloaded_0 (h : Sg n w0 wr fs zs a s S A P T D M w) (v : Int) (hv : D = [] → v = A.ver) (hp : A.pub = false → v.tmod 2 = 0) :
    Calls Try.prog 119 #[.pointer (some ⟨a, 0, none⟩), .int .i64 0, .int .u64 v] w fun e w' => e = .returned (.tuple #[]) ∧ Sg n w0 wr fs zs a s S { A with ver := v } P T D M w' := by
  have HR := Lib.hid h
  obtain ⟨c0, c1, c2, c3, c4, c5, c6, c7, c8, cf⟩ := h.sa.cells
  obtain ⟨dao, dcap, hdv, _⟩ := h.tod.form
  have HR2 := Lib.hid (h.setA 6 (.int .u64 v) (h.sa.set6 v) rfl rfl rfl rfl)
  rw [hdv] at c5
  clear h hdv
  cases D with
  | nil =>
    obtain rfl := hv rfl
    have hne : (A.ver != A.ver) = false := by simp
    clear hv
    rcases Bool.eq_false_or_eq_true A.pub with hq | hq
    case inl =>
      rw [hq] at c2
      clear hp
      go_enter Try.func119, Try.ntmps119
      go_wp2_with fail
      first | go_ret | go_end0
      exact ⟨rfl, HR2.out⟩
    case inr =>
      rw [hq] at c2
      have h2 := hp hq
      clear hp
      go_enter Try.func119, Try.ntmps119
      go_wp2_with fail
      first | go_ret | go_end0
      exact ⟨rfl, HR2.out⟩
  | cons x D =>
    have hne : ((D.length : Int) + 1 == 0) = false := by rw [beq_eq_false_iff_ne]; omega
    have hne2 : ¬ ((D.length : Int) + 1 = 0) := by omega
    clear hv
    rcases Bool.eq_false_or_eq_true A.pub with hq | hq
    case inl =>
      rw [hq] at c2
      clear hp
      go_enter Try.func119, Try.ntmps119
      go_wp2_with fail
      first | go_ret | go_end0
      exact ⟨rfl, HR2.out⟩
    case inr =>
      rw [hq] at c2
      have h2 := hp hq
      clear hp
      go_enter Try.func119, Try.ntmps119
      go_wp2_with fail
      first | go_ret | go_end0
      exact ⟨rfl, HR2.out⟩
end
end Go.Proofs.Ytjmkcgkkgamafaa.Sh
