/-
  PACKAGE shot: New, Words; what a Read and a Publish have to do; they begin.
-/
import Derived.Test.YtjmkcgkkgamafaaShAct
import Derived.Test.YtjmkcgkkgamafaaMemNew
namespace Go.Proofs.Ytjmkcgkkgamafaa.Sh
open Go.RowKit Rw Pk Go.Maps Mm
set_option linter.unusedVariables false
section
variable {w w' w1 : World} {S : Si} {A A' : Sa} {n a s p : Nat} {w0 wr : World} {fs fs' zs : List Nat} {P T : List Int} {D D' : List (Int × Int)} {M M' : Mm.St}
/-- A Shot beside its Mem. -/
structure Sq (n : Nat) (w0 wr : World) (fs zs : List Nat) (s : Nat) (S : Si) (M : Mm.St) (w : World) : Prop where
  mz : Mm.MemZ n w0 zs S.p M w
  si : SiAt w s S
  sm : s ∈ zs
  ns : n ≤ s
  fz : ∀ j ∈ fs, j ∈ zs
  fr : ∀ j ∈ fs, w.heap[j]? = wr.heap[j]?
  sz : wr.heap.size ≤ w.heap.size
theorem Sg.sq (h : Sg n w0 wr fs zs a s S A P T D M w) : Sq n w0 wr fs zs s S M w := ⟨h.mz, h.si, h.sm, h.ns, h.fz, h.fr, h.sz⟩
theorem Sq.below (h : Sq n w0 wr fs zs s S M w) (hb : Below w.heap.size w w') : Sq n w0 wr fs zs s S M w' :=
  ⟨h.mz.below hb, h.si.of_block (hb.block _ h.si.lt), h.sm, h.ns, h.fz, fun j hj => ((h.mz.keep hb).2 j (.inr (h.fz j hj))).trans (h.fr j hj), Nat.le_trans h.sz hb.size⟩
theorem Sq.rebase (h : Sq n w0 wr fs zs s S M w) {fs' : List Nat} (hf : ∀ j ∈ fs', j ∈ zs) : Sq n w0 w fs' zs s S M w := ⟨h.mz, h.si, h.sm, h.ns, hf, fun _ _ => rfl, Nat.le_refl _⟩
theorem Sq.all (h : Sq n w0 wr fs zs s S M w) (hb : Below w.heap.size w w') : Sq n w0 wr fs (List.range' w.heap.size (w'.heap.size - w.heap.size) ++ zs) s S M w' := by
  have hq := h.below hb
  exact ⟨Rg.memz_all h.mz hb, hq.si, Rg.all_old _ hq.sm, hq.ns, fun j hj => Rg.all_old _ (hq.fz j hj), hq.fr, hq.sz⟩
/-- What a new act is. -/
theorem Sq.act (h : Sq n w0 wr fs zs s S M w) (hb : Below w.heap.size w w') (hA : SaAt w' a A) (ha : w.heap.size ≤ a) (hs : A.s = s) (po : Rr intK w' A.pv P) (tod : Rr accK w' A.dv D) (ti : Own u64K w' 0 53 A.tv T)
    (pb : ∀ g, A.pv.ownBlock = some g → w.heap.size ≤ g ∧ g < w'.heap.size ∧ g ≠ a) (db : ∀ g, A.dv.ownBlock = some g → w.heap.size ≤ g ∧ g < w'.heap.size ∧ g ≠ a) (tb : ∀ g, A.tv.ownBlock = some g → w.heap.size ≤ g ∧ g < w'.heap.size ∧ g ≠ a ∧ A.pv.ownBlock ≠ some g ∧ A.dv.ownBlock ≠ some g) :
    ∃ zs', (∀ j ∈ zs, j ∈ zs') ∧ (∀ j ∈ zs', j ∈ zs ∨ w.heap.size ≤ j) ∧ Sg n w0 wr fs zs' a s S A P T D M w' := by
  have hq := h.below hb
  have hlt := zs_lt h.mz
  have h1 := h.si.lt
  have h2 := h.mz.nl
  have h3 := hA.lt
  exact ⟨_, Rg.all_old, Rg.all_inv, Rg.memz_all h.mz hb, hq.si, hA, Rg.all_mem ha h3, Rg.all_old _ h.sm, by omega, h.ns, by omega, hs, po, tod, ti, fun g hg => ⟨Rg.all_mem (pb g hg).1 (pb g hg).2.1, (pb g hg).2.2⟩, fun g hg => ⟨Rg.all_mem (db g hg).1 (db g hg).2.1, (db g hg).2.2⟩,
    fun g hg => ⟨Rg.all_mem (tb g hg).1 (tb g hg).2.1, by have := (tb g hg).1; omega, (tb g hg).2.2.1, by have := (tb g hg).1; omega, fun hf => by have := hlt g (h.fz g hf); have := (tb g hg).1; omega, (tb g hg).2.2.2.1, (tb g hg).2.2.2.2⟩, fun j hj => Rg.all_old _ (h.fz j hj), fun hf => by have := hlt a (h.fz a hf); omega, hq.fr, hq.sz⟩
/-! ### New -/
set_option maxRecDepth 1000000 in
set_option maxHeartbeats 8000000 in
theorem shwords_any (np : Nat) (h : 1 ≤ np ∧ np ≤ 64) (w : World) :
    Calls Try.prog 85 #[.int .i64 (np : Int)] w fun e w' => e = .returned (.int .i64 ((np : Int) + 1)) ∧ w = w' := by
  have h1 : ¬ (np : Int) < 1 := by omega
  have h2 : ¬ (64 : Int) < (np : Int) := by omega
  have hw : IntKind.i64.wrap ((np : Int) + 1) = (np : Int) + 1 := by rw [IntKind.wrap_i64]; omega
  clear h
  go_enter Try.func85, Try.ntmps85
  go_wp2_with fail
  go_ret
  exact ⟨rfl, rfl⟩
set_option maxRecDepth 1000000 in
set_option maxHeartbeats 8000000 in
theorem shnew_any (np tr : Nat) (h : 1 ≤ np ∧ np ≤ 64) (ht : 1 ≤ tr ∧ tr ≤ 8) (p : Nat) (w : World) :
    Calls Try.prog 86 #[.pointer (some ⟨p, 0, none⟩), .int .i64 1, .int .i64 1, .int .i64 (np : Int), .int .i64 (tr : Int)] w fun e w' => ∃ g, e = .returned (.tuple #[.pointer (some ⟨g, 0, none⟩), .int .i64 0]) ∧ w.heap.size ≤ g ∧ SiAt w' g ⟨p, 1, 1, np, tr⟩ ∧ Below w.heap.size w w' := by
  have HW := Lib.hid (shwords_any np h w)
  have h1 : ¬ (tr : Int) < 1 := by omega
  have h2 : ¬ (8 : Int) < (tr : Int) := by omega
  have h3 : ((np : Int) + 1 == 0) = false := by rw [beq_eq_false_iff_ne]; omega
  have h4 : ¬ ((np : Int) + 1 = 0) := by omega
  clear h ht
  go_enter Try.func86, Try.ntmps86
  go_wp2_with fail
  go_at_call 85
  refine HW.out.mono ?_
  rintro e w1 ⟨rfl, rfl⟩
  go_wp2_with fail
  go_ret2
  exact ⟨_, rfl, Nat.le_refl _, by unfold SiAt; exact heap_alloc_new _ _, (Below.refl _ _).alloc (Nat.le_refl _) _⟩
set_option maxRecDepth 1000000 in
set_option maxHeartbeats 8000000 in
theorem shbegin_any (np tr : Nat) (h : 1 ≤ np ∧ np ≤ 64) (ht : 1 ≤ tr ∧ tr ≤ 8) (w : World) :
    Calls Try.prog 48 #[.int .i64 (np : Int), .int .i64 (tr : Int)] w fun e w' => ∃ p s zs, e = .returned (.tuple #[.pointer (some ⟨p, 0, none⟩), .pointer (some ⟨s, 0, none⟩)]) ∧ Sq w.heap.size w w' [] zs s ⟨p, 1, 1, np, tr⟩ (initS (np + 2) 0 2) w' := by
  have HW := Lib.hid (shwords_any np h w)
  have HH := Lib.hid (And.intro h ht)
  have hw : IntKind.i64.wrap ((np : Int) + 1 + 1) = ((np + 2 : Nat) : Int) := by rw [IntKind.wrap_i64]; omega
  clear h ht
  go_enter Try.func48, Try.ntmps48
  go_wp2_with fail
  go_at_call 85
  refine HW.out.mono ?_
  rintro e w1 ⟨rfl, rfl⟩
  go_wp2_with fail
  go_at_call 61
  try rw [hw]
  refine (memNew_any (np + 2) 0 2 (by have := HH.out; omega) (by decide) (by decide) _).mono ?_
  rintro e w1 ⟨p, τ, rfl, hm, htt, hb⟩
  have HZ := Lib.hid (memz_start (a := 0) (b := 0) (c := 0) hm htt hb)
  clear hm htt hb
  go_wp2_with fail
  go_at_call 86
  refine (shnew_any np tr HH.out.1 HH.out.2 p w1).mono ?_
  rintro e w2 ⟨g, rfl, hg, hr, hb⟩
  have HQ := Lib.hid (show Sq w.heap.size w w2 [] _ g ⟨p, 1, 1, np, tr⟩ (initS (np + 2) 0 2) w2 from
    ⟨Rg.memz_all HZ.out hb, hr, Rg.all_mem hg hr.lt, Nat.le_trans HZ.out.nl hg, by simp, by simp, Nat.le_refl _⟩)
  clear hr hb hg
  go_wp2_with fail
  go_ret2
  exact ⟨p, g, _, rfl, HQ.out⟩
/-! ### a Read begins -/
set_option maxRecDepth 1000000 in
set_option maxHeartbeats 8000000 in
theorem shidx_any (h : SiAt w s S) {v : Value} {l : List Int} (hv : Rr intK w v l) (hl : ∀ x ∈ l, 0 ≤ x ∧ x < S.np) :
    Calls Try.prog 115 #[v, .func (.func 89) #[.pointer (some ⟨s, 0, none⟩)] #[]] w fun r w' => r = .returned (.int .i64 (-1)) ∧ w = w' := by
  have HV := Lib.hid hv
  have HS := Lib.hid h
  have HL := Lib.hid hl
  obtain ⟨ao, cap, rfl, hv1, hv2⟩ := hv.form
  have hlm : l.length ≤ 9223372036854775807 := by omega
  clear hv h hl hv1
  go_enter Try.func115, Try.ntmps115
  go_wp2_with fail
  go_loopg [8] (l.length + 1) (fun k t wr => ∃ (i : Nat), i + k = l.length + 1 ∧ i ≤ l.length ∧ t = .int .i64 (i : Int) ∧ Hid (w = wr))
  case atStart => exact ⟨0, by omega, by omega, rfl, Lib.hid rfl⟩
  case round =>
    obtain ⟨i, hik, hil, rfl, HW⟩ := hrel
    obtain rfl := HW.out
    have HIK := Lib.hid hik
    have HIL := Lib.hid hil
    clear hik
    by_cases hlt : i < l.length
    · obtain ⟨x, hx⟩ : ∃ x, l[i]? = some x := ⟨_, List.getElem?_eq_getElem hlt⟩
      obtain ⟨b, off, rfl, hbl, qx⟩ := HV.out.at hx
      have c0 := at1 qx
      simp only [intK_k, Nat.mul_one] at c0
      have HB := Lib.hid (HL.out x (List.mem_of_getElem? hx))
      have hlt' : (i : Int) < (l.length : Int) := by omega
      have hi0 : (0 : Int) ≤ (i : Int) := Int.natCast_nonneg _
      have hw : IntKind.i64.wrap ((i : Int) + 1) = (i : Int) + 1 := by rw [IntKind.wrap_i64]; omega
      have HLT := Lib.hid hlt
      clear hx qx hbl hlt
      go_wp2_with fail
      go_at_call 89
      refine (shlacks_any HS.out HB.out.1 HB.out.2).mono ?_
      rintro e w2 ⟨rfl, rfl⟩
      go_wp2_with fail
      go_roundg (gk - 1)
      case measure => have := HIK.out; have := HLT.out; omega
      case rel => exact ⟨i + 1, by have := HIK.out; have := HLT.out; omega, by have := HLT.out; omega, by simp, Lib.hid rfl⟩
    · have hlt' : ¬ (i : Int) < (l.length : Int) := by omega
      clear hlt
      go_wp2_with fail
      go_ret
      exact ⟨rfl, rfl⟩
set_option maxRecDepth 1000000 in
set_option maxHeartbeats 8000000 in
theorem shloads_any (h : SaAt w a A) (hp : Rr intK w A.pv P) (hP : ∀ x ∈ P, 0 ≤ x ∧ x ≤ 1000) (hl : P.length ≤ 100) :
    Calls Try.prog 117 #[.pointer (some ⟨a, 0, none⟩)] w fun e w' => ∃ v, e = .returned v ∧ Own accK w' w.heap.size 164 v (P.map fun x => (0, x + 1)) ∧ Below w.heap.size w w' := by
  obtain ⟨i0, hi, hz0, hz1, hz2⟩ := info_partsP infoA
  have HP := Lib.hid hp
  have HPP := Lib.hid hP
  have HL := Lib.hid hl
  obtain ⟨c0, c1, c2, c3, c4, c5, c6, c7, c8, cf⟩ := h.cells
  obtain ⟨ao, cap, hv, hv1, hv2⟩ := hp.form
  rw [hv] at c3 HP
  have hlm : P.length ≤ 9223372036854775807 := by omega
  clear h hp hP hl hv hv1
  go_enter Try.func117, Try.ntmps117
  go_wp2_with fail
  go_loopg [3, 11] (P.length + 1) (fun k s t wr => ∃ (i : Nat) (sv : Value), sv = s ∧ i + k = P.length + 1 ∧ i ≤ P.length ∧ t = .int .i64 (i : Int) ∧ Hid (Own accK wr w.heap.size 164 sv ((P.take i).map fun x => (0, x + 1))) ∧ Hid (Below w.heap.size w wr))
  case atStart => exact ⟨0, _, rfl, by omega, by omega, rfl, Lib.hid (Own.nil _ _ _), Lib.hid (Below.refl _ _)⟩
  case round =>
    obtain ⟨i, sv, rfl, hik, hil, rfl, HO, HB⟩ := hrel
    have HIK := Lib.hid hik
    clear hik
    by_cases hlt : i < P.length
    · obtain ⟨x, hx⟩ : ∃ x, P[i]? = some x := ⟨_, List.getElem?_eq_getElem hlt⟩
      obtain ⟨b, off, rfl, hbl, qx⟩ := HP.out.at hx
      have c9 := at1 (qx.below HB.out hbl)
      simp only [intK_k, Nat.mul_one] at c9
      have hxb := HPP.out x (List.mem_of_getElem? hx)
      have hlt' : (i : Int) < (P.length : Int) := by omega
      have hi0 : (0 : Int) ≤ (i : Int) := Int.natCast_nonneg _
      have hw : IntKind.i64.wrap ((i : Int) + 1) = (i : Int) + 1 := by rw [IntKind.wrap_i64]; omega
      have hwx : IntKind.i64.wrap (x + 1) = x + 1 := by rw [IntKind.wrap_i64]; omega
      have HLT := Lib.hid hlt
      have HX := Lib.hid hx
      generalize hLi : ((P.take i).map fun x => ((0 : Int), x + 1)) = Li at *
      have hLl : Li.length ≤ 100 := by rw [← hLi]; simp; have := HL.out; omega
      have HLi := Lib.hid hLi
      have HLl := Lib.hid hLl
      have hown : wr.ownsRow w.heap.size 164 2 sv Li.length (accK.flat Li) := HO.out
      have hsz := HB.out.size
      clear hx qx hbl hlt hxb hLi hLl
      go_wp2_with (at_builtin; refine Batch.wpList_append_any _ rfl _ _ 157 157 rfl w.heap.size 164 164 i0 (.agg #[.int .i64 0, .int .i64 0]) 2 16 Try.underlying157 Try.underlying157 hi hz0 hz1 hz2 rfl (by decide) sv Li.length (accK.flat Li) rfl (hown.alloc _) (some ⟨wr.heap.size, 0, none⟩) 1 1 [.int .i64 0, .int .i64 (x + 1)] rfl rfl ?c1 ?c2 ?c3 ?c4 ?c5 ?_)
      case c1 => exact .inr ⟨_, rfl, World.news_of_block (cs := #[.int .i64 0, .int .i64 (x + 1)]) (heap_alloc_new wr _)⟩
      case c2 => intro y hy; simp at hy; rcases hy with rfl | rfl <;> rfl
      case c3 => have := HLl.out; unfold maxLen; omega
      case c4 => have := HLl.out; omega
      case c5 => simp; omega
      intro v' w6 hown6 hgrow hblk
      have hb6 : Below w.heap.size w w6 := (HB.out.alloc hsz _).grown hgrow (by simp; omega) (fun k e => (hown.lt k e).1)
      have hnew : Own accK w6 w.heap.size 164 v' (Li ++ [(0, x + 1)]) := by
        unfold Own
        rw [flat_append, List.length_append]
        exact hown6
      have HN6 : Hid (Own accK w6 w.heap.size 164 v' ((P.take (i + 1)).map fun x => (0, x + 1))) := Lib.hid (by
        rw [take_snoc HX.out, List.map_append, HLi.out]
        exact hnew)
      have HB6 := Lib.hid hb6
      clear hown hown6 hgrow hblk hb6 hnew hsz
      go_wp2_with fail
      go_roundg (gk - 1)
      case measure => have := HIK.out; have := HLT.out; omega
      case rel => exact ⟨i + 1, _, rfl, by have := HIK.out; have := HLT.out; omega, by have := HLT.out; omega, by simp, HN6, HB6⟩
    · have hie : i = P.length := by omega
      subst hie
      have hlt' : ¬ ((P.length : Int) < (P.length : Int)) := by omega
      have HOE : Hid (Own accK wr w.heap.size 164 sv (P.map fun x => (0, x + 1))) := Lib.hid (by have := HO.out; rwa [List.take_length] at this)
      clear hlt
      go_wp2_with fail
      go_ret
      exact ⟨_, rfl, HOE.out, HB.out⟩
def tryD (P : List Int) : List (Int × Int) := (0, 0) :: ((P.map fun x => (0, x + 1)) ++ [(0, 0)])
end
end Go.Proofs.Ytjmkcgkkgamafaa.Sh
