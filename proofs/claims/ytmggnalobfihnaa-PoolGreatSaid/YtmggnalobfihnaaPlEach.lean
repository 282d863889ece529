/-
  PACKAGE pool: each; the library's Concat of five lists; a Pool beside its Mem, an act in the making.
-/
import Derived.Test.YtmggnalobfihnaaPlMem
import Derived.Test.YtmggnalobfihnaaJoined1
namespace Go.Proofs.Ytmggnalobfihnaa.Pl
open Go.RowKit Rw Pk Go.Maps Mm
set_option linter.unusedVariables false
theorem infoIP : (Try.prog.info? 3).map (fun i => (i.zero, i.size, i.bytes)) = some (some (.int .i64 0), intK.k, 8) := by kernel_rfl
theorem infoCP : (Try.prog.info? 58).map (fun i => (i.zero, i.size, i.bytes)) = some (some (.agg #[.int .i64 0, .int .u64 0, .int .i64 0]), 3, 24) := by kernel_rfl
section
variable {w w' w1 : World} {S : Pi} {A A' : Pa} {n a s p i : Nat} {w0 wr : World} {fs fs' zs : List Nat} {P : List Int} {D D' : List (Int × Int)} {B B' : Nat → List Batch.Ch} {T : List Batch.Ch} {M M' : Mm.St}
set_option maxRecDepth 1000000 in
set_option maxHeartbeats 8000000 in
theorem pleach_any (h : PaAt w a A) (hp : Rr intK w A.sv P) (hl : P.length ≤ 100) (q : Int) :
    Calls Try.prog 31 #[.pointer (some ⟨a, 0, none⟩), .int .i64 q] w fun e w' => ∃ v, e = .returned v ∧ Own accK w' w.heap.size 76 v (P.map fun x => (q, x)) ∧ Below w.heap.size w w' := by
  obtain ⟨i0, hi, hz0, hz1, hz2⟩ := info_partsP infoA
  have HP := Lib.hid hp
  have HL := Lib.hid hl
  obtain ⟨c0, c1, c2, c3, c12, c13, c14, c15, c16, cf⟩ := h.cells
  obtain ⟨ao, cap, hv, hv1, hv2⟩ := hp.form
  rw [hv] at c3 HP
  have hlm : P.length ≤ 9223372036854775807 := by omega
  clear h hp hl hv hv1
  go_enter Try.func31, Try.ntmps31
  go_wp2_with fail
  go_loopg [5, 13] (P.length + 1) (fun k s t wr => ∃ (i : Nat) (sv : Value), sv = s ∧ i + k = P.length + 1 ∧ i ≤ P.length ∧ t = .int .i64 (i : Int) ∧ Hid (Own accK wr w.heap.size 76 sv ((P.take i).map fun x => (q, x))) ∧ Hid (Below w.heap.size w wr))
  case atStart => exact ⟨0, _, rfl, by omega, by omega, rfl, Lib.hid (Own.nil _ _ _), Lib.hid (Below.refl _ _)⟩
  case round =>
    obtain ⟨i, sv, rfl, hik, hil, rfl, HO, HB⟩ := hrel
    have HIK := Lib.hid hik
    clear hik
    by_cases hlt : i < P.length
    · obtain ⟨x, hx⟩ : ∃ x, P[i]? = some x := ⟨_, List.getElem?_eq_getElem hlt⟩
      obtain ⟨b, off, rfl, hbl, qx⟩ := HP.out.at hx
      have c9 := at1 (qx.below HB.out hbl)
      simp only [intK_k, Nat.mul_one] at c9
      have hlt' : (i : Int) < (P.length : Int) := by omega
      have hi0 : (0 : Int) ≤ (i : Int) := Int.natCast_nonneg _
      have hw : IntKind.i64.wrap ((i : Int) + 1) = (i : Int) + 1 := by rw [IntKind.wrap_i64]; omega
      have HLT := Lib.hid hlt
      have HX := Lib.hid hx
      generalize hLi : ((P.take i).map fun x => (q, x)) = Li at *
      have hLl : Li.length ≤ 100 := by rw [← hLi]; simp; have := HL.out; omega
      have HLi := Lib.hid hLi
      have HLl := Lib.hid hLl
      have hown : wr.ownsRow w.heap.size 76 2 sv Li.length (accK.flat Li) := HO.out
      have hsz := HB.out.size
      clear hx qx hbl hlt hLi hLl
      go_wp2_with (at_builtin; refine Batch.wpList_append_any _ rfl _ _ 69 69 rfl w.heap.size 76 76 i0 (.agg #[.int .i64 0, .int .i64 0]) 2 16 Try.underlying69 Try.underlying69 hi hz0 hz1 hz2 rfl (by decide) sv Li.length (accK.flat Li) rfl (hown.alloc _) (some ⟨wr.heap.size, 0, none⟩) 1 1 [.int .i64 q, .int .i64 x] rfl rfl ?c1 ?c2 ?c3 ?c4 ?c5 ?_)
      case c1 => exact .inr ⟨_, rfl, World.news_of_block (cs := #[.int .i64 q, .int .i64 x]) (heap_alloc_new wr _)⟩
      case c2 => intro y hy; simp at hy; rcases hy with rfl | rfl <;> rfl
      case c3 => have := HLl.out; unfold maxLen; omega
      case c4 => have := HLl.out; omega
      case c5 => simp; omega
      intro v' w6 hown6 hgrow hblk
      have hb6 : Below w.heap.size w w6 := (HB.out.alloc hsz _).grown hgrow (by simp; omega) (fun k e => (hown.lt k e).1)
      have hnew : Own accK w6 w.heap.size 76 v' (Li ++ [(q, x)]) := by
        unfold Own
        rw [flat_append, List.length_append]
        exact hown6
      have HN6 : Hid (Own accK w6 w.heap.size 76 v' ((P.take (i + 1)).map fun x => (q, x))) := Lib.hid (by
        rw [take_snoc HX.out, List.map_append, HLi.out]
        exact hnew)
      have HB6 := Lib.hid hb6
      clear hown hown6 hgrow hblk hb6 hnew hsz
      go_wp2_with fail
      go_roundg (gk - 1)
      case measure => have := HIK.out; have := HLT.out; omega
      case rel => exact ⟨i + 1, _, rfl, by have := HIK.out; have := HLT.out; omega, by have := HLT.out; omega, by simp, HN6, HB6⟩
    · have hie : i = P.length := by omega
      subst hie
      have hlt' : ¬ ((P.length : Int) < (P.length : Int)) := by omega
      have HOE : Hid (Own accK wr w.heap.size 76 sv (P.map fun x => (q, x))) := Lib.hid (by have := HO.out; rwa [List.take_length] at this)
      clear hlt
      go_wp2_with fail
      go_ret
      exact ⟨_, rfl, HOE.out, HB.out⟩
theorem concat5_any {w : World} {t : TypeId} {s1 s2 s3 s4 s5 : Sv} {L1 L2 L3 L4 L5 : List (Int × Int)} (h1 : Rr accK w s1.val L1) (h2 : Rr accK w s2.val L2) (h3 : Rr accK w s3.val L3) (h4 : Rr accK w s4.val L4) (h5 : Rr accK w s5.val L5) (hn : L1.length + L2.length + L3.length + L4.length + L5.length ≤ 1000) :
    Calls Try.prog 30 #[.slice (some ⟨w.heap.size, 0, none⟩) 5 5] (w.alloc (.cells #[s1.val, s2.val, s3.val, s4.val, s5.val] t)) fun e w' => ∃ v, e = .returned v ∧ Own accK w' w.heap.size 76 v (L1 ++ L2 ++ L3 ++ L4 ++ L5) ∧ Below w.heap.size w w' := by
  have hh := heap_alloc_new w (.cells #[s1.val, s2.val, s3.val, s4.val, s5.val] t)
  have hb : Below w.heap.size w (w.alloc (.cells #[s1.val, s2.val, s3.val, s4.val, s5.val] t)) := (Below.refl _ _).alloc (Nat.le_refl _) _
  refine (concat_any (g := w.heap.size) (ss := [s1, s2, s3, s4, s5]) (P := [L1, L2, L3, L4, L5]) ?_ rfl ?_ (by unfold lens; simp; omega) (by simp)).mono ?_
  · intro j s hs
    refine (cell_of_row _ _ _ _ _ _ hh).trans ?_
    match j, hs with
    | 0, hs => simp at hs; subst hs; rfl
    | 1, hs => simp at hs; subst hs; rfl
    | 2, hs => simp at hs; subst hs; rfl
    | 3, hs => simp at hs; subst hs; rfl
    | 4, hs => simp at hs; subst hs; rfl
    | k + 5, hs => simp at hs
  · intro j s l hs hl
    match j, hs, hl with
    | 0, hs, hl => simp at hs hl; subst hs hl; exact h1.below hb
    | 1, hs, hl => simp at hs hl; subst hs hl; exact h2.below hb
    | 2, hs, hl => simp at hs hl; subst hs hl; exact h3.below hb
    | 3, hs, hl => simp at hs hl; subst hs hl; exact h4.below hb
    | 4, hs, hl => simp at hs hl; subst hs hl; exact h5.below hb
    | k + 5, hs, _ => simp at hs
  · rintro e w' ⟨v, rfl, ho, hb'⟩
    refine ⟨v, rfl, ?_, hb.trans (hb'.mono hb.size)⟩
    have := ho.mono hb.size
    simpa using this
/-! ### a Pool beside its Mem -/
structure Pq (n : Nat) (w0 wr : World) (fs zs : List Nat) (s : Nat) (S : Pi) (M : Mm.St) (w : World) : Prop where
  mz : Mm.MemZ n w0 zs S.p M w
  pi : PiAt w s S
  sm : s ∈ zs
  fz : ∀ j ∈ fs, j ∈ zs
  fr : ∀ j ∈ fs, w.heap[j]? = wr.heap[j]?
  sz : wr.heap.size ≤ w.heap.size
theorem Pg.pq (h : Pg n w0 wr fs zs a s S A P D B T M w) (ha : a ∉ fs) : Pq n w0 wr fs zs s S M w := ⟨h.mz, h.pi, h.sm, h.fz, fun j hj => h.fr j hj (fun e => ha (e ▸ hj)), h.sz⟩
theorem Pq.call (h : Pq n w0 wr fs zs s S M w) (hm : Mm.MemZ n w0 zs S.p M' w') (hk : Mm.KeepB n zs w w') : Pq n w0 wr fs zs s S M' w' :=
  ⟨hm, h.pi.of_block (hk.2 _ (.inr h.sm)), h.sm, h.fz, fun j hj => (hk.2 j (.inr (h.fz j hj))).trans (h.fr j hj), Nat.le_trans h.sz hk.1⟩
theorem Pq.below (h : Pq n w0 wr fs zs s S M w) (hb : Below w.heap.size w w') : Pq n w0 wr fs zs s S M w' := h.call (h.mz.below hb) (h.mz.keep hb)
theorem Pq.rebase (h : Pq n w0 wr fs zs s S M w) {fs' : List Nat} (hf : ∀ j ∈ fs', j ∈ zs) : Pq n w0 w fs' zs s S M w := ⟨h.mz, h.pi, h.sm, hf, fun _ _ => rfl, Nat.le_refl _⟩
theorem Pq.all (h : Pq n w0 wr fs zs s S M w) (hb : Below w.heap.size w w') : Pq n w0 wr fs (List.range' w.heap.size (w'.heap.size - w.heap.size) ++ zs) s S M w' := by
  have hq := h.below hb
  exact ⟨blk_all h.mz hb, hq.pi, blk_old _ hq.sm, fun j hj => blk_old _ (hq.fz j hj), hq.fr, hq.sz⟩
/-- An act in the making. -/
structure Pb (w wr : World) (a : Nat) (A : Pa) (P : List Int) (B : Nat → List Batch.Ch) : Prop where
  pa : PaAt wr a A
  sv : Own intK wr w.heap.size 3 A.sv P
  bx : ∀ i, i < 8 → Batch.Own wr w.heap.size 58 (A.bx i) (B i)
  bel : Below w.heap.size w wr
  ha : w.heap.size ≤ a
  ns : A.sv.ownBlock ≠ some a
  nb : ∀ i, i < 8 → (A.bx i).ownBlock ≠ some a
  dis : ∀ i j, i < 8 → j < 8 → i ≠ j → ∀ g, (A.bx i).ownBlock = some g → (A.bx j).ownBlock ≠ some g
  dsv : ∀ i, i < 8 → ∀ g, (A.bx i).ownBlock = some g → A.sv.ownBlock ≠ some g
theorem Pb.more (h : Pb w wr a A P B) {w2 : World} (hb : Below wr.heap.size wr w2) : Pb w w2 a A P B :=
  ⟨h.pa.of_block (hb.block _ h.pa.lt), h.sv.below hb, fun i hi => (h.bx i hi).below hb, h.bel.trans (hb.mono h.bel.size), h.ha, h.ns, h.nb, h.dis, h.dsv⟩
theorem Pb.addB (h : Pb w wr a A P B) (hi : i < 8) {v : Value} {l : List Batch.Ch} (hg : wr.grownBy w1 (A.bx i).ownBlock) (ho : Batch.Own w1 w.heap.size 58 v l) (hv : ∀ g, v.ownBlock = some g → (A.bx i).ownBlock = some g ∨ wr.heap.size ≤ g) :
    Pb w (w1.setCell ⟨a, 4 + i, none⟩ v) a (A.box i v) P (boxB B i l) := by
  have hal := h.pa.lt
  have hblt : ∀ j, j < 8 → ∀ k, (A.bx j).ownBlock = some k → w.heap.size ≤ k ∧ k < wr.heap.size := fun j hj k e => World.ownsRow.lt (h.bx j hj) k e
  have hslt : ∀ k, A.sv.ownBlock = some k → w.heap.size ≤ k ∧ k < wr.heap.size := fun k e => World.ownsRow.lt h.sv k e
  have hva : v.ownBlock ≠ some a := fun e => by
    rcases hv a e with e' | e'
    · exact h.nb i hi e'
    · omega
  have hk : ∀ j, j < wr.heap.size → (A.bx i).ownBlock ≠ some j → w1.heap[j]? = wr.heap[j]? := fun j hj hn => hg.block j hj (fun e => hn e.symm)
  refine ⟨(h.pa.of_block (hk a hal (h.nb i hi))).setBox hi v, ?_, fun j hj => ?_, (h.bel.grown hg h.bel.size (fun k e => (hblt i hi k e).1)).setCell h.ha v, h.ha, h.ns, fun j hj => ?_, fun j j' hj hj' hne g hgj => ?_, fun j hj g hgj => ?_⟩
  · exact blk_own (blk_own h.sv (fun g hgg => hk g (hslt g hgg).2 (fun e => h.dsv i hi g e hgg))) (fun g hgg => Below.heap_setCell _ _ _ _ (fun (e : g = a) => h.ns (e ▸ hgg)))
  · unfold Pa.box boxB
    by_cases e : j = i
    · simp only [if_pos e]
      exact blk_own ho (fun g hgg => Below.heap_setCell _ _ _ _ (fun (e : g = a) => hva (e ▸ hgg)))
    · simp only [if_neg e]
      exact blk_own (blk_own (h.bx j hj) (fun g hgg => hk g (hblt j hj g hgg).2 (fun e' => h.dis j i hj hi e g hgg e'))) (fun g hgg => Below.heap_setCell _ _ _ _ (fun (e : g = a) => h.nb j hj (e ▸ hgg)))
  · unfold Pa.box
    by_cases e : j = i
    · simp only [if_pos e]; exact hva
    · simp only [if_neg e]; exact h.nb j hj
  · unfold Pa.box at hgj ⊢
    by_cases e : j = i
    · by_cases e' : j' = i
      · omega
      · simp only [if_pos e] at hgj
        simp only [if_neg e']
        rcases hv g hgj with q | q
        · exact h.dis i j' hi hj' (fun x => e' x.symm) g q
        · exact fun q' => by have := (hblt j' hj' g q').2; omega
    · simp only [if_neg e] at hgj
      by_cases e' : j' = i
      · simp only [if_pos e']
        intro q
        rcases hv g q with q | q
        · exact h.dis j i hj hi e g hgj q
        · have := (hblt j hj g hgj).2; omega
      · simp only [if_neg e']
        exact h.dis j j' hj hj' hne g hgj
  · unfold Pa.box at hgj ⊢
    by_cases e : j = i
    · simp only [if_pos e] at hgj
      rcases hv g hgj with q | q
      · exact h.dsv i hi g q
      · exact fun q' => by have := (hslt g q').2; omega
    · simp only [if_neg e] at hgj
      exact h.dsv j hj g hgj
theorem Pb.addS (h : Pb w wr a A P B) {v : Value} {l : List Int} (hg : wr.grownBy w1 A.sv.ownBlock) (ho : Own intK w1 w.heap.size 3 v l) (hv : ∀ g, v.ownBlock = some g → A.sv.ownBlock = some g ∨ wr.heap.size ≤ g) :
    Pb w (w1.setCell ⟨a, 3, none⟩ v) a { A with sv := v } l B := by
  have hal := h.pa.lt
  have hblt : ∀ j, j < 8 → ∀ k, (A.bx j).ownBlock = some k → w.heap.size ≤ k ∧ k < wr.heap.size := fun j hj k e => World.ownsRow.lt (h.bx j hj) k e
  have hslt : ∀ k, A.sv.ownBlock = some k → w.heap.size ≤ k ∧ k < wr.heap.size := fun k e => World.ownsRow.lt h.sv k e
  have hva : v.ownBlock ≠ some a := fun e => by
    rcases hv a e with e' | e'
    · exact h.ns e'
    · omega
  have hk : ∀ j, j < wr.heap.size → A.sv.ownBlock ≠ some j → w1.heap[j]? = wr.heap[j]? := fun j hj hn => hg.block j hj (fun e => hn e.symm)
  refine ⟨(h.pa.of_block (hk a hal h.ns)).set3 v, blk_own ho (fun g hgg => Below.heap_setCell _ _ _ _ (fun (e : g = a) => hva (e ▸ hgg))), fun j hj => ?_, (h.bel.grown hg h.bel.size (fun k e => (hslt k e).1)).setCell h.ha v, h.ha, hva, h.nb, h.dis, fun j hj g hgj => ?_⟩
  · exact blk_own (blk_own (h.bx j hj) (fun g hgg => hk g (hblt j hj g hgg).2 (h.dsv j hj g hgg))) (fun g hgg => Below.heap_setCell _ _ _ _ (fun (e : g = a) => h.nb j hj (e ▸ hgg)))
  · intro q
    rcases hv g q with q | q
    · exact h.dsv j hj g hgj q
    · have := (hblt j hj g hgj).2; omega
/-- A new act, whole. -/
theorem Pq.act (h : Pq n w0 wr fs zs s S M w) (hp : Pb w w' a A P B) (hs : A.s = s) {v : Value} {w2 : World} (hb2 : Below w'.heap.size w' w2) (hd : Own accK w2 w'.heap.size 76 v D) (hwf : ∀ x ∈ D, accK.wf x) (hwP : ∀ x ∈ P, intK.wf x) (hwB : ∀ j, j < 8 → ∀ x ∈ B j, x.Wf) (ht : A.tk = .slice none 0 0) :
    ∃ zs', (∀ j ∈ zs, j ∈ zs') ∧ (∀ j ∈ zs', j ∈ zs ∨ w.heap.size ≤ j) ∧ (∀ g, Blk { A with dv := v } g → w.heap.size ≤ g) ∧ Pg n w0 wr fs zs' a s S { A with dv := v } P D B [] M (w2.setCell ⟨a, 12, none⟩ v) := by
  have hp2 := hp.more hb2
  have hbel := hp2.bel
  have hq := h.below hbel
  have hlt := blk_lt h.mz
  have h1 := h.pi.lt
  have h2 := h.mz.nl
  have h3 := hp2.pa.lt
  have hsz := hp.bel.size
  have hbl : ∀ g, Blk { A with dv := v } g → w.heap.size ≤ g ∧ g < w2.heap.size ∧ g ≠ a := by
    intro g hg
    rcases hg with hg | hg | hg | ⟨i, hi, hg⟩
    · exact ⟨(World.ownsRow.lt hp2.sv g hg).1, (World.ownsRow.lt hp2.sv g hg).2, fun e => hp2.ns (e ▸ hg)⟩
    · have q := World.ownsRow.lt hd g hg
      exact ⟨by omega, q.2, fun e => by have := hp.pa.lt; omega⟩
    · have hg' : A.tk.ownBlock = some g := hg
      rw [ht] at hg'
      simp [Value.ownBlock] at hg'
    · exact ⟨(World.ownsRow.lt (hp2.bx i hi) g hg).1, (World.ownsRow.lt (hp2.bx i hi) g hg).2, fun e => hp2.nb i hi (e ▸ hg)⟩
  have hz : w2.heap.size ≤ (w2.setCell ⟨a, 12, none⟩ v).heap.size := Nat.le_of_eq (Mm.size_setCell _ _ _).symm
  have hk : ∀ j, j ≠ a → (w2.setCell ⟨a, 12, none⟩ v).heap[j]? = w2.heap[j]? := fun j hj => Below.heap_setCell _ _ _ _ hj
  have hfa : ∀ j ∈ zs, j ≠ a := fun j hj e => by have := hlt j hj; have := hp.ha; omega
  have hmz := blk_all h.mz hbel
  have ham : a ∈ List.range' w.heap.size (w2.heap.size - w.heap.size) ++ zs := blk_mem hp.ha h3
  refine ⟨_, blk_old, blk_inv, fun g hg => (hbl g hg).1, hmz.store ham (by have := hp.ha; omega) 12 v, hq.pi.of_block (hk s (hfa s h.sm)), hp2.pa.set12 v, ham, blk_old _ h.sm, by have := hp.ha; omega, Ne.symm (hfa s h.sm), hs, ?_, ?_, fun i hi => ?_, ?_, fun g hg => ⟨blk_mem (hbl g hg).1 (hbl g hg).2.1, (hbl g hg).2.2⟩, fun j hj => blk_old _ (h.fz j hj), fun j hj hja => (hk j hja).trans (hq.fr j hj), Nat.le_trans hq.sz hz⟩
  · exact blk_rr (hp2.sv.sl hwP).rr hz (fun g hg => hk g (hbl g (.inl hg)).2.2)
  · exact blk_rr (hd.sl hwf).rr hz (fun g hg => hk g (hbl g (.inr (.inl hg))).2.2)
  · exact blk_sl ((hp2.bx i hi).sl (hwB i hi)) (fun g hg => hk g (hbl g (.inr (.inr (.inr ⟨i, hi, hg⟩)))).2.2)
  · show Batch.Sl _ A.tk []
    rw [ht]
    exact Batch.Sl.nil _
end
end Go.Proofs.Ytmggnalobfihnaa.Pl
