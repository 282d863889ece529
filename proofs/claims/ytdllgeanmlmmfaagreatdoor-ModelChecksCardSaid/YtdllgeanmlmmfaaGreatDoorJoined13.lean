/-
  PACKAGE model: All: what all hold.
  PACKAGE model: comeIn.
-/
import Derived.Test.YtdllgeanmlmmfaaGreatDoorJoined4
import Derived.Test.YtdllgeanmlmmfaaGreatDoorClAll
import Derived.WalkLawsBesides
import Derived.StillTactics
namespace Go.Proofs.YtdllgeanmlmmfaaGreatDoor.Md
open Go.RowKit Gr Cl
set_option linter.unusedVariables false
set_option linter.unusedSimpArgs false

abbrev Hb := List Ed × List Batch.Ch
/-- What all hold. -/
def allM (L : List Hb) : List Batch.Ch := L.foldl (fun acc x => Batch.sumsR (acc ++ allL x.1 x.2)) []
theorem allM_snoc (L : List Hb) (x : Hb) : allM (L ++ [x]) = Batch.sumsR (allM L ++ allL x.1 x.2) := by unfold allM; rw [List.foldl_append]; rfl
theorem sumsR_rise {l : List Batch.Ch} (h : ∀ x ∈ l, x.Wf) : (Batch.sumsR l).Pairwise Batch.Lt := by
  unfold Batch.sumsR
  split
  · exact List.Pairwise.nil
  · exact (Batch.sumL_is h).1
/-- Few of each; all as they may be. -/
structure FewL (N : Nat) (L : List Hb) : Prop where
  few : ∀ x ∈ L, x.1.length ≤ N ∧ x.2.length ≤ N
  wf : ∀ x ∈ L, (∀ e ∈ x.1, e.Wf) ∧ ∀ e ∈ x.2, e.Wf
theorem allM_good {N : Nat} : ∀ {L : List Hb}, FewL N L → (allM L).Pairwise Batch.Lt ∧ (∀ x ∈ allM L, x.Wf) ∧ (allM L).length ≤ L.length * (2 * N) := by
  intro L h
  suffices H : ∀ (r : List Hb) (acc : List Batch.Ch) (k : Nat), FewL N r → acc.Pairwise Batch.Lt → (∀ x ∈ acc, x.Wf) → acc.length ≤ k → let z := r.foldl (fun acc x => Batch.sumsR (acc ++ allL x.1 x.2)) acc; z.Pairwise Batch.Lt ∧ (∀ x ∈ z, x.Wf) ∧ z.length ≤ k + r.length * (2 * N) by
    have := H L [] 0 h List.Pairwise.nil (by simp) (by simp)
    simpa [allM] using this
  intro r
  induction r with
  | nil => intro acc k _ h1 h2 h3; exact ⟨h1, h2, by simpa using h3⟩
  | cons x r ih =>
    intro acc k hf h1 h2 h3
    have hx := hf.few x (List.mem_cons_self ..)
    have hw := hf.wf x (List.mem_cons_self ..)
    have hwa : ∀ y ∈ acc ++ allL x.1 x.2, y.Wf := Batch.both_wf h2 (all_wf hw.1 hw.2)
    have hl := Batch.sumsR_length (acc ++ allL x.1 x.2)
    have ha := all_length (H := x.1) (B := x.2)
    rw [List.length_append] at hl
    have := ih (Batch.sumsR (acc ++ allL x.1 x.2)) (k + 2 * N) ⟨fun y hy => hf.few y (List.mem_cons_of_mem _ hy), fun y hy => hf.wf y (List.mem_cons_of_mem _ hy)⟩ (sumsR_rise hwa) (Batch.sumsR_wf hwa) (by omega)
    refine ⟨this.1, this.2.1, ?_⟩
    have h4 := this.2.2
    simp only [List.foldl_cons, List.length_cons, Nat.add_mul, Nat.one_mul]
    generalize r.length * (2 * N) = q at h4 ⊢
    omega
theorem lt_sorted {l : List Batch.Ch} (h : l.Pairwise Batch.Lt) : Batch.Sorted l := h.imp fun h => h.asymm
theorem take_succM {l : List Hb} {i : Nat} {x : Hb} (h : l[i]? = some x) : l.take (i + 1) = l.take i ++ [x] := by rw [List.take_add_one, h]; rfl
theorem FewL.take {N : Nat} {L : List Hb} (h : FewL N L) (i : Nat) : FewL N (L.take i) := ⟨fun x hx => h.few x (List.mem_of_mem_take hx), fun x hx => h.wf x (List.mem_of_mem_take hx)⟩
set_option maxRecDepth 1000000 in
set_option maxHeartbeats 16000000 in
theorem mdAll_any {w : World} {b : Nat} {c : Mc} {tv : List Tv} {L : List Hb} (hm : McAt w b c) (hrow : Rw.Own thK w 0 95 (.slice c.th c.n c.cth) tv) (hn : c.n = tv.length) (hL : L.length = tv.length) (hs : ∀ (i : Nat) t x, tv[i]? = some t → L[i]? = some x → Sl w t.h.val x.1 ∧ Batch.Sl w t.b.val x.2) (hf : FewL 5000 L) (h1 : 0 < L.length) (h8 : L.length ≤ 8) :
    Calls Tryz.prog 12 #[.pointer (some ⟨b, 0, none⟩)] w fun e w' => ∃ v, e = .returned v ∧ Batch.Own w' w.heap.size 103 v (allM L) ∧ Below w.heap.size w w' := by
  obtain ⟨g, hth, _, _⟩ := th_form hrow (show 0 < tv.length by omega)
  obtain ⟨vp, room, vt, th, n, cth, pool, staged, folded, sh, p, csh, cl⟩ := c
  dsimp only at hrow hn hth
  subst hth
  have HM := Lib.hid hm
  have HROW := Lib.hid hrow
  have HS := Lib.hid hs
  have HF := Lib.hid hf
  have HLL := Lib.hid (And.intro hL h8)
  have c3 := hm.c3
  dsimp only at c3
  have hcn : (n : Int) ≤ 8 := by omega
  have HCN := Lib.hid hn
  clear hm hrow hs hf hL h8 h1 hn
  go_enter Tryz.func12, Tryz.ntmps12
  go_wp2_with fail
  clear c3
  go_loopg [3, 13] n (fun k s3 s13 wr => ∃ i : Nat, i + k = n ∧ s13 = .int .i64 i ∧ Batch.Own wr w.heap.size 103 s3 (allM (L.take i)) ∧ Below w.heap.size w wr)
  case atStart => exact ⟨0, by omega, rfl, Batch.Own.nil _ _ _, Below.refl _ _⟩
  case round =>
    obtain ⟨i, hik, rfl, hown, hbw⟩ := hrel
    have HIK := Lib.hid hik
    have HO := Lib.hid hown
    have HBW := Lib.hid hbw
    clear hik hown hbw
    have hi0 : (0 : Int) ≤ (i : Int) := Int.natCast_nonneg _
    by_cases hlt : i < n
    · have hi1 : (i : Int) < (n : Int) := by omega
      have hil : i < tv.length := by rw [← HCN.out]; exact hlt
      obtain ⟨t, ht⟩ : ∃ t, tv[i]? = some t := ⟨_, List.getElem?_eq_getElem hil⟩
      obtain ⟨x, hx⟩ : ∃ x, L[i]? = some x := ⟨_, List.getElem?_eq_getElem (by rw [HLL.out.1]; exact hil)⟩
      obtain ⟨e0, e1, e2, e3, _⟩ := th_cells (HROW.out.below HBW.out) ht
      unfold Sx.val at e0 e1 e2 e3
      have hsx := HS.out i t x ht hx
      have HX1 := Lib.hid (show Sl wr (.slice t.h.a t.h.n t.h.c) x.1 from hsx.1.below HBW.out)
      have HX2 := Lib.hid (show Batch.Sl wr (.slice t.b.a t.b.n t.b.c) x.2 from hsx.2.below HBW.out)
      have HX := Lib.hid hx
      have HLT := Lib.hid hlt
      have hfx := HF.out.few x (List.mem_of_getElem? hx)
      have HFX := Lib.hid hfx
      clear hsx hx hlt hfx hil ht
      go_wp2_with fail
      go_at_call 42
      obtain ⟨w2, hw2⟩ : ∃ w2, w2 = wr.alloc (.cells #[.slice t.h.a t.h.n t.h.c, .slice t.b.a t.b.n t.b.c, .slice t.o.a t.o.n t.o.c, .slice t.r.a t.r.n t.r.c] 95) := ⟨_, rfl⟩
      rw [← hw2]
      have hb2 : Below wr.heap.size wr w2 := by rw [hw2]; exact (Below.refl _ _).alloc (Nat.le_refl _) _
      have hs2 : wr.heap.size ≤ w2.heap.size := hb2.size
      clear hw2
      refine (all_any (HX1.out.below hb2) (HX2.out.below hb2) (by have := HFX.out; omega) (by have := HFX.out; omega)).mono ?_
      rintro e w3 ⟨v3, rfl, ho3, hb3⟩
      have hwx := HF.out.wf x (List.mem_of_getElem? HX.out)
      have hb13 : Below wr.heap.size wr w3 := hb2.trans (hb3.mono hs2)
      have HB3 := Lib.hid hb13
      have hg := allM_good (HF.out.take i)
      have hsl3 := ho3.sl (all_wf hwx.1 hwx.2)
      have hsla := (HO.out.below hb13).sl hg.2.1
      have HC := Lib.hid (Batch.merge_any hsla hsl3 (lt_sorted hg.1) (lt_sorted (all_rise hwx.1 hwx.2)) (by
        have h1 := all_length (H := x.1) (B := x.2)
        have h2 := HFX.out
        have h3 := hg.2.2
        have h4 := HLL.out.2
        rw [List.length_take] at h3
        have h5 : min i L.length * (2 * 5000) ≤ 8 * (2 * 5000) := Nat.mul_le_mul_right _ (by omega)
        omega))
      obtain ⟨a3, c3, e3, _⟩ := id hsl3
      clear hb2 hs2 ho3 hb3 hwx hb13 hg hsl3 hsla
      subst e3
      go_wp2_with fail
      go_at_call 41
      refine HC.out.mono ?_
      rintro e w4 ⟨v4, rfl, ho4, hb4⟩
      have HO4 := Lib.hid (show Batch.Own w4 w.heap.size 103 v4 (allM (L.take (i + 1))) by
        rw [take_succM HX.out, allM_snoc]
        exact ho4.mono (Nat.le_trans HBW.out.size HB3.out.size))
      have HB4 := Lib.hid (HBW.out.trans ((HB3.out.trans (hb4.mono HB3.out.size)).mono HBW.out.size))
      clear ho4 hb4
      go_wp2_with fail
      go_roundg (gk - 1)
      case measure => have := HIK.out; have := HLT.out; omega
      case rel => exact ⟨i + 1, by have := HIK.out; have := HLT.out; omega, by go_num, HO4.out, HB4.out⟩
    · have hd1 : decide ((i : Int) < (n : Int)) = false := decide_eq_false (by omega)
      have hd2 : decide (i < n) = false := decide_eq_false hlt
      have HO2 := Lib.hid (show Batch.Own wr w.heap.size 103 u3 (allM L) by have := HO.out; rwa [List.take_of_length_le (by have h1 := HLL.out.1; have h2 := HCN.out; omega)] at this)
      clear HO
      go_wp2_with fail
      go_ret
      exact ⟨_, rfl, HO2.out, HBW.out⟩
end Go.Proofs.YtdllgeanmlmmfaaGreatDoor.Md
namespace Go.Proofs.YtdllgeanmlmmfaaGreatDoor.Md
open Go.RowKit Gr
set_option linter.unusedVariables false
set_option linter.unusedSimpArgs false
theorem McAt.c2 {w : World} {b : Nat} {c : Mc} (h : McAt w b c) : w.cell? ⟨b, 2, none⟩ = some c.vt := by unfold McAt at h; simp [World.cell?, h]
def MkD (p : Prop) : Prop := p
theorem mk_ofD {p : Prop} (h : MkD p) : p := h
theorem MkD.out {p : Prop} (h : p) : MkD p := h
set_option maxRecDepth 1000000 in
set_option maxHeartbeats 16000000 in
theorem mdCome_any {τ : Nat → Nat} {w : World} {b : Nat} {c : Mc} {tv : List Tv} {I : List Int} {T i j : Nat} (h : NwAt τ w b c tv I T i) (hij : i % T = j) (hjT : j < T) (hi : i < 64) :
    Calls Tryz.prog 30 #[.pointer (some ⟨b, 0, none⟩), .int .i64 (j : Int), .int .i64 (I.getD i 0)] w fun e w' => e = .returned (.tuple #[]) ∧ ∃ τ' vt tv', NwAt τ' w' b { c with vt := vt } tv' I T (i + 1) ∧ StepM τ τ' w w' := by
  obtain ⟨i0, hi0, hz0, hz1, hz2⟩ := Gr.info_parts infoHd
  have hjl : j < tv.length := by rw [h.nT]; exact hjT
  obtain ⟨g, hth, hnn, hgl⟩ := th_form h.row hjl
  obtain ⟨t, ht⟩ : ∃ t, tv[j]? = some t := ⟨_, List.getElem?_eq_getElem hjl⟩
  have HT := Lib.hid (show Calls Tryz.prog 62 #[c.vt] w fun e w' => ∃ v', e = .returned (.tuple #[v', .int .i64 (i : Int), .bool true]) ∧ Rw.Own Tb.slK w' w.heap.size 173 v' (tabN (i + 1)) ∧ Below w.heap.size w w' by
    have := Tb.take_yes h.tab.out (tabN_free hi) (j := i) (g := 0) (by rw [tabN_at hi, decide_eq_false (Nat.lt_irrefl i)]) (by rw [tabN_length]; exact Nat.le_refl _) (by decide)
    rw [show (i : Int) + 64 * 0 = (i : Int) by omega] at this
    exact this)
  have HN := Lib.hid h
  have HTH := Lib.hid hth
  have HTT := Lib.hid ht
  have HGL := Lib.hid hgl
  have HIJ := Lib.hid hij
  have HI := Lib.hid hi
  have c2 := h.mc.c2
  have d0 : (0 : Int) ≤ (j : Int) := Int.natCast_nonneg _
  have d1 : (j : Int) < (c.n : Int) := by rw [h.nn]; exact Int.ofNat_lt.2 hjl
  clear h hth ht hgl hij hi hjT hnn hjl
  obtain ⟨pt, hpt⟩ : ∃ pt, pt = I.getD i 0 := ⟨_, rfl⟩
  rw [← hpt]
  have HPT := Lib.hid hpt
  clear hpt
  go_enter Tryz.func30, Tryz.ntmps30
  go_wp2_with fail
  go_at_call 62
  refine HT.out.mono ?_
  rintro e w1 ⟨vt, rfl, hvt, hb1⟩
  have HVT := Lib.hid hvt
  have HB1 := Lib.hid hb1
  obtain ⟨va, vn, vc, rfl⟩ : ∃ a n c, vt = .slice a n c := by
    obtain ⟨a, c, h⟩ := hvt.form2
    exact ⟨a, _, c, h⟩
  have hM1 := HN.out.mc.below hb1 HN.out.mc.lt
  have c3 := hM1.c3
  rw [HTH.out] at c3
  have hrow := HN.out.row
  rw [HTH.out] at hrow
  obtain ⟨e0, _, _, _, ef⟩ := th_cells (hrow.below hb1) HTT.out
  have ef0 := ef (j * 4)
  have cf2 := hM1.free 2
  unfold Sx.val at e0
  clear c2 c3 hvt hb1 hM1 hrow ef cf2
  have c3 := (HN.out.mc.below HB1.out HN.out.mc.lt).c3
  rw [HTH.out] at c3
  obtain ⟨HO, HOT, HZ⟩ := HN.out.hs j t HTT.out
  have HOB := Lib.hid HO
  have HOG := Lib.hid HOT
  clear HO HOT HZ
  obtain ⟨w2, hw2⟩ : ∃ w2, w2 = w1.alloc (.cells #[.int .i64 (i : Int), .int .i64 pt, .int .u64 0] 107) := ⟨_, rfl⟩
  have hb2 : Below w1.heap.size w1 w2 := by rw [hw2]; exact (Below.refl _ _).alloc (Nat.le_refl _) _
  have hn2 : w2.heap[w1.heap.size]? = some (.cells #[.int .i64 (i : Int), .int .i64 pt, .int .u64 0] 107 (0, 0)) := by rw [hw2]; exact heap_alloc_new w1 _
  have hs2 : w2.heap.size = w1.heap.size + 1 := by rw [hw2]; simp
  have HB2 := Lib.hid hb2
  have HN2 := Lib.hid hn2
  have HS2 := Lib.hid hs2
  have HW2 := Lib.hid hw2
  have hown2 := (HOB.out.below HB1.out).below hb2
  have HO2 : Hid (w2.ownsRow 0 107 3 (.slice t.h.a t.h.n t.h.c) (newH I T i j).length (cellsL (newH I T i j))) := Lib.hid hown2
  have hgb : g ≠ b := fun e => by have h1 := HN.out.tt _ HTH.out; have h2 := HN.out.tb; dsimp only at h1; rw [e, h2] at h1; omega
  have hbg : b ≠ g := Ne.symm hgb
  clear hb2 hn2 hs2 hw2 hown2
  go_wp2_with (first | (at_builtin; refine mk_ofD ?_))
  refine MkD.out ?_
  rw [← HW2.out]
  refine Batch.wpList_append_any _ rfl (.tmp 32) (.tmp 36) _ _ rfl 0 107 107 i0 (.agg #[.int .i64 0, .int .i64 0, .int .u64 0]) 3 24 Tryz.underlying58 Tryz.underlying58 hi0 hz0 hz1 hz2 rfl (by decide) _ _ _ rfl HO2.out (some ⟨w1.heap.size, 0, none⟩) 1 1 [.int .i64 (i : Int), .int .i64 pt, .int .u64 0] rfl rfl ?csrc ?cone ?cmax ?cbytes (Nat.zero_le _) ?_
  case csrc =>
    refine .inr ⟨_, rfl, fun q u hq => ?_⟩
    match q, hq with
    | 0, hq => simpa [World.cell?, HN2.out, Addr.add] using hq
    | 1, hq => simpa [World.cell?, HN2.out, Addr.add] using hq
    | 2, hq => simpa [World.cell?, HN2.out, Addr.add] using hq
    | n + 3, hq => simp at hq
  case cone => intro u hu; simp at hu; rcases hu with rfl | rfl | rfl <;> rfl
  case cmax => have h1 := newH_length I T i j; have h2 := HI.out; unfold maxLen; omega
  case cbytes => have h1 := newH_length I T i j; have h2 := HI.out; omega
  intro v3 w3 hown3 hg3 hat3
  obtain ⟨g3, c3', rfl, _⟩ := hown3.form (Nat.succ_pos _)
  have hsz3 := hg3.size
  have hb13 : ∀ k, k < w1.heap.size → t.h.val.ownBlock ≠ some k → w3.heap[k]? = w1.heap[k]? := fun k hk hne => (hg3.block k (by rw [HS2.out]; omega) (fun e => hne e.symm)).trans (HB2.out.block k hk)
  have hM1 := HN.out.mc.below HB1.out HN.out.mc.lt
  have hM3 : McAt w3 b c := (hb13 b hM1.lt (fun e => by have h1 := HOG.out b e; rw [HN.out.tb] at h1; omega)).trans hM1
  have m2 := hM3.c2
  have mf := hM3.free 2
  have hrow1 := HN.out.row
  rw [HTH.out] at hrow1
  have hgl1 : g < w1.heap.size := Nat.lt_of_lt_of_le HGL.out HB1.out.size
  have hrow3 : Rw.Own thK w3 0 95 (.slice (some ⟨g, 0, none⟩) c.n c.cth) tv := own_blk (hrow1.below HB1.out) fun k hk => by
    simp [Value.ownBlock] at hk
    subst hk
    exact hb13 g hgl1 (fun e => by have h1 := HOG.out g e; have h2 := HN.out.tt _ HTH.out; dsimp only at h2; omega)
  obtain ⟨r0, _, _, _, rf⟩ := th_cells hrow3 HTT.out
  have rf0 := rf (j * 4)
  unfold Sx.val at r0
  have HF := Lib.hid (NwAt.come (vt := .slice va vn vc) (sh := ⟨some ⟨g3, 0, none⟩, (newH I T i j).length + 1, c3'⟩) HN.out HTH.out HTT.out HIJ.out HB1.out HVT.out (Nat.le_trans HB2.out.size hsz3) (((HB2.out.mono (Nat.zero_le _)).trans ⟨hg3.os, hg3.tape, hg3.output, hg3.size, fun k hk => absurd hk (Nat.not_lt_zero k)⟩)) hb13 (by
      show Own w3 0 _ (.slice (some ⟨g3, 0, none⟩) _ _) _
      have e1 : (newH I T i j ++ [(⟨(i : Int), I.getD i 0, 0⟩ : Ed)]).length = (newH I T i j).length + 1 := by rw [List.length_append]; rfl
      have e2 : cellsL (newH I T i j ++ [(⟨(i : Int), I.getD i 0, 0⟩ : Ed)]) = cellsL (newH I T i j) ++ [.int .i64 (i : Int), .int .i64 pt, .int .u64 0] := by rw [cellsL_snoc, HPT.out]
      unfold Own
      rw [e1, e2]
      exact hown3) (by
      rcases hat3 with h1 | h1
      · exact .inl h1
      · exact .inr ⟨_, h1, by rw [HS2.out]; exact Nat.le_succ _⟩))
  clear hM1 hM3 hrow1 hrow3 rf hown3 hg3 hat3 hb13 c3 e0 ef0 hsz3
  go_wp2_with fail
  go_end0
  obtain ⟨τ', h1, h2⟩ := HF.out
  exact ⟨rfl, τ', _, _, h1, h2⟩
end Go.Proofs.YtdllgeanmlmmfaaGreatDoor.Md
