
/-
  PACKAGE marchlandlaw05: told.
-/
import Derived.Test.YtkcmeklgnbejiaaDoorGFix
import Derived.Test.YtkcmeklgnbejiaaDoorFaultAt
namespace Go.Proofs.YtkcmeklgnbejiaaDoor.Gr
open Go.RowKit Go.Deep Go.Proofs.YtkcmeklgnbejiaaDoor.Fault
set_option linter.unusedVariables false

def T1 : List Ed := [⟨0, 1, 0⟩, ⟨1, 0, 1⟩]
def T2 : List Ed := [⟨0, 1, 0⟩, ⟨1, 0, 0⟩]
theorem t1_wf : ∀ x ∈ T1, x.Wf := by
  intro x hx
  unfold T1 at hx
  simp at hx
  rcases hx with rfl | rfl <;> exact ⟨by decide, by decide, by decide, by decide, by decide, by decide⟩
theorem t2_wf : ∀ x ∈ T2, x.Wf := by
  intro x hx
  unfold T2 at hx
  simp at hx
  rcases hx with rfl | rfl <;> exact ⟨by decide, by decide, by decide, by decide, by decide, by decide⟩
theorem t1_fits : Fits T1 2 := by
  intro x hx
  unfold T1 at hx
  simp at hx
  rcases hx with rfl | rfl <;> exact ⟨by decide, by decide, by decide, by decide, by decide, by decide⟩
theorem zero_ok (n : Int) (h : 1 ≤ n) : InOk n [0] ([0] : List Int).length := InOk.snoc (l := []) (fun j p hj => absurd hj (by simp)) ⟨Int.le_refl _, by omega⟩ (by simp)
theorem t1_rise : ∀ e ∈ T1, e.f < e.t ∨ 1 ≤ e.a := by
  intro x hx
  unfold T1 at hx
  simp at hx
  rcases hx with rfl | rfl <;> decide
theorem t1_ok : GOk 2 T1 [0] :=
  ⟨by decide, by decide, by decide, t1_fits, chkV_ok (by decide) (by decide) (by decide) t1_fits (by simp) (by decide) (zero_ok _ (by decide)) (no_round (fun e he => (t1_fits e he).2.2.2.2.1) t1_rise)⟩
theorem t1_paths {M : Nat → Nat → Int} (h : LeastM T1 true 2 M) : M 1 0 = 1 ∧ M 0 1 = 0 := by
  have h10 := h 1 0 (by decide) (by decide)
  have h01 := h 0 1 (by decide) (by decide)
  have e0 : (⟨0, 1, 0⟩ : Ed) ∈ T1 := by unfold T1; simp
  have e1 : (⟨1, 0, 1⟩ : Ed) ∈ T1 := by unfold T1; simp
  have a1 := h10.2 [⟨1, 0, 1⟩] (Way.edge (z := true) e1)
  have a0 := h01.2 [⟨0, 1, 0⟩] (Way.edge (z := true) e0)
  have b1 := h10.1.1
  have b0 := h01.1.1
  simp only [cost] at a0 a1
  refine ⟨?_, by omega⟩
  by_cases hz : M 1 0 = 0
  · rcases h10.1.2 with e | ⟨es, hw, hc⟩
    · omega
    · have := chn_rises (fun e he => (t1_fits e he).2.2.2.2.1) t1_rise hw.1 (by omega)
      simp at this
      omega
  · omega
theorem t2_fits : Fits T2 2 := by
  intro x hx
  unfold T2 at hx
  simp at hx
  rcases hx with rfl | rfl <;> exact ⟨by decide, by decide, by decide, by decide, by decide, by decide⟩
theorem t2_round : Round T2 (0 : Nat) := by
  have e0 : (⟨0, 1, 0⟩ : Ed) ∈ T2 := by unfold T2; simp
  have e1 : (⟨1, 0, 0⟩ : Ed) ∈ T2 := by unfold T2; simp
  exact ⟨[⟨0, 1, 0⟩, ⟨1, 0, 0⟩], ⟨⟨e0, rfl, e1, rfl, rfl⟩, .inr (by simp)⟩, by simp [cost]⟩
theorem chkV_cyc {n : Nat} {E : List Ed} {I : List Int} {p : Nat} (n0 : 1 ≤ n) (n1 : n ≤ 64) (hl : E.length ≤ 256) (hf : Fits E n) (i0 : I ≠ []) (i1 : I.length ≤ 8) (hi : InOk n I I.length) (hp : p < n) (hr : Round E (p : Nat)) (hq : ∀ q : Nat, q < p → ¬ Round E (q : Nat)) : chkV (n : Int) E I = ([(portS, (p : Int))], 3) := by
  unfold chkV
  rw [if_neg (by omega), if_neg (by omega), if_neg (by rw [edgesV_ok (fun y hy => ⟨⟨(hf y hy).1, (hf y hy).2.1⟩, ⟨(hf y hy).2.2.1, (hf y hy).2.2.2.1⟩⟩)]; simp), if_neg (by have : I.length ≠ 0 := fun e => i0 (List.length_eq_zero_iff.1 e); omega), if_neg (by rw [inputsV_ok hi]; simp), Int.toNat_natCast, cycO_eq (.inl ⟨p, rfl, hp, hr, hq⟩)]
  rfl
theorem t2_chk : chkV (2 : Int) T2 [0] = ([(portS, 0)], 3) := chkV_cyc (n := 2) (p := 0) (by decide) (by decide) (by decide) t2_fits (by simp) (by decide) (zero_ok _ (by decide)) (by decide) t2_round (fun q hq => absurd hq (by omega))
theorem t3_chk : chkV 0 [] [] = ([], 2) := by unfold chkV; rw [if_pos (by decide)]
theorem t2_textS : ((⟨(textL [(portS, 0)] 3).toArray⟩ : ByteArray).toList == [112, 111, 114, 116, 32, 48, 58, 32, 99, 121, 99, 108, 101]) = true := by
  rw [Lib.toList_data]
  simp [textL, placesL, placeL, Lib.itoa, Lib.decDigits, wordS, wordL, portS]
theorem t2_text : ∃ S : ByteArray, (S.toList == [112, 111, 114, 116, 32, 48, 58, 32, 99, 121, 99, 108, 101]) = true ∧ ∀ (w : World) (E : Value), LV w → Chain w E [(portS, 0)] (errnoV 3) →
    Calls Tryd.prog 16 #[E] w fun e w' => e = .returned (.string S) ∧ Below w.heap.size w w' :=
  ⟨_, t2_textS, fun w E hL hch => text_errno 3 hL hch (by decide) (by decide) (by decide) (by
    intro x hx
    simp at hx
    rcases hx with rfl
    exact ⟨by decide, by decide, by decide⟩)⟩
theorem rd_new {w : World} {T : TypeId} (l : List Ed) (hl : l.length ≤ 1000) (hw : ∀ x ∈ l, x.Wf) : Rd (w.alloc (.cells (cellsL l).toArray T)) (.slice (some ⟨w.heap.size, 0, none⟩) l.length l.length) l := by
  refine ⟨_, _, rfl, Nat.le_refl _, by omega, hw, .inr ⟨w.heap.size, 0, rfl, fun i x hx => ?_⟩⟩
  have hc : ∀ c u, c < 3 → x.cells[c]? = some u → (w.alloc (.cells (cellsL l).toArray T)).cell? ⟨w.heap.size, 0 + i * 3 + c, none⟩ = some u := by
    intro c u hc hu
    rw [cell_of_row _ w.heap.size (0 + i * 3 + c) _ T (0, 0) (heap_alloc_new w _)]
    rw [Nat.zero_add]
    have := cellsL_at hx c hc
    simp only [List.getElem?_toArray]
    rw [this]
    exact hu
  exact ⟨hc 0 _ (by omega) rfl, hc 1 _ (by omega) rfl, hc 2 _ (by omega) rfl⟩
theorem rdi_new {w : World} {T : TypeId} : RdI (w.alloc (.cells #[.int .i64 0] T)) (.slice (some ⟨w.heap.size, 0, none⟩) 1 1) [0] :=
  (own1 (w := w) (base := 0) (T := T) 0 (Nat.zero_le _)).rd (by intro x hx; simp at hx; subst hx; decide)
theorem graph_new (w : World) {cs : Array Value} (l : List Ed) (n : Int) (k : Nat) (hc : cs = (cellsL l).toArray) (hk : k = l.length) (hl : l.length ≤ 1000) (hw : ∀ x ∈ l, x.Wf) {W : World}
    (hW : W = ((w.alloc (.cells cs 75)).alloc (.cells #[.int .i64 0] 3)).alloc (.cells #[.int .i64 n, .slice (some ⟨w.heap.size, 0, none⟩) k k, .slice (some ⟨w.heap.size + 1, 0, none⟩) 1 1] 32)) :
    GMemP W (.slice (some ⟨w.heap.size, 0, none⟩) k k) (.slice (some ⟨w.heap.size + 1, 0, none⟩) 1 1) l [0] ∧ Below w.heap.size w W ∧
      W.heap[w.heap.size + 1 + 1]? = some (.cells #[.int .i64 n, .slice (some ⟨w.heap.size, 0, none⟩) k k, .slice (some ⟨w.heap.size + 1, 0, none⟩) 1 1] 32 (0, 0)) := by
  subst hc hk hW
  have s1 : (w.alloc (.cells (cellsL l).toArray 75)).heap.size = w.heap.size + 1 := by simp
  have s2 : ((w.alloc (.cells (cellsL l).toArray 75)).alloc (.cells #[.int .i64 0] 3)).heap.size = w.heap.size + 1 + 1 := by simp
  have b1 : Below (w.heap.size + 1) (w.alloc (.cells (cellsL l).toArray 75)) ((w.alloc (.cells (cellsL l).toArray 75)).alloc (.cells #[.int .i64 0] 3)) := (Below.refl _ _).alloc (by rw [s1]; exact Nat.le_refl _) _
  have hi := rdi_new (w := w.alloc (.cells (cellsL l).toArray 75)) (T := 3)
  rw [s1] at hi
  refine ⟨⟨((rd_new l hl hw).below (by rw [s1]; exact b1)).below ((Below.refl _ _).alloc (Nat.le_refl _) _), hi.below ((Below.refl _ _).alloc (Nat.le_refl _) _)⟩, (((Below.refl _ _).alloc (Nat.le_refl _) _).alloc (by simp) _).alloc (by simp; omega) _, ?_⟩
  have h := heap_alloc_new ((w.alloc (.cells (cellsL l).toArray 75)).alloc (.cells #[.int .i64 0] 3)) (.cells #[.int .i64 n, .slice (some ⟨w.heap.size, 0, none⟩) l.length l.length, .slice (some ⟨w.heap.size + 1, 0, none⟩) 1 1] 32)
  rwa [s2] at h
set_option maxRecDepth 1000000 in
set_option maxHeartbeats 8000000 in
theorem gtold_any (w : World) (hL : LV w) : Calls Tryd.prog 11 #[] w fun e w' => e = .returned (.bool true) ∧ Below w.heap.size w w' := by
  have HL := Lib.hid hL
  obtain ⟨S, hS, hST⟩ := t2_text
  have HST := Lib.hid hST
  clear hST hL
  go_enter Tryd.func11, Tryd.ntmps11
  go_wp2_with fail
  go_at_call 14
  obtain ⟨W1, hW1⟩ : ∃ W1, W1 = ((w.alloc (.cells #[.int .i64 0, .int .i64 1, .int .u64 0, .int .i64 1, .int .i64 0, .int .u64 1] 75)).alloc (.cells #[.int .i64 0] 3)).alloc (.cells #[.int .i64 2, .slice (some ⟨w.heap.size, 0, none⟩) 2 2, .slice (some ⟨w.heap.size + 1, 0, none⟩) 1 1] 32) := ⟨_, rfl⟩
  rw [← hW1]
  have HG1 := Lib.hid (graph_new w T1 2 2 rfl rfl (by decide) t1_wf hW1)
  clear hW1
  refine (paths_any (n := 2) HG1.out.1.ed HG1.out.1.inp t1_ok).mono ?_
  rintro e w2 ⟨v, M, rfl, hM, hle, hb⟩
  obtain ⟨g, r, rfl, hm⟩ := hM
  have HM := Lib.hid hm
  obtain ⟨hp10, hp01⟩ := t1_paths hle
  have HP := Lib.hid (And.intro hp10 hp01)
  have HGM := Lib.hid (HG1.out.1.below hb)
  have HB := Lib.hid (HG1.out.2.1.trans (hb.mono HG1.out.2.1.size))
  have HX := Lib.hid ((hb.block _ (Array.getElem?_eq_some_iff.1 HG1.out.2.2).1).trans HG1.out.2.2)
  clear HG1 hm hle hb hp10 hp01
  go_upto_region 4 with fail
  obtain ⟨W3, hW3⟩ : ∃ W3, W3 = ((w2.alloc (.cells #[.int .i64 0, .int .i64 1, .int .u64 0, .int .i64 1, .int .i64 0, .int .u64 0] 75)).alloc (.cells #[.int .i64 0] 3)).alloc (.cells #[.int .i64 2, .slice (some ⟨w2.heap.size, 0, none⟩) 2 2, .slice (some ⟨w2.heap.size + 1, 0, none⟩) 1 1] 32) := ⟨_, rfl⟩
  rw [← hW3]
  obtain ⟨hg2, hb3, hx2⟩ := graph_new w2 T2 2 2 rfl rfl (by decide) t2_wf hW3
  obtain ⟨x0, x1, x2, _⟩ := three_cells ((hb3.block _ (Array.getElem?_eq_some_iff.1 HX.out).1).trans HX.out)
  replace HGM := Lib.hid (HGM.out.below hb3)
  replace HM := Lib.hid (HM.out.below hb3)
  replace HB := Lib.hid (HB.out.trans (hb3.mono HB.out.size))
  have HG2 := Lib.hid hg2
  have HX2 := Lib.hid hx2
  clear hW3 HX hg2 hb3 hx2
  go_wp2_with fail
  go_at_call 8
  refine (check_any (n := 2) HGM.out.ed HGM.out.inp).mono ?_
  rintro e w4 ⟨v4, rfl, her, hb⟩
  have hnil : v4 = .nilIface := by
    rw [show chkV 2 T1 [0] = ([], 0) from t1_ok.chk] at her
    rcases her with ⟨_, _, h⟩ | ⟨h, _⟩
    · exact h
    · exact absurd rfl h
  subst hnil
  replace HM := Lib.hid (HM.out.below hb)
  replace HG2 := Lib.hid (HG2.out.below hb)
  obtain ⟨y0, y1, y2, _⟩ := three_cells ((hb.block _ (Array.getElem?_eq_some_iff.1 HX2.out).1).trans HX2.out)
  replace HB := Lib.hid (HB.out.trans (hb.mono HB.out.size))
  have c1 := HM.out.top.cell (show 1 < 2 by decide)
  have c0 := HM.out.top.cell (show 0 < 2 by decide)
  have d1 := (HM.out.row 1 (by decide)).cell (show 0 < 2 by decide)
  have d0 := (HM.out.row 0 (by decide)).cell (show 1 < 2 by decide)
  rw [HP.out.1] at d1
  rw [HP.out.2] at d0
  clear her hb HX2 x0 x1 x2
  go_wp2_with fail
  go_at_call 8
  refine (check_any (n := 2) HG2.out.ed HG2.out.inp).mono ?_
  rintro e w5 ⟨v5, rfl, her, hb⟩
  have hch : Chain w5 v5 [(portS, 0)] (errnoV 3) ∧ ∃ u x, v5 = .iface u x := by
    rw [t2_chk] at her
    rcases her with ⟨h, _⟩ | ⟨_, h⟩
    · exact absurd h (by decide)
    · exact h
  obtain ⟨hch, u5, x5, rfl⟩ := hch
  have HCH := Lib.hid hch
  replace HB := Lib.hid (HB.out.trans (hb.mono HB.out.size))
  clear her hb hch HG2 HGM y0 y1 y2 c0 c1 d0 d1 HM
  go_wp2_with fail
  go_at_call 16
  refine (HST.out _ _ (HL.out.below HB.out) HCH.out).mono ?_
  rintro e w6 ⟨rfl, hb⟩
  replace HB := Lib.hid (HB.out.trans (hb.mono HB.out.size))
  clear hb HCH
  go_wp2_with fail
  go_at_call 8
  refine (check_any (E := []) (I := []) (n := 0) (Rd.nil _) ⟨none, 0, rfl, by simp, by simp, by simp, .inl rfl⟩).mono ?_
  rintro e w7 ⟨v7, rfl, her, hb⟩
  have hch : Chain w7 v7 [] (errnoV 2) := by
    rw [t3_chk] at her
    rcases her with ⟨h, _⟩ | ⟨_, h, _⟩
    · exact absurd h (by decide)
    · exact h
  replace HB := Lib.hid (HB.out.trans (hb.mono HB.out.size))
  have HCH := Lib.hid hch
  clear her hb hch
  go_wp2_with fail
  go_at_call 12
  refine (kind_errno 2 (HL.out.below HB.out).typ HCH.out).mono ?_
  rintro e w8 ⟨rfl, hb⟩
  replace HB := Lib.hid (HB.out.trans (hb.mono HB.out.size))
  clear hb HCH
  go_wp2_with fail
  go_ret
  exact ⟨rfl, HB.out⟩
end Go.Proofs.YtkcmeklgnbejiaaDoor.Gr
