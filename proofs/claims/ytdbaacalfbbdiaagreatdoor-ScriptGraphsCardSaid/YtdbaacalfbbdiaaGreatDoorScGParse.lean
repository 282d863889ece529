/-
  PACKAGE script: ParseGraph. (gen/scgparse.py)
-/
import Derived.Test.YtdbaacalfbbdiaaGreatDoorScGGuess
namespace Go.Proofs.YtdbaacalfbbdiaaGreatDoor.Sc
open Go.RowKit
set_option linter.unusedVariables false
set_option linter.unusedSimpArgs false
def g0 : Gm := ⟨0, [], []⟩
/-- What reads so as a Graph. -/
def GrR (w : World) (v : Value) (g : Gm) : Prop := ∃ ae ce ai ci, v = .agg #[.int .i64 g.n, .slice ae g.E.length ce, .slice ai g.I.length ci] ∧ Gr.Rd w (.slice ae g.E.length ce) g.E ∧ Gr.RdI w (.slice ai g.I.length ci) g.I
theorem GrR.below {w w' : World} {v : Value} {g : Gm} (h : GrR w v g) (hb : Below w.heap.size w w') : GrR w' v g := by
  obtain ⟨ae, ce, ai, ci, h1, h2, h3⟩ := h
  exact ⟨ae, ce, ai, ci, h1, h2.below hb, h3.below hb⟩
def PgP (w : World) (o : Option Gm) (e : Ending) (w' : World) : Prop := ∃ v, e = .returned (.tuple #[v, .bool o.isSome]) ∧ GrR w' v (o.getD g0) ∧ Below w.heap.size w w'
theorem rd_set3 {w : World} {v : Value} {l : List Gr.Ed} {b : Nat} (h : Gr.Rd w v l) (hb : ∀ g n k, v = .slice (some g) n k → g.block ≠ b) (u0 u1 u2 : Value) : Gr.Rd (((w.setCell ⟨b, 0, none⟩ u0).setCell ⟨b, 1, none⟩ u1).setCell ⟨b, 2, none⟩ u2) v l := by
  obtain ⟨ao, cap, rfl, h1, h2, h3, h4⟩ := h
  refine ⟨ao, cap, rfl, h1, h2, h3, ?_⟩
  rcases h4 with h4 | ⟨g, off, rfl, h4⟩
  · exact .inl h4
  · refine .inr ⟨g, off, rfl, fun i x hx => ?_⟩
    have hne : b ≠ g := fun e => hb _ _ _ rfl e.symm
    have e : ∀ o, (((w.setCell ⟨b, 0, none⟩ u0).setCell ⟨b, 1, none⟩ u1).setCell ⟨b, 2, none⟩ u2).cell? ⟨g, o, none⟩ = w.cell? ⟨g, o, none⟩ := fun o =>
      (World.cell?_setCell_far _ _ _ _ hne).trans ((World.cell?_setCell_far _ _ _ _ hne).trans (World.cell?_setCell_far _ _ _ _ hne))
    have q := h4 i x hx
    exact ⟨(e _).trans q.1, (e _).trans q.2.1, (e _).trans q.2.2⟩
theorem rdi_set3 {w : World} {v : Value} {l : List Int} {b : Nat} (h : Gr.RdI w v l) (hb : ∀ g n k, v = .slice (some g) n k → g.block ≠ b) (u0 u1 u2 : Value) : Gr.RdI (((w.setCell ⟨b, 0, none⟩ u0).setCell ⟨b, 1, none⟩ u1).setCell ⟨b, 2, none⟩ u2) v l := by
  obtain ⟨ao, cap, rfl, h1, h2, h3, h4⟩ := h
  refine ⟨ao, cap, rfl, h1, h2, h3, ?_⟩
  rcases h4 with h4 | ⟨g, off, rfl, h4⟩
  · exact .inl h4
  · refine .inr ⟨g, off, rfl, fun i x hx => ?_⟩
    have hne : b ≠ g := fun e => hb _ _ _ rfl e.symm
    have e : ∀ o, (((w.setCell ⟨b, 0, none⟩ u0).setCell ⟨b, 1, none⟩ u1).setCell ⟨b, 2, none⟩ u2).cell? ⟨g, o, none⟩ = w.cell? ⟨g, o, none⟩ := fun o =>
      (World.cell?_setCell_far _ _ _ _ hne).trans ((World.cell?_setCell_far _ _ _ _ hne).trans (World.cell?_setCell_far _ _ _ _ hne))
    exact (e _).trans (h4 i x hx)
theorem gPE_len (x : Bs) : (gPE x).length ≤ 257 := by
  unfold gPE
  split
  · simp
  · rw [List.length_map]
    have := splitK_count [44] (min 257 (x.length + 1) - 1) x
    omega
theorem gPI_len (x : Bs) : (gPI x).length ≤ 9 := by
  unfold gPI
  rw [List.length_map]
  have := splitK_count [44] (min 9 (x.length + 1) - 1) x
  omega
set_option maxRecDepth 1000000 in
set_option maxHeartbeats 16000000 in
theorem scParseG_any (s : Bs) (hs : s.length ≤ 10000) {w : World} (hL : SV w) :
    Calls Tryz.prog 13 #[.string (bs s)] w (PgP w (parseGP okG s)) := by
  have HL := Lib.hid hL
  have HG := Lib.hid (fun w' (hb : Below w.heap.size w w') => guessGraph_any s hs (hL.below hb))
  have HPP := Lib.hid (show parseGP okG s = if s ≠ [] ∧ graphL okG (guessGP s) = s then some (guessGP s) else none from rfl)
  have HLN := Lib.hid (show (guessGP s).E.length ≤ 257 ∧ (guessGP s).I.length ≤ 9 ∧ -9223372036854775808 ≤ (guessGP s).n ∧ (guessGP s).n ≤ 9223372036854775807 from ⟨gPE_len _, gPI_len _, atoiV_bd _⟩)
  generalize guessGP s = G at *
  generalize parseGP okG s = O at *
  clear hL hs
  obtain ⟨w1, hw1⟩ : ∃ w1, w1 = w.alloc (.cells #[.int .i64 0, .slice none 0 0, .slice none 0 0] 47) := ⟨_, rfl⟩
  have HZ1 := Lib.hid (show w1.heap[w.heap.size]? = some (.cells #[.int .i64 0, .slice none 0 0, .slice none 0 0] 47 (0, 0)) by rw [hw1]; exact heap_alloc_new w _)
  have HB1 := Lib.hid (show Below w.heap.size w w1 by rw [hw1]; exact (Below.refl _ _).alloc (Nat.le_refl _) _)
  obtain ⟨z, hz⟩ : ∃ z, z = w.heap.size := ⟨_, rfl⟩
  rw [← hz] at HZ1
  have HZZ := Lib.hid hz
  go_enter Tryz.func13, Tryz.ntmps13
  go_upto_region 1 with fail
  rw [← hw1, ← hz]
  clear hw1 hz
  go_wp2_with fail
  go_at_call 41
  refine (HG.out _ HB1.out).mono ?_
  rintro e w2 ⟨ae, ce, ai, ci, rfl, hse, hsi, hne, hni, hb⟩
  have HB2 := Lib.hid (HB1.out.trans (hb.mono HB1.out.size))
  have HZ2 := Lib.hid ((hb.block z (Array.getElem?_eq_some_iff.1 HZ1.out).1).trans HZ1.out)
  have HS2 := Lib.hid (And.intro hse hsi)
  have HNW := Lib.hid (And.intro hne hni)
  clear hse hsi hne hni hb HG
  obtain ⟨n, E, I⟩ := G
  dsimp only at HS2 HLN HNW
  go_upto_region 2 with fail
  obtain ⟨w3, hw3⟩ : ∃ w3, w3 = w2.alloc (.cells #[.int .i64 n, .slice ae E.length ce, .slice ai I.length ci] 47) := ⟨_, rfl⟩
  have hc3 : w3.heap[w2.heap.size]? = some (.cells #[.int .i64 n, .slice ae E.length ce, .slice ai I.length ci] 47 (0, 0)) := by rw [hw3]; exact heap_alloc_new w2 _
  have hb3 : Below w2.heap.size w2 w3 := by rw [hw3]; exact (Below.refl _ _).alloc (Nat.le_refl _) _
  rw [← hw3]
  obtain ⟨cb, hcb⟩ : ∃ c, c = w2.heap.size := ⟨_, rfl⟩
  rw [← hcb] at hc3 ⊢
  have HB3 := Lib.hid (HB2.out.trans (hb3.mono HB2.out.size))
  have HZ3 := Lib.hid ((hb3.block z (Array.getElem?_eq_some_iff.1 HZ2.out).1).trans HZ2.out)
  have HC3 := Lib.hid hc3
  have HS3 := Lib.hid (And.intro (HS2.out.1.below hb3) (HS2.out.2.below hb3))
  have HZL := Lib.hid (Array.getElem?_eq_some_iff.1 HZ1.out).1
  clear hw3 hb3 hcb hc3
  have HLI := Lib.hid (scGraph_any n HS3.out.1 HS3.out.2 HLN.out.2.2 (Nat.le_trans HLN.out.1 (by decide)) (Nat.le_trans HLN.out.2.1 (by decide)) (HL.out.below HB3.out))
  by_cases h0 : s = []
  · have HO := Lib.hid (show O = none by rw [HPP.out]; exact if_neg (fun e => e.1 h0))
    have eE : ((bs s).toList == []) = true := by rw [Lib.toList_data, bs_data, h0]; rfl
    clear h0
    obtain ⟨z0, z1, z2⟩ := cells3 HZ3.out
    have zf0 := free_of HZ3.out 0
    have zf1 := free_of HZ3.out 1
    have zf2 := free_of HZ3.out 2
    have HR5 := Lib.hid (cells3 (heap_setCell_same _ z 2 _ _ (.slice none 0 0) (heap_setCell_same _ z 1 _ _ (.slice none 0 0) (heap_setCell_same _ z 0 _ _ (.int .i64 0) HZ3.out))))
    go_wp2_with fail
    obtain ⟨r0, r1, r2⟩ := HR5.out
    have e := HO.out
    subst e
    exact bodyPost_ret (v := .tuple #[.agg #[.int .i64 0, .slice none 0 0, .slice none 0 0], .bool false]) (by simp [results, Tryz.results13, go_sem, r0, r1, r2]) rfl ⟨_, rfl, ⟨none, 0, none, 0, rfl, Gr.Rd.nil _, ⟨none, 0, rfl, by simp [g0], by simp, by simp [g0], .inl rfl⟩⟩, (((HB3.out).setCell (p := ⟨z, 0, none⟩) (Nat.le_of_eq HZZ.out.symm) _).setCell (p := ⟨z, 1, none⟩) (Nat.le_of_eq HZZ.out.symm) _).setCell (p := ⟨z, 2, none⟩) (Nat.le_of_eq HZZ.out.symm) _⟩
  have eE : ((bs s).toList == []) = false := by rw [Lib.toList_data, bs_data, beq_eq_false_iff_ne]; exact h0
  by_cases h1 : graphL okG ⟨n, E, I⟩ = s
  · have HO := Lib.hid (show O = some ⟨n, E, I⟩ by rw [HPP.out]; exact if_pos ⟨h0, h1⟩)
    have eT : ((bs (graphL okG ⟨n, E, I⟩)).toList == (bs s).toList) = true := by rw [bs_beq]; exact decide_eq_true h1
    clear h0 h1
    generalize graphL okG ⟨n, E, I⟩ = ll at *
    obtain ⟨d0, d1, d2⟩ := cells3 HC3.out
    go_wp2_with fail
    go_at_call 15
    refine HLI.out.mono ?_
    rintro e w4 ⟨rfl, hb⟩
    have HB4 := Lib.hid (HB3.out.trans (hb.mono HB3.out.size))
    have HZ4 := Lib.hid ((hb.block z (Array.getElem?_eq_some_iff.1 HZ3.out).1).trans HZ3.out)
    have HC4 := Lib.hid ((hb.block cb (Array.getElem?_eq_some_iff.1 HC3.out).1).trans HC3.out)
    have HS4 := Lib.hid (And.intro (HS3.out.1.below hb) (HS3.out.2.below hb))
    clear hb d0 d1 d2
    obtain ⟨d0, d1, d2⟩ := cells3 HC4.out
    obtain ⟨z0, z1, z2⟩ := cells3 HZ4.out
    have zf0 := free_of HZ4.out 0
    have zf1 := free_of HZ4.out 1
    have zf2 := free_of HZ4.out 2
    have HR5 := Lib.hid (cells3 (heap_setCell_same _ z 2 _ _ (.slice ai I.length ci) (heap_setCell_same _ z 1 _ _ (.slice ae E.length ce) (heap_setCell_same _ z 0 _ _ (.int .i64 n) HZ4.out))))
    go_wp2_with fail
    obtain ⟨r0, r1, r2⟩ := HR5.out
    have e := HO.out
    subst e
    exact bodyPost_ret (v := .tuple #[.agg #[.int .i64 n, .slice ae E.length ce, .slice ai I.length ci], .bool true]) (by simp [results, Tryz.results13, go_sem, r0, r1, r2]) rfl ⟨_, rfl, ⟨ae, ce, ai, ci, rfl, rd_set3 HS4.out.1 (fun g n k e => by have h1 := HNW.out.1 g n k e; have h2 := HZL.out; omega) _ _ _, rdi_set3 HS4.out.2 (fun g n k e => by have h1 := HNW.out.2 g n k e; have h2 := HZL.out; omega) _ _ _⟩, (((HB4.out).setCell (p := ⟨z, 0, none⟩) (Nat.le_of_eq HZZ.out.symm) _).setCell (p := ⟨z, 1, none⟩) (Nat.le_of_eq HZZ.out.symm) _).setCell (p := ⟨z, 2, none⟩) (Nat.le_of_eq HZZ.out.symm) _⟩
  · have HO := Lib.hid (show O = none by rw [HPP.out]; exact if_neg (fun e => h1 e.2))
    have eT : ((bs (graphL okG ⟨n, E, I⟩)).toList == (bs s).toList) = false := by rw [bs_beq]; exact decide_eq_false h1
    clear h0 h1
    generalize graphL okG ⟨n, E, I⟩ = ll at *
    obtain ⟨d0, d1, d2⟩ := cells3 HC3.out
    go_wp2_with fail
    go_at_call 15
    refine HLI.out.mono ?_
    rintro e w4 ⟨rfl, hb⟩
    have HB4 := Lib.hid (HB3.out.trans (hb.mono HB3.out.size))
    have HZ4 := Lib.hid ((hb.block z (Array.getElem?_eq_some_iff.1 HZ3.out).1).trans HZ3.out)
    have HC4 := Lib.hid ((hb.block cb (Array.getElem?_eq_some_iff.1 HC3.out).1).trans HC3.out)
    have HS4 := Lib.hid (And.intro (HS3.out.1.below hb) (HS3.out.2.below hb))
    clear hb d0 d1 d2
    obtain ⟨z0, z1, z2⟩ := cells3 HZ4.out
    have zf0 := free_of HZ4.out 0
    have zf1 := free_of HZ4.out 1
    have zf2 := free_of HZ4.out 2
    have HR5 := Lib.hid (cells3 (heap_setCell_same _ z 2 _ _ (.slice none 0 0) (heap_setCell_same _ z 1 _ _ (.slice none 0 0) (heap_setCell_same _ z 0 _ _ (.int .i64 0) HZ4.out))))
    go_wp2_with fail
    obtain ⟨r0, r1, r2⟩ := HR5.out
    have e := HO.out
    subst e
    exact bodyPost_ret (v := .tuple #[.agg #[.int .i64 0, .slice none 0 0, .slice none 0 0], .bool false]) (by simp [results, Tryz.results13, go_sem, r0, r1, r2]) rfl ⟨_, rfl, ⟨none, 0, none, 0, rfl, Gr.Rd.nil _, ⟨none, 0, rfl, by simp [g0], by simp, by simp [g0], .inl rfl⟩⟩, (((HB4.out).setCell (p := ⟨z, 0, none⟩) (Nat.le_of_eq HZZ.out.symm) _).setCell (p := ⟨z, 1, none⟩) (Nat.le_of_eq HZZ.out.symm) _).setCell (p := ⟨z, 2, none⟩) (Nat.le_of_eq HZZ.out.symm) _⟩
end Go.Proofs.YtdbaacalfbbdiaaGreatDoor.Sc
