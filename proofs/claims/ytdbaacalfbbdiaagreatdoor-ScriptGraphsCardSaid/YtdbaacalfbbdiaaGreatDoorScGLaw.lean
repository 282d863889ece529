/-
  marchlandlaw18: ScriptGraphs. (gen/scglaw.py)
-/
import Derived.Test.YtdbaacalfbbdiaaGreatDoorScTold
import Derived.Test.YtdbaacalfbbdiaaGreatDoorScRGParse
import Derived.Test.YtdbaacalfbbdiaaGreatDoorScGOf
import Derived.Test.YtdbaacalfbbdiaaGreatDoorScGSame
import Derived.Test.YtdbaacalfbbdiaaGreatDoorScRRead0
import Derived.Test.YtdbaacalfbbdiaaGreatDoorJoined15
import Derived.Test.YtdbaacalfbbdiaaGreatDoorJoined4
namespace Go.Proofs.YtdbaacalfbbdiaaGreatDoor.Sc
open Go.RowKit Go.Deep
set_option linter.unusedVariables false
set_option linter.unusedSimpArgs false
theorem parseG_lim (s : Bs) : ((parseGP okG s).getD g0).E.length ≤ 257 ∧ ((parseGP okG s).getD g0).I.length ≤ 9 ∧ -9223372036854775808 ≤ ((parseGP okG s).getD g0).n ∧ ((parseGP okG s).getD g0).n ≤ 9223372036854775807 := by
  unfold parseGP
  split
  · exact ⟨gPE_len _, gPI_len _, atoiV_bd _⟩
  · exact ⟨Nat.zero_le _, Nat.zero_le _, by decide, by decide⟩
theorem parseG_some {s : Bs} {g : Gm} (h : parseGP okG s = some g) : graphL okG g = s := by
  unfold parseGP at h
  split at h
  · rename_i h1
    obtain rfl := Option.some.inj h
    exact h1.2
  · cases h
theorem parseG_empty : parseGP okG [] = none := if_neg fun h => h.1 rfl
theorem graphL_len {n : Int} {E : List Gr.Ed} {I : List Int} (hn : -9223372036854775808 ≤ n ∧ n ≤ 9223372036854775807) (he : ∀ x ∈ E, x.Wf) (hi : ∀ x ∈ I, -9223372036854775808 ≤ x ∧ x ≤ 9223372036854775807) (hl : E.length ≤ 40) (hli : I.length ≤ 12) : (graphL okG ⟨n, E, I⟩).length ≤ 10000 := by
  unfold graphL
  split
  · unfold graphT
    have h1 := itoa_len hn.1 hn.2
    have h2 := edsL_len he
    have h3 := insL_len hi
    simp only [List.length_append, List.length_cons]
    omega
  · simp
theorem grR_mem {w : World} {n : Int} {v1 v2 : Value} {g : Gm} (h : GrR w (.agg #[.int .i64 n, v1, v2]) g) : n = g.n ∧ Gr.GMemP w v1 v2 g.E g.I := by
  obtain ⟨ae, ce, ai, ci, e, h1, h2⟩ := h
  simp only [Value.agg.injEq, Array.mk.injEq, List.cons.injEq, Value.int.injEq, and_true, true_and] at e
  obtain ⟨rfl, rfl, rfl⟩ := e
  exact ⟨rfl, h1, h2⟩
theorem mem_grR {w : World} {v1 v2 : Value} {n : Int} {E : List Gr.Ed} {I : List Int} (h : Gr.GMemP w v1 v2 E I) : GrR w (.agg #[.int .i64 n, v1, v2]) ⟨n, E, I⟩ := by
  obtain ⟨⟨ae, ce, e1, _⟩, ⟨ai, ci, e2, _⟩⟩ := And.intro h.ed h.inp
  subst e1 e2
  exact ⟨ae, ce, ai, ci, rfl, h.ed, h.inp⟩
/-- ONE END: the end of a region that draws its order, named ahead of what follows (else what follows is copied once for each order). -/
def Hit (A : Act) (W : World) : Exit → Act → World → Prop
  | .normal, a, w => a = A ∧ w = W
  | _, _, _ => False
theorem hit (A : Act) (W : World) : Hit A W .normal A W := ⟨rfl, rfl⟩
theorem wp_hit {P : Program} {c : Code} {Q : Exit → Act → World → Prop} {a : Act} {w : World} (A : Act) (W : World) (h : c.wp P (Hit A W) a w) (hq : Q .normal A W) : c.wp P Q a w :=
  Code.wp_mono (fun e a w h => by
    cases e <;> first | exact h.elim | (obtain ⟨rfl, rfl⟩ := h; exact hq)) h
theorem load3 {w : World} {b : Nat} {T : TypeId} {v0 v1 v2 : Value} (h : w.heap[b]? = some (.cells #[v0, v1, v2] T (0, 0))) {w' : World} {n : Nat} (hb : Below n w w') (hn : b < n) : w'.heap[b]? = some (.cells #[v0, v1, v2] T (0, 0)) := (hb.block b hn).trans h
theorem rd_read {w : World} {g : Nat} (h : w.heap[g]? = some (.cells #[.int .i64 0] 3 (0, 0))) : Gr.GMemP w (.slice none 0 0) (.slice (some ⟨g, 0, none⟩) 1 1) [] [0] :=
  ⟨Gr.Rd.nil _, ⟨some ⟨g, 0, none⟩, 1, rfl, by simp, by simp, by intro x hx; simp at hx; subst hx; omega, .inr ⟨g, 0, rfl, fun i x hx => by
    match i, hx with
    | 0, hx => simp at hx; subst hx; simp [World.cell?, h]⟩⟩⟩
set_option maxRecDepth 1000000 in
set_option maxHeartbeats 32000000 in
theorem scriptGraphs_any (n : Int) (s : Bs) {w : World} {ve vi : Value} {E : List Gr.Ed} {I : List Int} (hn : -9223372036854775808 ≤ n ∧ n ≤ 9223372036854775807) (hg : Gr.GMemP w ve vi E I) (hs : s.length ≤ 9223372036854775807) (hL : SV w) :
    Calls Tryz.prog 4 #[.agg #[.int .i64 n, ve, vi], .string (bs s)] w fun e w' => e = .returned (.bool true) ∧ Below w.heap.size w w' := by
  have HL := Lib.hid hL
  obtain ⟨⟨ao, cap, e1, hc1, hc2, -⟩, ⟨aoi, capi, e2, hc3, hc4, -⟩⟩ := And.intro hg.ed hg.inp
  subst e1 e2
  obtain ⟨m1, hmin1, hsl1⟩ := Gr.few_facts (T := 41) (s := 3) (by kernel_rfl) Gr.sizeEs ao E.length cap 40 40 rfl hc1
  obtain ⟨m2, hmin2, hsl2⟩ := Gr.few_facts (T := 42) (s := 1) (by kernel_rfl) Gr.sizeIs aoi I.length capi 12 12 rfl hc3
  have hg1 := hg.take 40 12
  have hl1 : (E.take 40).length = min E.length 40 := by rw [List.length_take]; omega
  have hl2 : (I.take 12).length = min I.length 12 := by rw [List.length_take]; omega
  rw [← hl1, ← hl2] at hg1
  rw [← hl1] at hsl1
  rw [← hl2] at hsl2
  have HLE := Lib.hid (show (E.take 40).length ≤ 40 ∧ (I.take 12).length ≤ 12 by omega)
  have HG := Lib.hid hg1
  obtain ⟨w0, hw0⟩ : ∃ w0, w0 = w.alloc (.cells #[.int .i64 n, .slice ao E.length cap, .slice aoi I.length capi] 44) := ⟨_, rfl⟩
  have HB0 := Lib.hid (show Below w.heap.size w w0 by rw [hw0]; exact (Below.refl _ _).alloc (Nat.le_refl _) _)
  have HX0 := Lib.hid (show w0.heap[w.heap.size]? = some (.cells #[.int .i64 n, .slice ao E.length cap, .slice aoi I.length capi] 44 (0, 0)) by rw [hw0]; exact heap_alloc_new w _)
  generalize E.take 40 = E1 at HG hsl1 HLE
  generalize I.take 12 = I1 at HG hsl2 HLE
  have HSL := Lib.hid (bs_size s)
  have HNN := Lib.hid hn
  clear hg hg1 hL hl1 hl2 hc1 hc2 hc3 hc4 hn
  go_enter Tryz.func4, Tryz.ntmps4
  go_upto_region 1 with fail
  rw [← hw0]
  clear hw0
  obtain ⟨y0, y1, y2⟩ := cells3 HX0.out
  have yf1 := free_of HX0.out 1
  have yf2 := free_of HX0.out 2
  refine wp_hit _ _ (by go_region; exact hit _ _) ?_
  obtain ⟨w2, hw2⟩ : ∃ w2, w2 = ((w0.setCell ⟨w.heap.size, 1, none⟩ (.slice ao E1.length cap)).setCell ⟨w.heap.size, 2, none⟩ (.slice aoi I1.length capi)).drew := ⟨_, rfl⟩
  have hr1 := heap_setCell_same w0 w.heap.size 1 _ _ (.slice ao E1.length cap) HX0.out
  have hr2 := heap_setCell_same _ w.heap.size 2 _ _ (.slice aoi I1.length capi) hr1
  have HB2 := Lib.hid (show Below w.heap.size w w2 by rw [hw2]; exact (((HB0.out).setCell (Nat.le_refl _) _).setCell (Nat.le_refl _) _).drew)
  have HX2 := Lib.hid (show w2.heap[w.heap.size]? = some (.cells #[.int .i64 n, .slice ao E1.length cap, .slice aoi I1.length capi] 44 (0, 0)) by rw [hw2]; have h := hr2; simp at h; exact h)
  go_upto_region 2 with fail
  rw [← hw2]
  clear hw2 hr1 hr2 y0 y1 y2 yf1 yf2 hmin1 hmin2 hsl1 hsl2 HX0 HB0
  obtain ⟨z, hz⟩ : ∃ z, z = w.heap.size := ⟨_, rfl⟩
  rw [← hz] at HX2 ⊢
  clear hz
  by_cases hS : (600 : Int) < ((bs s).size : Int)
  · have HTD := Lib.hid (scTold_any (HL.out.below HB2.out))
    go_wp2_with fail
    go_at_call 5
    refine HTD.out.mono ?_
    rintro e w3 ⟨rfl, hb⟩
    have HB3 := Lib.hid (HB2.out.trans (hb.mono HB2.out.size))
    clear hb
    go_wp2_with fail
    go_ret
    exact ⟨rfl, HB3.out⟩
  have HSS := Lib.hid (show s.length ≤ 600 by have := HSL.out; omega)
  have HP1 := Lib.hid (scParseG_any s (Nat.le_trans HSS.out (by decide)) (HL.out.below HB2.out))
  have HP2 := Lib.hid (fun w' => parseG_same okG_lim s ▸ refParseG_any s HSS.out w')
  have HPL := Lib.hid (parseG_lim s)
  have HPS := Lib.hid (fun g (e : parseGP okG s = some g) => parseG_some e)
  generalize parseGP okG s = O at *
  go_upto_region 4 with fail
  clear hS hs
  go_wp2_with fail
  go_at_call 13
  refine HP1.out.mono ?_
  rintro e w3 ⟨v3, rfl, hs3, hb⟩
  obtain ⟨ae, ce, ai, ci, rfl, he3, hi3⟩ := id hs3
  have HB3 := Lib.hid (HB2.out.trans (hb.mono HB2.out.size))
  have HX3 := Lib.hid (load3 HX2.out hb (Array.getElem?_eq_some_iff.1 HX2.out).1)
  have HS3 := Lib.hid hs3
  clear hs3 he3 hi3 hb HP1
  go_upto_region 5 with fail
  obtain ⟨w4, hw4⟩ : ∃ w4, w4 = w3.alloc (.cells #[.int .i64 (O.getD g0).n, .slice ae (O.getD g0).E.length ce, .slice ai (O.getD g0).I.length ci] 47) := ⟨_, rfl⟩
  have hc4 : w4.heap[w3.heap.size]? = some (.cells #[.int .i64 (O.getD g0).n, .slice ae (O.getD g0).E.length ce, .slice ai (O.getD g0).I.length ci] 47 (0, 0)) := by rw [hw4]; exact heap_alloc_new w3 _
  have hb : Below w3.heap.size w3 w4 := by rw [hw4]; exact (Below.refl _ _).alloc (Nat.le_refl _) _
  rw [← hw4]
  obtain ⟨x, hx⟩ : ∃ x, x = w3.heap.size := ⟨_, rfl⟩
  rw [← hx] at hc4 ⊢
  have HB4 := Lib.hid (HB3.out.trans (hb.mono HB3.out.size))
  have HX4 := Lib.hid (load3 HX3.out hb (Array.getElem?_eq_some_iff.1 HX3.out).1)
  have HS4 := Lib.hid (HS3.out.below hb)
  have HY4 := Lib.hid hc4
  clear hw4 hb hx hc4
  go_wp2_with fail
  go_at_call 14
  refine (HP2.out w4).mono ?_
  rintro e w5 ⟨v5, rfl, hs5, hb⟩
  obtain ⟨be, de, bi, di, rfl, he5, hi5⟩ := id hs5
  have HB5 := Lib.hid (HB4.out.trans (hb.mono HB4.out.size))
  have HX5 := Lib.hid (load3 HX4.out hb (Array.getElem?_eq_some_iff.1 HX4.out).1)
  have HY5 := Lib.hid (load3 HY4.out hb (Array.getElem?_eq_some_iff.1 HY4.out).1)
  have HS5 := Lib.hid (HS4.out.below hb)
  have HR5 := Lib.hid hs5
  clear hs5 he5 hi5 hb HP2
  go_upto_region 6 with fail
  obtain ⟨w6, hw6⟩ : ∃ w6, w6 = w5.alloc (.cells #[.int .i64 (O.getD g0).n, .slice be (O.getD g0).E.length de, .slice bi (O.getD g0).I.length di] 44) := ⟨_, rfl⟩
  have hc6 : w6.heap[w5.heap.size]? = some (.cells #[.int .i64 (O.getD g0).n, .slice be (O.getD g0).E.length de, .slice bi (O.getD g0).I.length di] 44 (0, 0)) := by rw [hw6]; exact heap_alloc_new w5 _
  have hb : Below w5.heap.size w5 w6 := by rw [hw6]; exact (Below.refl _ _).alloc (Nat.le_refl _) _
  rw [← hw6]
  obtain ⟨y, hy⟩ : ∃ x, x = w5.heap.size := ⟨_, rfl⟩
  rw [← hy] at hc6 ⊢
  have HB6 := Lib.hid (HB5.out.trans (hb.mono HB5.out.size))
  have HX6 := Lib.hid (load3 HX5.out hb (Array.getElem?_eq_some_iff.1 HX5.out).1)
  have HY6 := Lib.hid (load3 HY5.out hb (Array.getElem?_eq_some_iff.1 HY5.out).1)
  have HS6 := Lib.hid (HS5.out.below hb)
  have HR6 := Lib.hid (HR5.out.below hb)
  have HZ6 := Lib.hid hc6
  clear hw6 hb hy hc6
  have HTO := Lib.hid (Gr.gto_any n (HG.out.below HB6.out) (Nat.le_trans HLE.out.1 (by decide)) (Nat.le_trans HLE.out.2 (by decide)))
  obtain ⟨y0, y1, y2⟩ := cells3 HX6.out
  go_wp2_with fail
  go_at_call 16
  refine HTO.out.mono ?_
  rintro e w7 ⟨vt, vu, rfl, hg7, hb⟩
  have HB7 := Lib.hid (HB6.out.trans (hb.mono HB6.out.size))
  have HX7 := Lib.hid (load3 HX6.out hb (Array.getElem?_eq_some_iff.1 HX6.out).1)
  have HY7 := Lib.hid (load3 HY6.out hb (Array.getElem?_eq_some_iff.1 HY6.out).1)
  have HZ7 := Lib.hid (load3 HZ6.out hb (Array.getElem?_eq_some_iff.1 HZ6.out).1)
  have HS7 := Lib.hid (HS6.out.below hb)
  have HR7 := Lib.hid (HR6.out.below hb)
  have HGR := Lib.hid (scGraph_any n hg7.ed hg7.inp HNN.out (Nat.le_trans HLE.out.1 (by decide)) (Nat.le_trans HLE.out.2 (by decide)) (HL.out.below HB7.out))
  clear hg7 hb y0 y1 y2 HTO
  go_wp2_with fail
  go_at_call 15
  refine HGR.out.mono ?_
  rintro e w8 ⟨rfl, hb⟩
  have HB8 := Lib.hid (HB7.out.trans (hb.mono HB7.out.size))
  have HX8 := Lib.hid (load3 HX7.out hb (Array.getElem?_eq_some_iff.1 HX7.out).1)
  have HY8 := Lib.hid (load3 HY7.out hb (Array.getElem?_eq_some_iff.1 HY7.out).1)
  have HZ8 := Lib.hid (load3 HZ7.out hb (Array.getElem?_eq_some_iff.1 HZ7.out).1)
  have HS8 := Lib.hid (HS7.out.below hb)
  have HR8 := Lib.hid (HR7.out.below hb)
  clear hb HGR
  have HP3 := Lib.hid (scParseG_any (graphL okG ⟨n, E1, I1⟩) (graphL_len HNN.out HG.out.ed.wf (by obtain ⟨_, _, _, _, _, h, _⟩ := HG.out.inp; exact h) HLE.out.1 HLE.out.2) (HL.out.below HB8.out))
  have HQE := Lib.hid (fun e : graphL okG ⟨n, E1, I1⟩ = [] => (e ▸ parseG_empty : parseGP okG (graphL okG ⟨n, E1, I1⟩) = none))
  have HQS := Lib.hid (fun e : graphL okG ⟨n, E1, I1⟩ ≠ [] => (parseG_text okG_lim (g := ⟨n, E1, I1⟩) (fun x hx => ⟨(HG.out.ed.wf x hx).a0, (HG.out.ed.wf x hx).a1⟩) e))
  have HQL := Lib.hid (parseG_lim (graphL okG ⟨n, E1, I1⟩))
  generalize parseGP okG (graphL okG ⟨n, E1, I1⟩) = Q at *
  go_wp2_with fail
  go_at_call 13
  refine HP3.out.mono ?_
  rintro e w9 ⟨v9, rfl, hs9, hb⟩
  obtain ⟨re, te, ri, ti, rfl, he9, hi9⟩ := id hs9
  have HB9 := Lib.hid (HB8.out.trans (hb.mono HB8.out.size))
  have HX9 := Lib.hid (load3 HX8.out hb (Array.getElem?_eq_some_iff.1 HX8.out).1)
  have HY9 := Lib.hid (load3 HY8.out hb (Array.getElem?_eq_some_iff.1 HY8.out).1)
  have HZ9 := Lib.hid (load3 HZ8.out hb (Array.getElem?_eq_some_iff.1 HZ8.out).1)
  have HS9 := Lib.hid (HS8.out.below hb)
  have HR9 := Lib.hid (HR8.out.below hb)
  have HW9 := Lib.hid hs9
  clear hs9 he9 hi9 hb HP3
  go_upto_region 8 with fail
  obtain ⟨w10, hw10⟩ : ∃ w10, w10 = w9.alloc (.cells #[.int .i64 (Q.getD g0).n, .slice re (Q.getD g0).E.length te, .slice ri (Q.getD g0).I.length ti] 47) := ⟨_, rfl⟩
  have hc10 : w10.heap[w9.heap.size]? = some (.cells #[.int .i64 (Q.getD g0).n, .slice re (Q.getD g0).E.length te, .slice ri (Q.getD g0).I.length ti] 47 (0, 0)) := by rw [hw10]; exact heap_alloc_new w9 _
  have hb : Below w9.heap.size w9 w10 := by rw [hw10]; exact (Below.refl _ _).alloc (Nat.le_refl _) _
  rw [← hw10]
  obtain ⟨q, hq⟩ : ∃ x, x = w9.heap.size := ⟨_, rfl⟩
  rw [← hq] at hc10 ⊢
  have HB10 := Lib.hid (HB9.out.trans (hb.mono HB9.out.size))
  have HX10 := Lib.hid (load3 HX9.out hb (Array.getElem?_eq_some_iff.1 HX9.out).1)
  have HY10 := Lib.hid (load3 HY9.out hb (Array.getElem?_eq_some_iff.1 HY9.out).1)
  have HZ10 := Lib.hid (load3 HZ9.out hb (Array.getElem?_eq_some_iff.1 HZ9.out).1)
  have HS10 := Lib.hid (HS9.out.below hb)
  have HR10 := Lib.hid (HR9.out.below hb)
  have HW10 := Lib.hid (HW9.out.below hb)
  have HQ10 := Lib.hid hc10
  clear hw10 hb hq hc10
  clear HX2 HX3 HX4 HX5 HX6 HX7 HX8 HX9 HY4 HY5 HY6 HY7 HY8 HY9 HZ6 HZ7 HZ8 HZ9 HS3 HS4 HS5 HS6 HS7 HS8 HS9 HR5 HR6 HR7 HR8 HR9 HW9 HB2 HB3 HB4 HB5 HB6 HB7 HB8 HB9
  have HOS := Lib.hid (fun e : O.isSome = true => (by cases O with
    | none => cases e
    | some c => exact HPS.out c rfl : graphL okG (O.getD g0) = s))
  have HQ1 := Lib.hid (fun e : graphL okG ⟨n, E1, I1⟩ = [] => (by have := HQE.out e; rw [this]; rfl : Q.isSome = false))
  have HQ2 := Lib.hid (fun e : graphL okG ⟨n, E1, I1⟩ ≠ [] => (by have := HQS.out e; rw [this]; exact ⟨rfl, rfl⟩ : Q.isSome = true ∧ ⟨n, E1, I1⟩ = Q.getD g0))
  have HRL := Lib.hid (fun w' (hb : Below w10.heap.size w10 w') => refGraph_any n ((HG.out.below HB10.out).below hb).ed ((HG.out.below HB10.out).below hb).inp HNN.out (Nat.le_trans HLE.out.1 (by decide)) (Nat.le_trans HLE.out.2 (by decide)))
  clear HPS HQE HQS
  generalize graphL okG ⟨n, E1, I1⟩ = ll at *
  generalize O.getD g0 = X at *
  generalize O.isSome = ob at *
  generalize Q.getD g0 = Z at *
  generalize Q.isSome = qb at *
  obtain ⟨xn, xE, xI⟩ := X
  obtain ⟨zn, zE, zI⟩ := Z
  dsimp only at *
  obtain ⟨a0, a1, a2⟩ := cells3 HY10.out
  obtain ⟨b0, b1, b2⟩ := cells3 HZ10.out
  obtain ⟨d0, d1, d2⟩ := cells3 HX10.out
  have LA := (Array.getElem?_eq_some_iff.1 HY10.out).1
  have LB := (Array.getElem?_eq_some_iff.1 HZ10.out).1
  have LD := (Array.getElem?_eq_some_iff.1 HX10.out).1
  have HSV := Lib.hid (fun w' (hb : Below w10.heap.size w10 w') => HL.out.below (HB10.out.trans (hb.mono HB10.out.size)))
  have HSM := Lib.hid (grR_mem HS10.out).2
  have HWM := Lib.hid (grR_mem HW10.out).2
  dsimp only at HSM HWM
  rename_i Kg1 hKg1 Kg2 hKg2
  have HKA := Lib.hid hKg1
  have HKB := Lib.hid hKg2
  clear hKg1 hKg2
  cases ob
  · clear HOS
    by_cases hW : ll = []
    · have q0 := HQ1.out hW
      have eE : ((bs ll).toList == []) = true := by rw [Lib.toList_data, bs_data, hW]; rfl
      subst q0
      clear hW HQ1 HQ2
      refine wp_region_held_drew (S := fun w' => w'.cell? ⟨x, 0, none⟩ = some (.int .i64 xn) ∧ w'.cell? ⟨x, 1, none⟩ = some (.slice ae xE.length ce) ∧ w'.cell? ⟨x, 2, none⟩ = some (.slice ai xI.length ci) ∧ w'.cell? ⟨y, 0, none⟩ = some (.int .i64 xn) ∧ w'.cell? ⟨y, 1, none⟩ = some (.slice be xE.length de) ∧ w'.cell? ⟨y, 2, none⟩ = some (.slice bi xI.length di) ∧ w'.cell? ⟨z, 0, none⟩ = some (.int .i64 n) ∧ w'.cell? ⟨z, 1, none⟩ = some (.slice ao E1.length cap) ∧ w'.cell? ⟨z, 2, none⟩ = some (.slice aoi I1.length capi)) (by kernel_rfl) ?_ (fun hHeld => ?_)
      · ((try dsimp only); exact ⟨a0, a1, a2, b0, b1, b2, d0, d1, d2⟩)
      have HB0 := Lib.hid (show Below w10.heap.size w10 w10.drew from below_drewN (Below.refl _ _) 1)
      refine Qr 0 fun K hK => ?_
      go_simp
      go_at_call 5
      refine (scTold_any (HSV.out _ HB0.out)).mono ?_
      rintro e w11 ⟨rfl, hb⟩
      have HBw11 := Lib.hid (HB0.out.trans (hb.mono HB0.out.size))
      try go_wp2_with fail
      refine hK.out _ _ ?_ (fun hHeld => ?_)
      · ((try dsimp only); exact ⟨Kc HBw11.out LA a0, Kc HBw11.out LA a1, Kc HBw11.out LA a2, Kc HBw11.out LB b0, Kc HBw11.out LB b1, Kc HBw11.out LB b2, Kc HBw11.out LD d0, Kc HBw11.out LD d1, Kc HBw11.out LD d2⟩)
      clear hK K
      try simp only [Act.put, Qa, Qb, Qc, Qd, Qe, Qf]
      refine Qt 1 (fun _ => ?_)
      refine Qt 2 (fun _ => ?_)
      refine Qt 3 (fun _ => ?_)
      refine Qt 4 (fun _ => ?_)
      refine Qt 5 (fun _ => ?_)
      refine Qt 6 (fun _ => ?_)
      refine Qt 7 (fun _ => ?_)
      refine Qt 8 (fun _ => ?_)
      refine Qt 10 (fun _ => ?_)
      refine Qr 9 fun K hK => ?_
      go_simp
      go_at_call 18
      refine (Gr.gof_any xn (HSM.out.below HBw11.out) (Nat.le_trans HPL.out.1 (by decide)) (Nat.le_trans HPL.out.2.1 (by decide))).mono ?_
      rintro e w12 ⟨fe, fi, rfl, hsf, hb⟩
      have HBw12 := Lib.hid (HBw11.out.trans (hb.mono HBw11.out.size))
      try go_wp2_with fail
      refine hK.out _ _ ?_ (fun hHeld => ?_)
      · ((try dsimp only); exact ⟨Kc HBw12.out LA a0, Kc HBw12.out LA a1, Kc HBw12.out LA a2, Kc HBw12.out LB b0, Kc HBw12.out LB b1, Kc HBw12.out LB b2, Kc HBw12.out LD d0, Kc HBw12.out LD d1, Kc HBw12.out LD d2⟩)
      clear hK K
      try simp only [Act.put, Qa, Qb, Qc, Qd, Qe, Qf]
      have HF12 := Lib.hid (mem_grR (n := xn) hsf)
      clear hsf
      refine Qr 11 fun K hK => ?_
      go_simp
      go_at_call 17
      refine (sameG_self HF12.out (HR10.out.below HBw12.out)).mono ?_
      rintro e w13 ⟨rfl, hb⟩
      have HBw13 := Lib.hid (HBw12.out.trans (hb.mono HBw12.out.size))
      try go_wp2_with fail
      refine hK.out _ _ ?_ (fun hHeld => ?_)
      · ((try dsimp only); exact ⟨Kc HBw13.out LA a0, Kc HBw13.out LA a1, Kc HBw13.out LA a2, Kc HBw13.out LB b0, Kc HBw13.out LB b1, Kc HBw13.out LB b2, Kc HBw13.out LD d0, Kc HBw13.out LD d1, Kc HBw13.out LD d2⟩)
      clear hK K
      try simp only [Act.put, Qa, Qb, Qc, Qd, Qe, Qf]
      refine Qt 12 (fun _ => ?_)
      refine Qt 13 (fun _ => ?_)
      refine Qt 14 (fun _ => ?_)
      refine Qt 15 (fun _ => ?_)
      refine Qt 16 (fun _ => ?_)
      refine Qr 17 fun K hK => ?_
      go_simp
      go_at_call 19
      refine (HRL.out _ HBw13.out).mono ?_
      rintro e w14 ⟨rfl, hb⟩
      have HBw14 := Lib.hid (HBw13.out.trans (hb.mono HBw13.out.size))
      try go_wp2_with fail
      refine hK.out _ _ ?_ (fun hHeld => ?_)
      · ((try dsimp only); exact ⟨Kc HBw14.out LA a0, Kc HBw14.out LA a1, Kc HBw14.out LA a2, Kc HBw14.out LB b0, Kc HBw14.out LB b1, Kc HBw14.out LB b2, Kc HBw14.out LD d0, Kc HBw14.out LD d1, Kc HBw14.out LD d2⟩)
      clear hK K
      try simp only [Act.put, Qa, Qb, Qc, Qd, Qe, Qf]
      refine Qt 18 (fun _ => ?_)
      refine Qt 19 (fun _ => ?_)
      refine Qt 20 (fun _ => ?_)
      refine Qt 21 (fun _ => ?_)
      refine Qt 22 (fun _ => ?_)
      refine Qt 23 (fun _ => ?_)
      refine Qt 24 (fun _ => ?_)
      refine Qt 25 (fun _ => ?_)
      refine Qt 26 (fun _ => ?_)
      refine Qt 27 (fun _ => ?_)
      refine Qt 28 (fun _ => ?_)
      refine wpAnyH_take (i := 29) (v := undef) rfl (by kernel_rfl) (by kernel_rfl) (by kernel_rfl) (fun _ _ _ h => h) (Or.inr ⟨by rfl, rfl⟩) (by assumption) ?_
      try simp only [Act.put, Qa, Qb, Qc, Qd, Qe, Qf]
      refine wpAnyH_take (i := 30) (v := undef) rfl (by kernel_rfl) (by kernel_rfl) (by kernel_rfl) (fun _ _ _ h => h) (Or.inr ⟨by rfl, rfl⟩) (by assumption) ?_
      try simp only [Act.put, Qa, Qb, Qc, Qd, Qe, Qf]
      refine wpAnyH_take (i := 31) (v := undef) rfl (by kernel_rfl) (by kernel_rfl) (by kernel_rfl) (fun _ _ _ h => h) (Or.inr ⟨by rfl, rfl⟩) (by assumption) ?_
      try simp only [Act.put, Qa, Qb, Qc, Qd, Qe, Qf]
      refine wpAnyH_take (i := 32) (v := undef) rfl (by kernel_rfl) (by kernel_rfl) (by kernel_rfl) (fun _ _ _ h => h) (Or.inr ⟨by rfl, rfl⟩) (by assumption) ?_
      try simp only [Act.put, Qa, Qb, Qc, Qd, Qe, Qf]
      refine Qt 33 (fun _ => ?_)
      refine Qt 34 (fun _ => ?_)
      refine wpAnyH_done (by kernel_rfl) ?_ _
      have hKg1 := HKA.out
      have hKg2 := HKB.out
      have HBa := Lib.hid (HB10.out.trans (HBw14.out.mono HB10.out.size))
      have HXa := Lib.hid (load3 HX10.out HBw14.out (Array.getElem?_eq_some_iff.1 HX10.out).1)
      have HQa := Lib.hid (load3 HQ10.out HBw14.out (Array.getElem?_eq_some_iff.1 HQ10.out).1)
      have HWa := Lib.hid (HWM.out.below HBw14.out)
      have HGa := Lib.hid ((HG.out.below HB10.out).below HBw14.out)
      have LQ := (Array.getElem?_eq_some_iff.1 HQa.out).1
      have LX := (Array.getElem?_eq_some_iff.1 HXa.out).1
      clear a0 a1 a2 b0 b1 b2 d0 d1 d2
      obtain ⟨p0, p1, p2⟩ := cells3 HQa.out
      obtain ⟨d0, d1, d2⟩ := cells3 HXa.out
      go_upto_region 10 with fail
      refine wp_region_held_drew (S := fun w' => w'.cell? ⟨q, 0, none⟩ = some (.int .i64 zn) ∧ w'.cell? ⟨q, 1, none⟩ = some (.slice re zE.length te) ∧ w'.cell? ⟨q, 2, none⟩ = some (.slice ri zI.length ti) ∧ w'.cell? ⟨z, 0, none⟩ = some (.int .i64 n) ∧ w'.cell? ⟨z, 1, none⟩ = some (.slice ao E1.length cap) ∧ w'.cell? ⟨z, 2, none⟩ = some (.slice aoi I1.length capi)) (by kernel_rfl) ?_ (fun hHeld => ?_)
      · ((try dsimp only); exact ⟨p0, p1, p2, d0, d1, d2⟩)
      have HB0b := Lib.hid (show Below w14.heap.size w14 w14.drew from below_drewN (Below.refl _ _) 1)
      refine Qt 0 (fun _ => ?_)
      refine Qt 1 (fun _ => ?_)
      refine Qt 2 (fun _ => ?_)
      refine wpAnyH_take (i := 3) (v := undef) rfl (by kernel_rfl) (by kernel_rfl) (by kernel_rfl) (fun _ _ _ h => h) (Or.inr ⟨by rfl, rfl⟩) (by assumption) ?_
      try simp only [Act.put, Qa, Qb, Qc, Qd, Qe, Qf]
      refine wpAnyH_take (i := 4) (v := undef) rfl (by kernel_rfl) (by kernel_rfl) (by kernel_rfl) (fun _ _ _ h => h) (Or.inr ⟨by rfl, rfl⟩) (by assumption) ?_
      try simp only [Act.put, Qa, Qb, Qc, Qd, Qe, Qf]
      refine wpAnyH_take (i := 5) (v := undef) rfl (by kernel_rfl) (by kernel_rfl) (by kernel_rfl) (fun _ _ _ h => h) (Or.inr ⟨by rfl, rfl⟩) (by assumption) ?_
      try simp only [Act.put, Qa, Qb, Qc, Qd, Qe, Qf]
      refine wpAnyH_take (i := 6) (v := undef) rfl (by kernel_rfl) (by kernel_rfl) (by kernel_rfl) (fun _ _ _ h => h) (Or.inr ⟨by rfl, rfl⟩) (by assumption) ?_
      try simp only [Act.put, Qa, Qb, Qc, Qd, Qe, Qf]
      refine wpAnyH_take (i := 7) (v := undef) rfl (by kernel_rfl) (by kernel_rfl) (by kernel_rfl) (fun _ _ _ h => h) (Or.inr ⟨by rfl, rfl⟩) (by assumption) ?_
      try simp only [Act.put, Qa, Qb, Qc, Qd, Qe, Qf]
      refine wpAnyH_take (i := 8) (v := undef) rfl (by kernel_rfl) (by kernel_rfl) (by kernel_rfl) (fun _ _ _ h => h) (Or.inr ⟨by rfl, rfl⟩) (by assumption) ?_
      try simp only [Act.put, Qa, Qb, Qc, Qd, Qe, Qf]
      refine wpAnyH_take (i := 9) (v := undef) rfl (by kernel_rfl) (by kernel_rfl) (by kernel_rfl) (fun _ _ _ h => h) (Or.inr ⟨by rfl, rfl⟩) (by assumption) ?_
      try simp only [Act.put, Qa, Qb, Qc, Qd, Qe, Qf]
      refine wpAnyH_take (i := 10) (v := undef) rfl (by kernel_rfl) (by kernel_rfl) (by kernel_rfl) (fun _ _ _ h => h) (Or.inr ⟨by rfl, rfl⟩) (by assumption) ?_
      try simp only [Act.put, Qa, Qb, Qc, Qd, Qe, Qf]
      refine wpAnyH_take (i := 11) (v := undef) rfl (by kernel_rfl) (by kernel_rfl) (by kernel_rfl) (fun _ _ _ h => h) (Or.inr ⟨by rfl, rfl⟩) (by assumption) ?_
      try simp only [Act.put, Qa, Qb, Qc, Qd, Qe, Qf]
      refine wpAnyH_take (i := 12) (v := undef) rfl (by kernel_rfl) (by kernel_rfl) (by kernel_rfl) (fun _ _ _ h => h) (Or.inr ⟨by rfl, rfl⟩) (by assumption) ?_
      try simp only [Act.put, Qa, Qb, Qc, Qd, Qe, Qf]
      refine wpAnyH_take (i := 13) (v := undef) rfl (by kernel_rfl) (by kernel_rfl) (by kernel_rfl) (fun _ _ _ h => h) (Or.inr ⟨by rfl, rfl⟩) (by assumption) ?_
      try simp only [Act.put, Qa, Qb, Qc, Qd, Qe, Qf]
      refine wpAnyH_take (i := 14) (v := undef) rfl (by kernel_rfl) (by kernel_rfl) (by kernel_rfl) (fun _ _ _ h => h) (Or.inr ⟨by rfl, rfl⟩) (by assumption) ?_
      try simp only [Act.put, Qa, Qb, Qc, Qd, Qe, Qf]
      refine wpAnyH_take (i := 15) (v := undef) rfl (by kernel_rfl) (by kernel_rfl) (by kernel_rfl) (fun _ _ _ h => h) (Or.inr ⟨by rfl, rfl⟩) (by assumption) ?_
      try simp only [Act.put, Qa, Qb, Qc, Qd, Qe, Qf]
      refine Qt 16 (fun _ => ?_)
      refine Qt 17 (fun _ => ?_)
      refine wpAnyH_done (by kernel_rfl) ?_ _
      go_wp2_with fail
      go_ret
      exact ⟨rfl, below_drewN HBa.out _⟩
    · obtain ⟨q0, hze⟩ := HQ2.out hW
      simp only [Gm.mk.injEq] at hze
      obtain ⟨hz1, hz2, hz3⟩ := hze
      subst hz1 hz2 hz3
      have eE : ((bs ll).toList == []) = false := by rw [Lib.toList_data, bs_data, beq_eq_false_iff_ne]; exact hW
      subst q0
      clear hW HQ1 HQ2
      refine wp_region_held_drew (S := fun w' => w'.cell? ⟨x, 0, none⟩ = some (.int .i64 xn) ∧ w'.cell? ⟨x, 1, none⟩ = some (.slice ae xE.length ce) ∧ w'.cell? ⟨x, 2, none⟩ = some (.slice ai xI.length ci) ∧ w'.cell? ⟨y, 0, none⟩ = some (.int .i64 xn) ∧ w'.cell? ⟨y, 1, none⟩ = some (.slice be xE.length de) ∧ w'.cell? ⟨y, 2, none⟩ = some (.slice bi xI.length di) ∧ w'.cell? ⟨z, 0, none⟩ = some (.int .i64 n) ∧ w'.cell? ⟨z, 1, none⟩ = some (.slice ao E1.length cap) ∧ w'.cell? ⟨z, 2, none⟩ = some (.slice aoi I1.length capi)) (by kernel_rfl) ?_ (fun hHeld => ?_)
      · ((try dsimp only); exact ⟨a0, a1, a2, b0, b1, b2, d0, d1, d2⟩)
      have HB0 := Lib.hid (show Below w10.heap.size w10 w10.drew from below_drewN (Below.refl _ _) 1)
      refine Qr 0 fun K hK => ?_
      go_simp
      go_at_call 5
      refine (scTold_any (HSV.out _ HB0.out)).mono ?_
      rintro e w11 ⟨rfl, hb⟩
      have HBw11 := Lib.hid (HB0.out.trans (hb.mono HB0.out.size))
      try go_wp2_with fail
      refine hK.out _ _ ?_ (fun hHeld => ?_)
      · ((try dsimp only); exact ⟨Kc HBw11.out LA a0, Kc HBw11.out LA a1, Kc HBw11.out LA a2, Kc HBw11.out LB b0, Kc HBw11.out LB b1, Kc HBw11.out LB b2, Kc HBw11.out LD d0, Kc HBw11.out LD d1, Kc HBw11.out LD d2⟩)
      clear hK K
      try simp only [Act.put, Qa, Qb, Qc, Qd, Qe, Qf]
      refine Qt 1 (fun _ => ?_)
      refine Qt 2 (fun _ => ?_)
      refine Qt 3 (fun _ => ?_)
      refine Qt 4 (fun _ => ?_)
      refine Qt 5 (fun _ => ?_)
      refine Qt 6 (fun _ => ?_)
      refine Qt 7 (fun _ => ?_)
      refine Qt 8 (fun _ => ?_)
      refine Qt 10 (fun _ => ?_)
      refine Qr 9 fun K hK => ?_
      go_simp
      go_at_call 18
      refine (Gr.gof_any xn (HSM.out.below HBw11.out) (Nat.le_trans HPL.out.1 (by decide)) (Nat.le_trans HPL.out.2.1 (by decide))).mono ?_
      rintro e w12 ⟨fe, fi, rfl, hsf, hb⟩
      have HBw12 := Lib.hid (HBw11.out.trans (hb.mono HBw11.out.size))
      try go_wp2_with fail
      refine hK.out _ _ ?_ (fun hHeld => ?_)
      · ((try dsimp only); exact ⟨Kc HBw12.out LA a0, Kc HBw12.out LA a1, Kc HBw12.out LA a2, Kc HBw12.out LB b0, Kc HBw12.out LB b1, Kc HBw12.out LB b2, Kc HBw12.out LD d0, Kc HBw12.out LD d1, Kc HBw12.out LD d2⟩)
      clear hK K
      try simp only [Act.put, Qa, Qb, Qc, Qd, Qe, Qf]
      have HF12 := Lib.hid (mem_grR (n := xn) hsf)
      clear hsf
      refine Qr 11 fun K hK => ?_
      go_simp
      go_at_call 17
      refine (sameG_self HF12.out (HR10.out.below HBw12.out)).mono ?_
      rintro e w13 ⟨rfl, hb⟩
      have HBw13 := Lib.hid (HBw12.out.trans (hb.mono HBw12.out.size))
      try go_wp2_with fail
      refine hK.out _ _ ?_ (fun hHeld => ?_)
      · ((try dsimp only); exact ⟨Kc HBw13.out LA a0, Kc HBw13.out LA a1, Kc HBw13.out LA a2, Kc HBw13.out LB b0, Kc HBw13.out LB b1, Kc HBw13.out LB b2, Kc HBw13.out LD d0, Kc HBw13.out LD d1, Kc HBw13.out LD d2⟩)
      clear hK K
      try simp only [Act.put, Qa, Qb, Qc, Qd, Qe, Qf]
      refine Qt 12 (fun _ => ?_)
      refine Qt 13 (fun _ => ?_)
      refine Qt 14 (fun _ => ?_)
      refine Qt 15 (fun _ => ?_)
      refine Qt 16 (fun _ => ?_)
      refine Qr 17 fun K hK => ?_
      go_simp
      go_at_call 19
      refine (HRL.out _ HBw13.out).mono ?_
      rintro e w14 ⟨rfl, hb⟩
      have HBw14 := Lib.hid (HBw13.out.trans (hb.mono HBw13.out.size))
      try go_wp2_with fail
      refine hK.out _ _ ?_ (fun hHeld => ?_)
      · ((try dsimp only); exact ⟨Kc HBw14.out LA a0, Kc HBw14.out LA a1, Kc HBw14.out LA a2, Kc HBw14.out LB b0, Kc HBw14.out LB b1, Kc HBw14.out LB b2, Kc HBw14.out LD d0, Kc HBw14.out LD d1, Kc HBw14.out LD d2⟩)
      clear hK K
      try simp only [Act.put, Qa, Qb, Qc, Qd, Qe, Qf]
      refine Qt 18 (fun _ => ?_)
      refine Qt 19 (fun _ => ?_)
      refine Qt 20 (fun _ => ?_)
      refine Qt 21 (fun _ => ?_)
      refine Qt 22 (fun _ => ?_)
      refine Qt 23 (fun _ => ?_)
      refine Qt 24 (fun _ => ?_)
      refine Qt 25 (fun _ => ?_)
      refine Qt 26 (fun _ => ?_)
      refine Qt 27 (fun _ => ?_)
      refine Qt 28 (fun _ => ?_)
      refine wpAnyH_take (i := 29) (v := undef) rfl (by kernel_rfl) (by kernel_rfl) (by kernel_rfl) (fun _ _ _ h => h) (Or.inr ⟨by rfl, rfl⟩) (by assumption) ?_
      try simp only [Act.put, Qa, Qb, Qc, Qd, Qe, Qf]
      refine wpAnyH_take (i := 30) (v := undef) rfl (by kernel_rfl) (by kernel_rfl) (by kernel_rfl) (fun _ _ _ h => h) (Or.inr ⟨by rfl, rfl⟩) (by assumption) ?_
      try simp only [Act.put, Qa, Qb, Qc, Qd, Qe, Qf]
      refine wpAnyH_take (i := 31) (v := undef) rfl (by kernel_rfl) (by kernel_rfl) (by kernel_rfl) (fun _ _ _ h => h) (Or.inr ⟨by rfl, rfl⟩) (by assumption) ?_
      try simp only [Act.put, Qa, Qb, Qc, Qd, Qe, Qf]
      refine wpAnyH_take (i := 32) (v := undef) rfl (by kernel_rfl) (by kernel_rfl) (by kernel_rfl) (fun _ _ _ h => h) (Or.inr ⟨by rfl, rfl⟩) (by assumption) ?_
      try simp only [Act.put, Qa, Qb, Qc, Qd, Qe, Qf]
      refine Qt 33 (fun _ => ?_)
      refine Qt 34 (fun _ => ?_)
      refine wpAnyH_done (by kernel_rfl) ?_ _
      have hKg1 := HKA.out
      have hKg2 := HKB.out
      have HBa := Lib.hid (HB10.out.trans (HBw14.out.mono HB10.out.size))
      have HXa := Lib.hid (load3 HX10.out HBw14.out (Array.getElem?_eq_some_iff.1 HX10.out).1)
      have HQa := Lib.hid (load3 HQ10.out HBw14.out (Array.getElem?_eq_some_iff.1 HQ10.out).1)
      have HWa := Lib.hid (HWM.out.below HBw14.out)
      have HGa := Lib.hid ((HG.out.below HB10.out).below HBw14.out)
      have LQ := (Array.getElem?_eq_some_iff.1 HQa.out).1
      have LX := (Array.getElem?_eq_some_iff.1 HXa.out).1
      clear a0 a1 a2 b0 b1 b2 d0 d1 d2
      obtain ⟨p0, p1, p2⟩ := cells3 HQa.out
      obtain ⟨d0, d1, d2⟩ := cells3 HXa.out
      go_upto_region 10 with fail
      refine wp_region_held_drew (S := fun w' => w'.cell? ⟨q, 0, none⟩ = some (.int .i64 n) ∧ w'.cell? ⟨q, 1, none⟩ = some (.slice re E1.length te) ∧ w'.cell? ⟨q, 2, none⟩ = some (.slice ri I1.length ti) ∧ w'.cell? ⟨z, 0, none⟩ = some (.int .i64 n) ∧ w'.cell? ⟨z, 1, none⟩ = some (.slice ao E1.length cap) ∧ w'.cell? ⟨z, 2, none⟩ = some (.slice aoi I1.length capi)) (by kernel_rfl) ?_ (fun hHeld => ?_)
      · ((try dsimp only); exact ⟨p0, p1, p2, d0, d1, d2⟩)
      have HB0b := Lib.hid (show Below w14.heap.size w14 w14.drew from below_drewN (Below.refl _ _) 1)
      refine Qt 0 (fun _ => ?_)
      refine Qt 1 (fun _ => ?_)
      refine Qt 2 (fun _ => ?_)
      refine Qt 3 (fun _ => ?_)
      refine Qt 5 (fun _ => ?_)
      refine Qr 4 fun K hK => ?_
      go_simp
      go_at_call 18
      refine (Gr.gof_any n (HWa.out.below HB0b.out) (Nat.le_trans HQL.out.1 (by decide)) (Nat.le_trans HQL.out.2.1 (by decide))).mono ?_
      rintro e w21 ⟨ge, gi, rfl, hsg, hb⟩
      have HBw21 := Lib.hid (HB0b.out.trans (hb.mono HB0b.out.size))
      try go_wp2_with fail
      refine hK.out _ _ ?_ (fun hHeld => ?_)
      · ((try dsimp only); exact ⟨Kc HBw21.out LQ p0, Kc HBw21.out LQ p1, Kc HBw21.out LQ p2, Kc HBw21.out LX d0, Kc HBw21.out LX d1, Kc HBw21.out LX d2⟩)
      clear hK K
      try simp only [Act.put, Qa, Qb, Qc, Qd, Qe, Qf]
      have HF21 := Lib.hid (mem_grR (n := n) hsg)
      clear hsg
      refine Qr 6 fun K hK => ?_
      go_simp
      go_at_call 17
      refine (sameG_self HF21.out (mem_grR (HGa.out.below HBw21.out))).mono ?_
      rintro e w22 ⟨rfl, hb⟩
      have HBw22 := Lib.hid (HBw21.out.trans (hb.mono HBw21.out.size))
      try go_wp2_with fail
      refine hK.out _ _ ?_ (fun hHeld => ?_)
      · ((try dsimp only); exact ⟨Kc HBw22.out LQ p0, Kc HBw22.out LQ p1, Kc HBw22.out LQ p2, Kc HBw22.out LX d0, Kc HBw22.out LX d1, Kc HBw22.out LX d2⟩)
      clear hK K
      try simp only [Act.put, Qa, Qb, Qc, Qd, Qe, Qf]
      refine Qt 7 (fun _ => ?_)
      refine Qr 8 fun K hK => ?_
      go_simp
      go_at_call 21
      refine (rread_nil _).mono ?_
      rintro e w23 ⟨rg, rh, rfl, hrg, hb⟩
      have HBw23 := Lib.hid (HBw22.out.trans (hb.mono HBw22.out.size))
      try go_wp2_with fail
      refine hK.out _ _ ?_ (fun hHeld => ?_)
      · ((try dsimp only); exact ⟨Kc HBw23.out LQ p0, Kc HBw23.out LQ p1, Kc HBw23.out LQ p2, Kc HBw23.out LX d0, Kc HBw23.out LX d1, Kc HBw23.out LX d2⟩)
      clear hK K
      try simp only [Act.put, Qa, Qb, Qc, Qd, Qe, Qf]
      have HPM := Lib.hid (rd_read hrg)
      clear hrg
      have hfa : ∀ (a b h p : Value) (W : World), (Instr.field 64 (.agg #[.int .i64 1, a, b, .int .i64 1, .int .i64 1, .int .i64 1, .int .i64 1, h, p]) 0).run Tryz.prog W = .ok (.agg #[.int .i64 1, a, b, .int .i64 1, .int .i64 1, .int .i64 1, .int .i64 1]) W := by
        intro a b h p W
        first | kernel_rfl | simp [Instr.field, part, asAgg, go_sem]
      have hfb : ∀ (a b : Value) (W : World), (Instr.field 58 (.agg #[.int .i64 1, a, b, .int .i64 1, .int .i64 1, .int .i64 1, .int .i64 1]) 0).run Tryz.prog W = .ok (.agg #[.int .i64 1, a, b]) W := by
        intro a b W
        first | kernel_rfl | simp [Instr.field, part, asAgg, go_sem]
      have hfc : ∀ (a b : Value) (W : World), (Instr.field 47 (.agg #[.int .i64 1, a, b]) 2).run Tryz.prog W = .ok b W := by
        intro a b W
        first | kernel_rfl | simp [Instr.field, part, asAgg, go_sem]
      refine Qt 9 (fun _ => ?_)
      refine Qr 10 fun K hK => ?_
      go_simp
      go_at_call 20
      refine (Md.mdPlan_any 1 1 1 1 1 HPM.out (by decide) (by decide)).mono ?_
      rintro e w24 ⟨pe, pi, rfl, hgp, hb⟩
      have HBw24 := Lib.hid (HBw23.out.trans (hb.mono HBw23.out.size))
      try go_wp2_with fail
      refine hK.out _ _ ?_ (fun hHeld => ?_)
      · ((try dsimp only); exact ⟨Kc HBw24.out LQ p0, Kc HBw24.out LQ p1, Kc HBw24.out LQ p2, Kc HBw24.out LX d0, Kc HBw24.out LX d1, Kc HBw24.out LX d2⟩)
      clear hK K
      try simp only [Act.put, Qa, Qb, Qc, Qd, Qe, Qf]
      obtain ⟨pa, pk, rfl, -⟩ := id hgp.inp
      clear hgp
      refine Qt 11 (fun _ => ?_)
      refine Qt 12 (fun _ => ?_)
      refine Qt 13 (fun _ => ?_)
      refine Qt 14 (fun _ => ?_)
      refine Qt 15 (fun _ => ?_)
      refine Qt 16 (fun _ => ?_)
      refine Qt 17 (fun _ => ?_)
      refine wpAnyH_done (by kernel_rfl) ?_ _
      go_wp2_with fail
      go_ret
      exact ⟨rfl, HBa.out.trans (HBw24.out.mono HBa.out.size)⟩
  · have HLX := Lib.hid (fun w' (r : Gr.GMemP w' (.slice ae xE.length ce) (.slice ai xI.length ci) xE xI) (sv : SV w') => (by have qq := scGraph_any xn r.ed r.inp HPL.out.2.2 (Nat.le_trans HPL.out.1 (by decide)) (Nat.le_trans HPL.out.2.1 (by decide)) sv; rw [HOS.out rfl] at qq; exact qq : Calls Tryz.prog 15 #[.agg #[.int .i64 xn, .slice ae xE.length ce, .slice ai xI.length ci]] w' fun e w'' => e = .returned (.string (bs s)) ∧ Below w'.heap.size w' w''))
    clear HOS
    by_cases hW : ll = []
    · have q0 := HQ1.out hW
      have eE : ((bs ll).toList == []) = true := by rw [Lib.toList_data, bs_data, hW]; rfl
      subst q0
      clear hW HQ1 HQ2
      refine wp_region_held_drew (S := fun w' => w'.cell? ⟨x, 0, none⟩ = some (.int .i64 xn) ∧ w'.cell? ⟨x, 1, none⟩ = some (.slice ae xE.length ce) ∧ w'.cell? ⟨x, 2, none⟩ = some (.slice ai xI.length ci) ∧ w'.cell? ⟨y, 0, none⟩ = some (.int .i64 xn) ∧ w'.cell? ⟨y, 1, none⟩ = some (.slice be xE.length de) ∧ w'.cell? ⟨y, 2, none⟩ = some (.slice bi xI.length di) ∧ w'.cell? ⟨z, 0, none⟩ = some (.int .i64 n) ∧ w'.cell? ⟨z, 1, none⟩ = some (.slice ao E1.length cap) ∧ w'.cell? ⟨z, 2, none⟩ = some (.slice aoi I1.length capi)) (by kernel_rfl) ?_ (fun hHeld => ?_)
      · ((try dsimp only); exact ⟨a0, a1, a2, b0, b1, b2, d0, d1, d2⟩)
      have HB0 := Lib.hid (show Below w10.heap.size w10 w10.drew from below_drewN (Below.refl _ _) 1)
      refine Qr 0 fun K hK => ?_
      go_simp
      go_at_call 5
      refine (scTold_any (HSV.out _ HB0.out)).mono ?_
      rintro e w11 ⟨rfl, hb⟩
      have HBw11 := Lib.hid (HB0.out.trans (hb.mono HB0.out.size))
      try go_wp2_with fail
      refine hK.out _ _ ?_ (fun hHeld => ?_)
      · ((try dsimp only); exact ⟨Kc HBw11.out LA a0, Kc HBw11.out LA a1, Kc HBw11.out LA a2, Kc HBw11.out LB b0, Kc HBw11.out LB b1, Kc HBw11.out LB b2, Kc HBw11.out LD d0, Kc HBw11.out LD d1, Kc HBw11.out LD d2⟩)
      clear hK K
      try simp only [Act.put, Qa, Qb, Qc, Qd, Qe, Qf]
      refine Qt 1 (fun _ => ?_)
      refine Qt 2 (fun _ => ?_)
      refine Qt 3 (fun _ => ?_)
      refine Qt 4 (fun _ => ?_)
      refine Qt 5 (fun _ => ?_)
      refine Qt 6 (fun _ => ?_)
      refine Qt 7 (fun _ => ?_)
      refine Qt 8 (fun _ => ?_)
      refine Qt 10 (fun _ => ?_)
      refine Qr 9 fun K hK => ?_
      go_simp
      go_at_call 18
      refine (Gr.gof_any xn (HSM.out.below HBw11.out) (Nat.le_trans HPL.out.1 (by decide)) (Nat.le_trans HPL.out.2.1 (by decide))).mono ?_
      rintro e w12 ⟨fe, fi, rfl, hsf, hb⟩
      have HBw12 := Lib.hid (HBw11.out.trans (hb.mono HBw11.out.size))
      try go_wp2_with fail
      refine hK.out _ _ ?_ (fun hHeld => ?_)
      · ((try dsimp only); exact ⟨Kc HBw12.out LA a0, Kc HBw12.out LA a1, Kc HBw12.out LA a2, Kc HBw12.out LB b0, Kc HBw12.out LB b1, Kc HBw12.out LB b2, Kc HBw12.out LD d0, Kc HBw12.out LD d1, Kc HBw12.out LD d2⟩)
      clear hK K
      try simp only [Act.put, Qa, Qb, Qc, Qd, Qe, Qf]
      have HF12 := Lib.hid (mem_grR (n := xn) hsf)
      clear hsf
      refine Qr 11 fun K hK => ?_
      go_simp
      go_at_call 17
      refine (sameG_self HF12.out (HR10.out.below HBw12.out)).mono ?_
      rintro e w13 ⟨rfl, hb⟩
      have HBw13 := Lib.hid (HBw12.out.trans (hb.mono HBw12.out.size))
      try go_wp2_with fail
      refine hK.out _ _ ?_ (fun hHeld => ?_)
      · ((try dsimp only); exact ⟨Kc HBw13.out LA a0, Kc HBw13.out LA a1, Kc HBw13.out LA a2, Kc HBw13.out LB b0, Kc HBw13.out LB b1, Kc HBw13.out LB b2, Kc HBw13.out LD d0, Kc HBw13.out LD d1, Kc HBw13.out LD d2⟩)
      clear hK K
      try simp only [Act.put, Qa, Qb, Qc, Qd, Qe, Qf]
      refine Qt 12 (fun _ => ?_)
      refine Qt 13 (fun _ => ?_)
      refine Qt 14 (fun _ => ?_)
      refine Qt 15 (fun _ => ?_)
      refine Qt 16 (fun _ => ?_)
      refine Qr 17 fun K hK => ?_
      go_simp
      go_at_call 19
      refine (HRL.out _ HBw13.out).mono ?_
      rintro e w14 ⟨rfl, hb⟩
      have HBw14 := Lib.hid (HBw13.out.trans (hb.mono HBw13.out.size))
      try go_wp2_with fail
      refine hK.out _ _ ?_ (fun hHeld => ?_)
      · ((try dsimp only); exact ⟨Kc HBw14.out LA a0, Kc HBw14.out LA a1, Kc HBw14.out LA a2, Kc HBw14.out LB b0, Kc HBw14.out LB b1, Kc HBw14.out LB b2, Kc HBw14.out LD d0, Kc HBw14.out LD d1, Kc HBw14.out LD d2⟩)
      clear hK K
      try simp only [Act.put, Qa, Qb, Qc, Qd, Qe, Qf]
      refine Qt 18 (fun _ => ?_)
      refine Qt 19 (fun _ => ?_)
      refine Qt 20 (fun _ => ?_)
      refine Qt 21 (fun _ => ?_)
      refine Qt 22 (fun _ => ?_)
      refine Qt 23 (fun _ => ?_)
      refine Qt 24 (fun _ => ?_)
      refine Qt 25 (fun _ => ?_)
      refine Qt 26 (fun _ => ?_)
      refine Qt 27 (fun _ => ?_)
      refine Qt 28 (fun _ => ?_)
      refine Qt 29 (fun _ => ?_)
      refine Qt 31 (fun _ => ?_)
      refine Qr 30 fun K hK => ?_
      go_simp
      go_at_call 15
      refine (HLX.out _ (HSM.out.below HBw14.out) (HSV.out _ HBw14.out)).mono ?_
      rintro e w15 ⟨rfl, hb⟩
      have HBw15 := Lib.hid (HBw14.out.trans (hb.mono HBw14.out.size))
      try go_wp2_with fail
      refine hK.out _ _ ?_ (fun hHeld => ?_)
      · ((try dsimp only); exact ⟨Kc HBw15.out LA a0, Kc HBw15.out LA a1, Kc HBw15.out LA a2, Kc HBw15.out LB b0, Kc HBw15.out LB b1, Kc HBw15.out LB b2, Kc HBw15.out LD d0, Kc HBw15.out LD d1, Kc HBw15.out LD d2⟩)
      clear hK K
      try simp only [Act.put, Qa, Qb, Qc, Qd, Qe, Qf]
      refine Qt 32 (fun _ => ?_)
      refine Qt 33 (fun _ => ?_)
      refine Qt 34 (fun _ => ?_)
      refine wpAnyH_done (by kernel_rfl) ?_ _
      have hKg1 := HKA.out
      have hKg2 := HKB.out
      have HBa := Lib.hid (HB10.out.trans (HBw15.out.mono HB10.out.size))
      have HXa := Lib.hid (load3 HX10.out HBw15.out (Array.getElem?_eq_some_iff.1 HX10.out).1)
      have HQa := Lib.hid (load3 HQ10.out HBw15.out (Array.getElem?_eq_some_iff.1 HQ10.out).1)
      have HWa := Lib.hid (HWM.out.below HBw15.out)
      have HGa := Lib.hid ((HG.out.below HB10.out).below HBw15.out)
      have LQ := (Array.getElem?_eq_some_iff.1 HQa.out).1
      have LX := (Array.getElem?_eq_some_iff.1 HXa.out).1
      clear a0 a1 a2 b0 b1 b2 d0 d1 d2
      obtain ⟨p0, p1, p2⟩ := cells3 HQa.out
      obtain ⟨d0, d1, d2⟩ := cells3 HXa.out
      go_upto_region 10 with fail
      refine wp_region_held_drew (S := fun w' => w'.cell? ⟨q, 0, none⟩ = some (.int .i64 zn) ∧ w'.cell? ⟨q, 1, none⟩ = some (.slice re zE.length te) ∧ w'.cell? ⟨q, 2, none⟩ = some (.slice ri zI.length ti) ∧ w'.cell? ⟨z, 0, none⟩ = some (.int .i64 n) ∧ w'.cell? ⟨z, 1, none⟩ = some (.slice ao E1.length cap) ∧ w'.cell? ⟨z, 2, none⟩ = some (.slice aoi I1.length capi)) (by kernel_rfl) ?_ (fun hHeld => ?_)
      · ((try dsimp only); exact ⟨p0, p1, p2, d0, d1, d2⟩)
      have HB0b := Lib.hid (show Below w15.heap.size w15 w15.drew from below_drewN (Below.refl _ _) 1)
      refine Qt 0 (fun _ => ?_)
      refine Qt 1 (fun _ => ?_)
      refine Qt 2 (fun _ => ?_)
      refine wpAnyH_take (i := 3) (v := undef) rfl (by kernel_rfl) (by kernel_rfl) (by kernel_rfl) (fun _ _ _ h => h) (Or.inr ⟨by rfl, rfl⟩) (by assumption) ?_
      try simp only [Act.put, Qa, Qb, Qc, Qd, Qe, Qf]
      refine wpAnyH_take (i := 4) (v := undef) rfl (by kernel_rfl) (by kernel_rfl) (by kernel_rfl) (fun _ _ _ h => h) (Or.inr ⟨by rfl, rfl⟩) (by assumption) ?_
      try simp only [Act.put, Qa, Qb, Qc, Qd, Qe, Qf]
      refine wpAnyH_take (i := 5) (v := undef) rfl (by kernel_rfl) (by kernel_rfl) (by kernel_rfl) (fun _ _ _ h => h) (Or.inr ⟨by rfl, rfl⟩) (by assumption) ?_
      try simp only [Act.put, Qa, Qb, Qc, Qd, Qe, Qf]
      refine wpAnyH_take (i := 6) (v := undef) rfl (by kernel_rfl) (by kernel_rfl) (by kernel_rfl) (fun _ _ _ h => h) (Or.inr ⟨by rfl, rfl⟩) (by assumption) ?_
      try simp only [Act.put, Qa, Qb, Qc, Qd, Qe, Qf]
      refine wpAnyH_take (i := 7) (v := undef) rfl (by kernel_rfl) (by kernel_rfl) (by kernel_rfl) (fun _ _ _ h => h) (Or.inr ⟨by rfl, rfl⟩) (by assumption) ?_
      try simp only [Act.put, Qa, Qb, Qc, Qd, Qe, Qf]
      refine wpAnyH_take (i := 8) (v := undef) rfl (by kernel_rfl) (by kernel_rfl) (by kernel_rfl) (fun _ _ _ h => h) (Or.inr ⟨by rfl, rfl⟩) (by assumption) ?_
      try simp only [Act.put, Qa, Qb, Qc, Qd, Qe, Qf]
      refine wpAnyH_take (i := 9) (v := undef) rfl (by kernel_rfl) (by kernel_rfl) (by kernel_rfl) (fun _ _ _ h => h) (Or.inr ⟨by rfl, rfl⟩) (by assumption) ?_
      try simp only [Act.put, Qa, Qb, Qc, Qd, Qe, Qf]
      refine wpAnyH_take (i := 10) (v := undef) rfl (by kernel_rfl) (by kernel_rfl) (by kernel_rfl) (fun _ _ _ h => h) (Or.inr ⟨by rfl, rfl⟩) (by assumption) ?_
      try simp only [Act.put, Qa, Qb, Qc, Qd, Qe, Qf]
      refine wpAnyH_take (i := 11) (v := undef) rfl (by kernel_rfl) (by kernel_rfl) (by kernel_rfl) (fun _ _ _ h => h) (Or.inr ⟨by rfl, rfl⟩) (by assumption) ?_
      try simp only [Act.put, Qa, Qb, Qc, Qd, Qe, Qf]
      refine wpAnyH_take (i := 12) (v := undef) rfl (by kernel_rfl) (by kernel_rfl) (by kernel_rfl) (fun _ _ _ h => h) (Or.inr ⟨by rfl, rfl⟩) (by assumption) ?_
      try simp only [Act.put, Qa, Qb, Qc, Qd, Qe, Qf]
      refine wpAnyH_take (i := 13) (v := undef) rfl (by kernel_rfl) (by kernel_rfl) (by kernel_rfl) (fun _ _ _ h => h) (Or.inr ⟨by rfl, rfl⟩) (by assumption) ?_
      try simp only [Act.put, Qa, Qb, Qc, Qd, Qe, Qf]
      refine wpAnyH_take (i := 14) (v := undef) rfl (by kernel_rfl) (by kernel_rfl) (by kernel_rfl) (fun _ _ _ h => h) (Or.inr ⟨by rfl, rfl⟩) (by assumption) ?_
      try simp only [Act.put, Qa, Qb, Qc, Qd, Qe, Qf]
      refine wpAnyH_take (i := 15) (v := undef) rfl (by kernel_rfl) (by kernel_rfl) (by kernel_rfl) (fun _ _ _ h => h) (Or.inr ⟨by rfl, rfl⟩) (by assumption) ?_
      try simp only [Act.put, Qa, Qb, Qc, Qd, Qe, Qf]
      refine Qt 16 (fun _ => ?_)
      refine Qt 17 (fun _ => ?_)
      refine wpAnyH_done (by kernel_rfl) ?_ _
      go_wp2_with fail
      go_ret
      exact ⟨rfl, below_drewN HBa.out _⟩
    · obtain ⟨q0, hze⟩ := HQ2.out hW
      simp only [Gm.mk.injEq] at hze
      obtain ⟨hz1, hz2, hz3⟩ := hze
      subst hz1 hz2 hz3
      have eE : ((bs ll).toList == []) = false := by rw [Lib.toList_data, bs_data, beq_eq_false_iff_ne]; exact hW
      subst q0
      clear hW HQ1 HQ2
      refine wp_region_held_drew (S := fun w' => w'.cell? ⟨x, 0, none⟩ = some (.int .i64 xn) ∧ w'.cell? ⟨x, 1, none⟩ = some (.slice ae xE.length ce) ∧ w'.cell? ⟨x, 2, none⟩ = some (.slice ai xI.length ci) ∧ w'.cell? ⟨y, 0, none⟩ = some (.int .i64 xn) ∧ w'.cell? ⟨y, 1, none⟩ = some (.slice be xE.length de) ∧ w'.cell? ⟨y, 2, none⟩ = some (.slice bi xI.length di) ∧ w'.cell? ⟨z, 0, none⟩ = some (.int .i64 n) ∧ w'.cell? ⟨z, 1, none⟩ = some (.slice ao E1.length cap) ∧ w'.cell? ⟨z, 2, none⟩ = some (.slice aoi I1.length capi)) (by kernel_rfl) ?_ (fun hHeld => ?_)
      · ((try dsimp only); exact ⟨a0, a1, a2, b0, b1, b2, d0, d1, d2⟩)
      have HB0 := Lib.hid (show Below w10.heap.size w10 w10.drew from below_drewN (Below.refl _ _) 1)
      refine Qr 0 fun K hK => ?_
      go_simp
      go_at_call 5
      refine (scTold_any (HSV.out _ HB0.out)).mono ?_
      rintro e w11 ⟨rfl, hb⟩
      have HBw11 := Lib.hid (HB0.out.trans (hb.mono HB0.out.size))
      try go_wp2_with fail
      refine hK.out _ _ ?_ (fun hHeld => ?_)
      · ((try dsimp only); exact ⟨Kc HBw11.out LA a0, Kc HBw11.out LA a1, Kc HBw11.out LA a2, Kc HBw11.out LB b0, Kc HBw11.out LB b1, Kc HBw11.out LB b2, Kc HBw11.out LD d0, Kc HBw11.out LD d1, Kc HBw11.out LD d2⟩)
      clear hK K
      try simp only [Act.put, Qa, Qb, Qc, Qd, Qe, Qf]
      refine Qt 1 (fun _ => ?_)
      refine Qt 2 (fun _ => ?_)
      refine Qt 3 (fun _ => ?_)
      refine Qt 4 (fun _ => ?_)
      refine Qt 5 (fun _ => ?_)
      refine Qt 6 (fun _ => ?_)
      refine Qt 7 (fun _ => ?_)
      refine Qt 8 (fun _ => ?_)
      refine Qt 10 (fun _ => ?_)
      refine Qr 9 fun K hK => ?_
      go_simp
      go_at_call 18
      refine (Gr.gof_any xn (HSM.out.below HBw11.out) (Nat.le_trans HPL.out.1 (by decide)) (Nat.le_trans HPL.out.2.1 (by decide))).mono ?_
      rintro e w12 ⟨fe, fi, rfl, hsf, hb⟩
      have HBw12 := Lib.hid (HBw11.out.trans (hb.mono HBw11.out.size))
      try go_wp2_with fail
      refine hK.out _ _ ?_ (fun hHeld => ?_)
      · ((try dsimp only); exact ⟨Kc HBw12.out LA a0, Kc HBw12.out LA a1, Kc HBw12.out LA a2, Kc HBw12.out LB b0, Kc HBw12.out LB b1, Kc HBw12.out LB b2, Kc HBw12.out LD d0, Kc HBw12.out LD d1, Kc HBw12.out LD d2⟩)
      clear hK K
      try simp only [Act.put, Qa, Qb, Qc, Qd, Qe, Qf]
      have HF12 := Lib.hid (mem_grR (n := xn) hsf)
      clear hsf
      refine Qr 11 fun K hK => ?_
      go_simp
      go_at_call 17
      refine (sameG_self HF12.out (HR10.out.below HBw12.out)).mono ?_
      rintro e w13 ⟨rfl, hb⟩
      have HBw13 := Lib.hid (HBw12.out.trans (hb.mono HBw12.out.size))
      try go_wp2_with fail
      refine hK.out _ _ ?_ (fun hHeld => ?_)
      · ((try dsimp only); exact ⟨Kc HBw13.out LA a0, Kc HBw13.out LA a1, Kc HBw13.out LA a2, Kc HBw13.out LB b0, Kc HBw13.out LB b1, Kc HBw13.out LB b2, Kc HBw13.out LD d0, Kc HBw13.out LD d1, Kc HBw13.out LD d2⟩)
      clear hK K
      try simp only [Act.put, Qa, Qb, Qc, Qd, Qe, Qf]
      refine Qt 12 (fun _ => ?_)
      refine Qt 13 (fun _ => ?_)
      refine Qt 14 (fun _ => ?_)
      refine Qt 15 (fun _ => ?_)
      refine Qt 16 (fun _ => ?_)
      refine Qr 17 fun K hK => ?_
      go_simp
      go_at_call 19
      refine (HRL.out _ HBw13.out).mono ?_
      rintro e w14 ⟨rfl, hb⟩
      have HBw14 := Lib.hid (HBw13.out.trans (hb.mono HBw13.out.size))
      try go_wp2_with fail
      refine hK.out _ _ ?_ (fun hHeld => ?_)
      · ((try dsimp only); exact ⟨Kc HBw14.out LA a0, Kc HBw14.out LA a1, Kc HBw14.out LA a2, Kc HBw14.out LB b0, Kc HBw14.out LB b1, Kc HBw14.out LB b2, Kc HBw14.out LD d0, Kc HBw14.out LD d1, Kc HBw14.out LD d2⟩)
      clear hK K
      try simp only [Act.put, Qa, Qb, Qc, Qd, Qe, Qf]
      refine Qt 18 (fun _ => ?_)
      refine Qt 19 (fun _ => ?_)
      refine Qt 20 (fun _ => ?_)
      refine Qt 21 (fun _ => ?_)
      refine Qt 22 (fun _ => ?_)
      refine Qt 23 (fun _ => ?_)
      refine Qt 24 (fun _ => ?_)
      refine Qt 25 (fun _ => ?_)
      refine Qt 26 (fun _ => ?_)
      refine Qt 27 (fun _ => ?_)
      refine Qt 28 (fun _ => ?_)
      refine Qt 29 (fun _ => ?_)
      refine Qt 31 (fun _ => ?_)
      refine Qr 30 fun K hK => ?_
      go_simp
      go_at_call 15
      refine (HLX.out _ (HSM.out.below HBw14.out) (HSV.out _ HBw14.out)).mono ?_
      rintro e w15 ⟨rfl, hb⟩
      have HBw15 := Lib.hid (HBw14.out.trans (hb.mono HBw14.out.size))
      try go_wp2_with fail
      refine hK.out _ _ ?_ (fun hHeld => ?_)
      · ((try dsimp only); exact ⟨Kc HBw15.out LA a0, Kc HBw15.out LA a1, Kc HBw15.out LA a2, Kc HBw15.out LB b0, Kc HBw15.out LB b1, Kc HBw15.out LB b2, Kc HBw15.out LD d0, Kc HBw15.out LD d1, Kc HBw15.out LD d2⟩)
      clear hK K
      try simp only [Act.put, Qa, Qb, Qc, Qd, Qe, Qf]
      refine Qt 32 (fun _ => ?_)
      refine Qt 33 (fun _ => ?_)
      refine Qt 34 (fun _ => ?_)
      refine wpAnyH_done (by kernel_rfl) ?_ _
      have hKg1 := HKA.out
      have hKg2 := HKB.out
      have HBa := Lib.hid (HB10.out.trans (HBw15.out.mono HB10.out.size))
      have HXa := Lib.hid (load3 HX10.out HBw15.out (Array.getElem?_eq_some_iff.1 HX10.out).1)
      have HQa := Lib.hid (load3 HQ10.out HBw15.out (Array.getElem?_eq_some_iff.1 HQ10.out).1)
      have HWa := Lib.hid (HWM.out.below HBw15.out)
      have HGa := Lib.hid ((HG.out.below HB10.out).below HBw15.out)
      have LQ := (Array.getElem?_eq_some_iff.1 HQa.out).1
      have LX := (Array.getElem?_eq_some_iff.1 HXa.out).1
      clear a0 a1 a2 b0 b1 b2 d0 d1 d2
      obtain ⟨p0, p1, p2⟩ := cells3 HQa.out
      obtain ⟨d0, d1, d2⟩ := cells3 HXa.out
      go_upto_region 10 with fail
      refine wp_region_held_drew (S := fun w' => w'.cell? ⟨q, 0, none⟩ = some (.int .i64 n) ∧ w'.cell? ⟨q, 1, none⟩ = some (.slice re E1.length te) ∧ w'.cell? ⟨q, 2, none⟩ = some (.slice ri I1.length ti) ∧ w'.cell? ⟨z, 0, none⟩ = some (.int .i64 n) ∧ w'.cell? ⟨z, 1, none⟩ = some (.slice ao E1.length cap) ∧ w'.cell? ⟨z, 2, none⟩ = some (.slice aoi I1.length capi)) (by kernel_rfl) ?_ (fun hHeld => ?_)
      · ((try dsimp only); exact ⟨p0, p1, p2, d0, d1, d2⟩)
      have HB0b := Lib.hid (show Below w15.heap.size w15 w15.drew from below_drewN (Below.refl _ _) 1)
      refine Qt 0 (fun _ => ?_)
      refine Qt 1 (fun _ => ?_)
      refine Qt 2 (fun _ => ?_)
      refine Qt 3 (fun _ => ?_)
      refine Qt 5 (fun _ => ?_)
      refine Qr 4 fun K hK => ?_
      go_simp
      go_at_call 18
      refine (Gr.gof_any n (HWa.out.below HB0b.out) (Nat.le_trans HQL.out.1 (by decide)) (Nat.le_trans HQL.out.2.1 (by decide))).mono ?_
      rintro e w21 ⟨ge, gi, rfl, hsg, hb⟩
      have HBw21 := Lib.hid (HB0b.out.trans (hb.mono HB0b.out.size))
      try go_wp2_with fail
      refine hK.out _ _ ?_ (fun hHeld => ?_)
      · ((try dsimp only); exact ⟨Kc HBw21.out LQ p0, Kc HBw21.out LQ p1, Kc HBw21.out LQ p2, Kc HBw21.out LX d0, Kc HBw21.out LX d1, Kc HBw21.out LX d2⟩)
      clear hK K
      try simp only [Act.put, Qa, Qb, Qc, Qd, Qe, Qf]
      have HF21 := Lib.hid (mem_grR (n := n) hsg)
      clear hsg
      refine Qr 6 fun K hK => ?_
      go_simp
      go_at_call 17
      refine (sameG_self HF21.out (mem_grR (HGa.out.below HBw21.out))).mono ?_
      rintro e w22 ⟨rfl, hb⟩
      have HBw22 := Lib.hid (HBw21.out.trans (hb.mono HBw21.out.size))
      try go_wp2_with fail
      refine hK.out _ _ ?_ (fun hHeld => ?_)
      · ((try dsimp only); exact ⟨Kc HBw22.out LQ p0, Kc HBw22.out LQ p1, Kc HBw22.out LQ p2, Kc HBw22.out LX d0, Kc HBw22.out LX d1, Kc HBw22.out LX d2⟩)
      clear hK K
      try simp only [Act.put, Qa, Qb, Qc, Qd, Qe, Qf]
      refine Qt 7 (fun _ => ?_)
      refine Qr 8 fun K hK => ?_
      go_simp
      go_at_call 21
      refine (rread_nil _).mono ?_
      rintro e w23 ⟨rg, rh, rfl, hrg, hb⟩
      have HBw23 := Lib.hid (HBw22.out.trans (hb.mono HBw22.out.size))
      try go_wp2_with fail
      refine hK.out _ _ ?_ (fun hHeld => ?_)
      · ((try dsimp only); exact ⟨Kc HBw23.out LQ p0, Kc HBw23.out LQ p1, Kc HBw23.out LQ p2, Kc HBw23.out LX d0, Kc HBw23.out LX d1, Kc HBw23.out LX d2⟩)
      clear hK K
      try simp only [Act.put, Qa, Qb, Qc, Qd, Qe, Qf]
      have HPM := Lib.hid (rd_read hrg)
      clear hrg
      have hfa : ∀ (a b h p : Value) (W : World), (Instr.field 64 (.agg #[.int .i64 1, a, b, .int .i64 1, .int .i64 1, .int .i64 1, .int .i64 1, h, p]) 0).run Tryz.prog W = .ok (.agg #[.int .i64 1, a, b, .int .i64 1, .int .i64 1, .int .i64 1, .int .i64 1]) W := by
        intro a b h p W
        first | kernel_rfl | simp [Instr.field, part, asAgg, go_sem]
      have hfb : ∀ (a b : Value) (W : World), (Instr.field 58 (.agg #[.int .i64 1, a, b, .int .i64 1, .int .i64 1, .int .i64 1, .int .i64 1]) 0).run Tryz.prog W = .ok (.agg #[.int .i64 1, a, b]) W := by
        intro a b W
        first | kernel_rfl | simp [Instr.field, part, asAgg, go_sem]
      have hfc : ∀ (a b : Value) (W : World), (Instr.field 47 (.agg #[.int .i64 1, a, b]) 2).run Tryz.prog W = .ok b W := by
        intro a b W
        first | kernel_rfl | simp [Instr.field, part, asAgg, go_sem]
      refine Qt 9 (fun _ => ?_)
      refine Qr 10 fun K hK => ?_
      go_simp
      go_at_call 20
      refine (Md.mdPlan_any 1 1 1 1 1 HPM.out (by decide) (by decide)).mono ?_
      rintro e w24 ⟨pe, pi, rfl, hgp, hb⟩
      have HBw24 := Lib.hid (HBw23.out.trans (hb.mono HBw23.out.size))
      try go_wp2_with fail
      refine hK.out _ _ ?_ (fun hHeld => ?_)
      · ((try dsimp only); exact ⟨Kc HBw24.out LQ p0, Kc HBw24.out LQ p1, Kc HBw24.out LQ p2, Kc HBw24.out LX d0, Kc HBw24.out LX d1, Kc HBw24.out LX d2⟩)
      clear hK K
      try simp only [Act.put, Qa, Qb, Qc, Qd, Qe, Qf]
      obtain ⟨pa, pk, rfl, -⟩ := id hgp.inp
      clear hgp
      refine Qt 11 (fun _ => ?_)
      refine Qt 12 (fun _ => ?_)
      refine Qt 13 (fun _ => ?_)
      refine Qt 14 (fun _ => ?_)
      refine Qt 15 (fun _ => ?_)
      refine Qt 16 (fun _ => ?_)
      refine Qt 17 (fun _ => ?_)
      refine wpAnyH_done (by kernel_rfl) ?_ _
      go_wp2_with fail
      go_ret
      exact ⟨rfl, HBa.out.trans (HBw24.out.mono HBa.out.size)⟩
end Go.Proofs.YtdbaacalfbbdiaaGreatDoor.Sc
