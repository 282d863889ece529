/-
  YtlkljeedlkbkgaaGreatDoorClFix
-/
import Derived.Test.YtlkljeedlkbkgaaGreatDoorClWith
import Derived.Test.YtlkljeedlkbkgaaGreatDoorJoined14
import Derived.Test.YtlkljeedlkbkgaaGreatDoorBagFix
import Derived.Deep.RegionHeldLaw
import Derived.BigQuiet
namespace Go.Proofs.YtlkljeedlkbkgaaGreatDoor.Cl
open Go.RowKit Gr
set_option linter.unusedVariables false
def modN (n : Nat) (x : Int) : Nat := ((IntKind.u64.wrap x).tmod (n : Int)).toNat
theorem u64w_range (x : Int) : 0 ≤ IntKind.u64.wrap x := by
  have : IntKind.u64.wrap x = x % 18446744073709551616 := by simp [IntKind.wrap, IntKind.bits, IntKind.signed]
  rw [this]; exact Int.emod_nonneg _ (by decide)
theorem modN_lt {n : Nat} (h : 1 ≤ n) (x : Int) : modN n x < n := by
  have h1 := Int.tmod_nonneg (n : Int) (u64w_range x)
  have h2 := Int.tmod_lt_of_pos (IntKind.u64.wrap x) (show (0 : Int) < (n : Int) by omega)
  unfold modN; omega
theorem modN_tm {n : Nat} (h : 1 ≤ n) (x : Int) : (IntKind.u64.wrap x).tmod (n : Int) = (modN n x : Int) := by
  have h1 := Int.tmod_nonneg (n : Int) (u64w_range x)
  unfold modN; omega
theorem modN_w {n : Nat} (h : 1 ≤ n) (hn : n ≤ 1000) (x : Int) : IntKind.i64.wrap (modN n x : Int) = (modN n x : Int) ∧ wrap64 (modN n x : Int) = (modN n x : Int) := by
  have := modN_lt h x
  constructor
  · rw [IntKind.wrap_i64]; omega
  · unfold wrap64; omega
def fixE (m : Nat) (x : Ed) : Ed := ⟨(modN 200 x.f : Int), (modN m x.t : Int), x.a.tmod 18446744073709551615⟩
def fixP (m : Nat) (c : Batch.Ch) : Batch.Ch := ⟨(modN m c.p : Int), c.t, c.d⟩
def fixO (H : List Ed) (m i : Nat) : List Ed := (H.take i).foldl (fun O x => withL O (fixE m x)) []
def fixHL (H : List Ed) (m : Nat) : List Ed := fixO H m 5
def fixBL (B : List Batch.Ch) (m : Nat) : List Batch.Ch := Batch.bagFixL (B.map (fixP m))
section
variable {H : List Ed} {B : List Batch.Ch} {m i : Nat} {x : Ed}
theorem fixO_succ (hx : H[i]? = some x) : fixO H m (i + 1) = withL (fixO H m i) (fixE m x) := by
  unfold fixO
  rw [Gr.take_succ' hx, List.foldl_append]
  rfl
theorem fixO_end (hi5 : i ≤ 5) (h : ¬ (i < H.length ∧ i < 5)) : fixO H m i = fixHL H m := by
  unfold fixHL fixO
  by_cases h' : i < H.length
  · obtain rfl : i = 5 := by omega
    rfl
  · rw [List.take_of_length_le (by omega), List.take_of_length_le (by omega)]
theorem fixE_fit (hm : 1 ≤ m ∧ m ≤ 64) (hx : x.Wf) : (0 ≤ (fixE m x).f ∧ (fixE m x).f < 200) ∧ (0 ≤ (fixE m x).t ∧ (fixE m x).t < m) ∧ 0 ≤ (fixE m x).a ∧ (fixE m x).a < 18446744073709551615 := by
  have h1 := modN_lt (show 1 ≤ 200 by decide) x.f
  have h2 := modN_lt hm.1 x.t
  refine ⟨⟨by show (0 : Int) ≤ (modN 200 x.f : Int); omega, by show (modN 200 x.f : Int) < 200; omega⟩, ⟨by show (0 : Int) ≤ (modN m x.t : Int); omega, by show (modN m x.t : Int) < (m : Int); omega⟩, Int.tmod_nonneg _ hx.a0, Int.tmod_lt_of_pos _ (by decide)⟩
theorem fixE_wf (hm : 1 ≤ m ∧ m ≤ 64) (hx : x.Wf) : (fixE m x).Wf := by
  obtain ⟨⟨h1, h2⟩, ⟨h3, h4⟩, h5, h6⟩ := fixE_fit hm hx
  exact ⟨by omega, by omega, by omega, by omega, by omega, by omega⟩
theorem fixO_all {p : Ed → Prop} (hp : ∀ y ∈ H, p (fixE m y)) (i : Nat) : ∀ y ∈ fixO H m i, p y := by
  have key : ∀ (l : List Ed), (∀ y ∈ l, p (fixE m y)) → ∀ O : List Ed, (∀ y ∈ O, p y) → ∀ y ∈ l.foldl (fun O x => withL O (fixE m x)) O, p y := by
    intro l
    induction l with
    | nil => intro _ O hO; exact hO
    | cons z r ih =>
      intro hl O hO
      exact ih (fun y hy => hl y (List.mem_cons_of_mem _ hy)) _ (fun y hy => (with_mem hy).elim (fun e => e ▸ hl z (List.mem_cons_self ..)) (hO y))
  exact key _ (fun y hy => hp y (List.mem_of_mem_take hy)) [] (by simp)
theorem fixO_rise (H : List Ed) (m i : Nat) : Rise (fixO H m i) := by
  have key : ∀ (l : List Ed) (O : List Ed), Rise O → Rise (l.foldl (fun O x => withL O (fixE m x)) O) := by
    intro l
    induction l with
    | nil => intro O hO; exact hO
    | cons z r ih => intro O hO; exact ih _ (with_rise hO _)
  exact key _ [] List.Pairwise.nil
theorem fixO_len (H : List Ed) (m i : Nat) : (fixO H m i).length ≤ i := by
  have key : ∀ (l : List Ed) (O : List Ed), (l.foldl (fun O x => withL O (fixE m x)) O).length ≤ O.length + l.length := by
    intro l
    induction l with
    | nil => intro O; simp
    | cons z r ih =>
      intro O
      have h1 := ih (withL O (fixE m z))
      have h2 := with_length (H := O) (fixE m z)
      simp only [List.foldl_cons, List.length_cons]
      omega
  have := key (H.take i) []
  rw [List.length_take] at this
  unfold fixO
  simp at this
  omega
theorem fixP_wf (hm : 1 ≤ m ∧ m ≤ 64) {c : Batch.Ch} (hc : c.Wf) : (fixP m c).Wf := by
  have h2 := modN_lt hm.1 c.p
  exact ⟨by show _ ≤ (modN m c.p : Int); omega, by show (modN m c.p : Int) ≤ _; omega, hc.t0, hc.t1, hc.d0, hc.d1⟩
end
theorem own_two {w : World} {g : Nat} {x y : Value} {T : TypeId} (h : w.heap[g]? = some (.cells #[x, y] T (0, 0))) : w.cell? ⟨g, 0, none⟩ = some x ∧ w.cell? ⟨g, 1, none⟩ = some y ∧ (∀ o, w.frozen? ⟨g, o, none⟩ = false) ∧ g < w.heap.size :=
  ⟨by simp [World.cell?, h], by simp [World.cell?, h], fun o => by simp [World.frozen?, h], (Array.getElem?_eq_some_iff.1 h).1⟩
theorem own_set0 {w : World} {g : Nat} {x y : Value} {T : TypeId} (h : w.heap[g]? = some (.cells #[x, y] T (0, 0))) (u : Value) : (w.setCell ⟨g, 0, none⟩ u).heap[g]? = some (.cells #[u, y] T (0, 0)) := by
  have := heap_setCell_same w g 0 _ T u h
  simpa using this
theorem own_set1 {w : World} {g : Nat} {x y : Value} {T : TypeId} (h : w.heap[g]? = some (.cells #[x, y] T (0, 0))) (u : Value) : (w.setCell ⟨g, 1, none⟩ u).heap[g]? = some (.cells #[x, u] T (0, 0)) := by
  have := heap_setCell_same w g 1 _ T u h
  simpa using this
theorem infoRC7 : (Tryz.prog.info? 67).map (fun i => (i.zero, i.size, i.bytes)) = some (some (.agg #[.int .i64 0, .int .u64 0, .int .i64 0]), 3, 24) := by kernel_rfl
set_option maxRecDepth 1000000 in
set_option maxHeartbeats 16000000 in
theorem ownfix_any {w : World} {vh vb : Value} {H : List Ed} {B : List Batch.Ch} (m : Nat) (hm : 1 ≤ m ∧ m ≤ 64) (hH : Rd w vh H) (hB : Batch.Rd w vb B) (hBl : B.length * 24 ≤ 140737488355328) :
    Calls Tryz.prog 7 #[.agg #[vh, vb], .int .i64 (m : Int)] w fun e w' => ∃ vh' vb', e = .returned (.agg #[vh', vb']) ∧ Own w' w.heap.size 50 vh' (fixHL H m) ∧ Batch.Own w' w.heap.size 67 vb' (fixBL B m) ∧ Below w.heap.size w w' := by
  obtain ⟨i0, hi, hz0, hz1, hz2⟩ := info_parts infoRC7
  have HH := Lib.hid hH
  have HB := Lib.hid hB
  have HM := Lib.hid hm
  have HWF := Lib.hid hH.wf
  have HWB := Lib.hid hB.wf
  have HBL := Lib.hid hBl
  clear hBl
  obtain ⟨ao, cap, rfl, hal, hac, _, hcell⟩ := hH
  obtain ⟨bo, bc, rfl, hbl, hbc, _, hcellb⟩ := hB
  have HC := Lib.hid hcell
  have HCB := Lib.hid hcellb
  have hl1 : H.length ≤ 9223372036854775807 := by omega
  have hl2 : B.length ≤ 9223372036854775807 := by omega
  obtain ⟨W1, hW1⟩ : ∃ W1, W1 = ((w.alloc (.cells #[.slice ao H.length cap, .slice bo B.length bc] 29)).alloc (.cells #[.slice none 0 0, .slice none 0 0] 29)).alloc (.cells #[.slice none 0 0, .slice none 0 0] 29) := ⟨_, rfl⟩
  have hb1 : Below w.heap.size w W1 := by rw [hW1]; exact (((Below.refl _ _).alloc (Nat.le_refl _) _).alloc (by simp) _).alloc (by simp; omega) _
  have hs1 : W1.heap.size = w.heap.size + 3 := by rw [hW1]; simp
  have hn0 : W1.heap[w.heap.size]? = some (.cells #[.slice ao H.length cap, .slice bo B.length bc] 29 (0, 0)) := by
    rw [hW1, heap_alloc_old _ _ (by simp; omega), heap_alloc_old _ _ (by simp)]; exact heap_alloc_new w _
  have hn1 : W1.heap[w.heap.size + 1]? = some (.cells #[.slice none 0 0, .slice none 0 0] 29 (0, 0)) := by
    rw [hW1, heap_alloc_old _ _ (by simp)]
    have := heap_alloc_new (w.alloc (.cells #[.slice ao H.length cap, .slice bo B.length bc] 29)) (.cells #[.slice none 0 0, .slice none 0 0] 29)
    rw [World.size_alloc] at this; exact this
  have hn2 : W1.heap[w.heap.size + 1 + 1]? = some (.cells #[.slice none 0 0, .slice none 0 0] 29 (0, 0)) := by
    rw [hW1]
    have := heap_alloc_new ((w.alloc (.cells #[.slice ao H.length cap, .slice bo B.length bc] 29)).alloc (.cells #[.slice none 0 0, .slice none 0 0] 29)) (.cells #[.slice none 0 0, .slice none 0 0] 29)
    rw [World.size_alloc, World.size_alloc] at this; exact this
  have HB1 := Lib.hid hb1
  have HS1 := Lib.hid hs1
  have HW1 := Lib.hid hW1
  have HN2 := Lib.hid hn2
  have HAX : Hid (∀ W, Below (w.heap.size + 2) W1 W → W.cell? ⟨w.heap.size, 0, none⟩ = some (.slice ao H.length cap) ∧ W.cell? ⟨w.heap.size, 1, none⟩ = some (.slice bo B.length bc) ∧ W.heap[w.heap.size + 1]? = some (.cells #[.slice none 0 0, .slice none 0 0] 29 (0, 0))) := Lib.hid (fun W hW => ⟨(hW.cell (p := ⟨w.heap.size, 0, none⟩) (show w.heap.size < w.heap.size + 2 by omega)).trans (own_two hn0).1, (hW.cell (p := ⟨w.heap.size, 1, none⟩) (show w.heap.size < w.heap.size + 2 by omega)).trans (own_two hn0).2.1, (hW.block _ (by omega)).trans hn1⟩)
  have HHC : Hid (∀ W, Below (w.heap.size + 2) W1 W → ∀ (i : Nat) x, H[i]? = some x → ∃ b off, ao = some ⟨b, off, none⟩ ∧ At3 W b (off + i * 3) x) := Lib.hid (fun W hW i x hx => by
    obtain ⟨b, off, e, hcc⟩ := hcell.resolve_left (fun e => by rw [e] at hx; simp at hx)
    exact ⟨b, off, e, (hcc i x hx).below (hb1.trans (hW.mono (by omega))) (hcc i x hx).lt⟩)
  have HBC : Hid (∀ W, Below (w.heap.size + 2) W1 W → ∀ (i : Nat) x, B[i]? = some x → ∃ b off, bo = some ⟨b, off, none⟩ ∧ Batch.At3 W b (off + i * 3) x) := Lib.hid (fun W hW i x hx => by
    obtain ⟨b, off, e, hcc⟩ := hcellb.resolve_left (fun e => by rw [e] at hx; simp at hx)
    exact ⟨b, off, e, (hcc i x hx).below (hb1.trans (hW.mono (by omega))) (hcc i x hx).lt⟩)
  obtain ⟨m0, m1⟩ := hm
  have hmu : IntKind.u64.wrap (m : Int) = (m : Int) := by simp [IntKind.wrap, IntKind.bits, IntKind.signed]; omega
  have hmz : ¬ (m : Int) = 0 := by omega
  have hmzb : ((m : Int) == 0) = false := by rw [beq_eq_false_iff_ne]; exact hmz
  have hmzn : ¬ m = 0 := by omega
  clear hn0 hn1 hn2 hb1 hs1 hal hac hbl hbc hcell hcellb
  go_enter Tryz.func7, Tryz.ntmps7
  go_upto_region 3 with fail
  rw [← HW1.out]
  clear hW1
  have HB0 : Hid (Below (w.heap.size + 2) W1 W1) := Lib.hid (Below.refl _ _)
  go_loopg [6] 6 (fun k t wr => ∃ (i : Nat) (vO : Value), i + k = 6 ∧ i ≤ 5 ∧ i ≤ H.length ∧ t = .int .i64 (i : Int) ∧ Hid (wr.heap[w.heap.size + 1 + 1]? = some (.cells #[vO, .slice none 0 0] 29 (0, 0))) ∧ Hid (Own wr (w.heap.size + 3) 50 vO (fixO H m i)) ∧ Hid (Below (w.heap.size + 2) W1 wr))
  case atStart => exact ⟨0, .slice none 0 0, by omega, by omega, by omega, rfl, HN2, Lib.hid (Own.nil _ _ _), HB0⟩
  case round =>
    obtain ⟨i, vO, hik, hi5, hil, rfl, HO, HV, HBW⟩ := hrel
    have HIK := Lib.hid (And.intro hik (And.intro hi5 hil))
    have hi0 : (0 : Int) ≤ (i : Int) := Int.natCast_nonneg _
    have hwi : IntKind.i64.wrap ((i : Int) + 1) = (i : Int) + 1 := by rw [IntKind.wrap_i64]; omega
    obtain ⟨a0, a1, a2⟩ := HAX.out _ HBW.out
    clear hik HB0
    by_cases hend : i < H.length ∧ i < 5
    · obtain ⟨h1, h2⟩ := hend
      have h1' : (i : Int) < (H.length : Int) := by omega
      have h2' : (i : Int) < 5 := by omega
      have HE := Lib.hid (And.intro h1 h2)
      obtain ⟨⟨xf, xt, xa⟩, hx⟩ : ∃ x, H[i]? = some x := ⟨_, List.getElem?_eq_getElem h1⟩
      obtain ⟨b, off, rfl, c0, c1, c2⟩ := HHC.out _ HBW.out i _ hx
      simp only at c0 c1 c2
      have HX := Lib.hid hx
      have HXW := Lib.hid (HWF.out _ (List.mem_of_getElem? hx))
      obtain ⟨o0, o1, of, ol⟩ := own_two HO.out
      obtain ⟨vo, vc, rfl⟩ : ∃ ao c, vO = .slice ao (fixO H m i).length c := by
        rcases HV.out.form with ⟨e1, e2⟩ | ⟨g, c, e2, _⟩
        · exact ⟨none, 0, by rw [e2, e1]; rfl⟩
        · exact ⟨_, _, e2⟩
      have HOW : Hid (∀ y ∈ fixO H m i, y.Wf) := Lib.hid (fixO_all (p := fun y => y.Wf) (fun y hy => fixE_wf HM.out (HWF.out y hy)) i)
      have e1 := modN_tm (show 1 ≤ 200 by decide) xf
      have e2 := modN_tm m0 xt
      obtain ⟨f1, f2⟩ := modN_w (show 1 ≤ 200 by decide) (by decide) xf
      obtain ⟨f3, f4⟩ := modN_w m0 (by omega) xt
      have e1' : (IntKind.u64.wrap xf).tmod 200 = (modN 200 xf : Int) := e1
      clear hx h1 h2 hi5 hil e1
      generalize hln : (fixO H m i).length = ln at *
      have HLN := Lib.hid hln
      clear hln
      generalize hmf : (modN 200 xf : Int) = mf at *
      generalize hmt : (modN m xt : Int) = mt at *
      have HMM := Lib.hid (And.intro hmf hmt)
      clear hmf hmt
      go_upto_region 6 with fail
      have hwb : Below (w.heap.size + 2) W1 (wr.alloc (.cells #[.int .i64 xf, .int .i64 xt, .int .u64 xa] 50)) := HBW.out.alloc (by have := HBW.out.size; have := HS1.out; omega) _
      have hwb0 : Below wr.heap.size wr (wr.alloc (.cells #[.int .i64 xf, .int .i64 xt, .int .u64 xa] 50)) := (Below.refl _ _).alloc (Nat.le_refl _) _
      have hxn := heap_alloc_new wr (.cells #[.int .i64 xf, .int .i64 xt, .int .u64 xa] 50)
      replace HO := Lib.hid ((hwb0.block _ ol).trans HO.out)
      replace HV := Lib.hid (HV.out.below hwb0)
      replace HBW := Lib.hid hwb
      have s0 : (wr.alloc (.cells #[.int .i64 xf, .int .i64 xt, .int .u64 xa] 50)).cell? ⟨wr.heap.size, 0, none⟩ = some (.int .i64 xf) := (cell_of_row _ _ 0 _ _ _ hxn).trans rfl
      have s1 : (wr.alloc (.cells #[.int .i64 xf, .int .i64 xt, .int .u64 xa] 50)).cell? ⟨wr.heap.size, 1, none⟩ = some (.int .i64 xt) := (cell_of_row _ _ 1 _ _ _ hxn).trans rfl
      have s2 : (wr.alloc (.cells #[.int .i64 xf, .int .i64 xt, .int .u64 xa] 50)).cell? ⟨wr.heap.size, 2, none⟩ = some (.int .u64 xa) := (cell_of_row _ _ 2 _ _ _ hxn).trans rfl
      have HXL : Hid (w.heap.size + 1 + 1 ≠ wr.heap.size) := Lib.hid (by omega)
      clear hwb hwb0 hxn c0 c1 c2 o0 o1 of ol a0 a1 a2
      generalize wr.alloc (.cells #[.int .i64 xf, .int .i64 xt, .int .u64 xa] 50) = wx at *
      generalize wr.heap.size = bx at *
      obtain ⟨o0, o1, of, ol⟩ := own_two HO.out
      refine wp_region_held_drew (S := (fun w' => w'.cell? ⟨bx, 0, none⟩ = some (.int .i64 xf) ∧ w'.cell? ⟨bx, 1, none⟩ = some (.int .i64 xt) ∧ w'.cell? ⟨bx, 2, none⟩ = some (.int .u64 xa))) (by kernel_rfl) ?_ (fun hHeld => ?_)
      · ((try dsimp only); exact ⟨s0, s1, s2⟩)
      refine wpAnyH_take (i := 0) (v := ?_) rfl (by kernel_rfl) (by kernel_rfl) (by kernel_rfl) (fun _ _ _ h => h) (Or.inl ⟨by rfl, ?_⟩) (by assumption) ?_
      rotate_left 1
      · (intro w hSw; (try dsimp only at hSw); first | (go_simp; done) | (go_simp; with_reducible rfl))
      try simp only [Act.put, List.setIfInBounds_toArray, List.set_cons_zero, List.set_cons_succ, List.getElem_toArray, List.getElem_cons_zero]
      refine wpAnyH_take (i := 2) (v := ?_) rfl (by kernel_rfl) (by kernel_rfl) (by kernel_rfl) (fun _ _ _ h => h) (Or.inl ⟨by rfl, ?_⟩) (by assumption) ?_
      rotate_left 1
      · (intro w hSw; (try dsimp only at hSw); first | (go_simp; done) | (go_simp; with_reducible rfl))
      try simp only [Act.put, List.setIfInBounds_toArray, List.set_cons_zero, List.set_cons_succ, List.getElem_toArray, List.getElem_cons_zero, List.getElem_cons_succ]
      refine wpAnyH_take (i := 3) (v := ?_) rfl (by kernel_rfl) (by kernel_rfl) (by kernel_rfl) (fun _ _ _ h => h) (Or.inl ⟨by rfl, ?_⟩) (by assumption) ?_
      rotate_left 1
      · (intro w hSw; (try dsimp only at hSw); first | (go_simp; done) | (go_simp; with_reducible rfl))
      try simp only [Act.put, List.setIfInBounds_toArray, List.set_cons_zero, List.set_cons_succ, List.getElem_toArray, List.getElem_cons_zero, List.getElem_cons_succ]
      refine wpAnyH_take (i := 4) (v := ?_) rfl (by kernel_rfl) (by kernel_rfl) (by kernel_rfl) (fun _ _ _ h => h) (Or.inl ⟨by rfl, ?_⟩) (by assumption) ?_
      rotate_left 1
      · (intro w hSw; (try dsimp only at hSw); first | (go_simp; done) | (go_simp; with_reducible rfl))
      try simp only [Act.put, List.setIfInBounds_toArray, List.set_cons_zero, List.set_cons_succ, List.getElem_toArray, List.getElem_cons_zero, List.getElem_cons_succ]
      refine wpAnyH_take (i := 5) (v := ?_) rfl (by kernel_rfl) (by kernel_rfl) (by kernel_rfl) (fun _ _ _ h => h) (Or.inl ⟨by rfl, ?_⟩) (by assumption) ?_
      rotate_left 1
      · (intro w hSw; (try dsimp only at hSw); first | (go_simp; done) | (go_simp; with_reducible rfl))
      try simp only [Act.put, List.setIfInBounds_toArray, List.set_cons_zero, List.set_cons_succ, List.getElem_toArray, List.getElem_cons_zero, List.getElem_cons_succ]
      refine wpAnyH_take (i := 6) (v := ?_) rfl (by kernel_rfl) (by kernel_rfl) (by kernel_rfl) (fun _ _ _ h => h) (Or.inl ⟨by rfl, ?_⟩) (by assumption) ?_
      rotate_left 1
      · (intro w hSw; (try dsimp only at hSw); first | (go_simp; done) | (go_simp; with_reducible rfl))
      try simp only [Act.put, List.setIfInBounds_toArray, List.set_cons_zero, List.set_cons_succ, List.getElem_toArray, List.getElem_cons_zero, List.getElem_cons_succ]
      refine wpAnyH_take (i := 7) (v := ?_) rfl (by kernel_rfl) (by kernel_rfl) (by kernel_rfl) (fun _ _ _ h => h) (Or.inl ⟨by rfl, ?_⟩) (by assumption) ?_
      rotate_left 1
      · (intro w hSw; (try dsimp only at hSw); first | (go_simp; done) | (go_simp; with_reducible rfl))
      try simp only [Act.put, List.setIfInBounds_toArray, List.set_cons_zero, List.set_cons_succ, List.getElem_toArray, List.getElem_cons_zero, List.getElem_cons_succ]
      refine wpAnyH_take (i := 8) (v := ?_) rfl (by kernel_rfl) (by kernel_rfl) (by kernel_rfl) (fun _ _ _ h => h) (Or.inl ⟨by rfl, ?_⟩) (by assumption) ?_
      rotate_left 1
      · (intro w hSw; (try dsimp only at hSw); first | (go_simp; done) | (go_simp; with_reducible rfl))
      try simp only [Act.put, List.setIfInBounds_toArray, List.set_cons_zero, List.set_cons_succ, List.getElem_toArray, List.getElem_cons_zero, List.getElem_cons_succ]
      refine wpAnyH_take (i := 9) (v := ?_) rfl (by kernel_rfl) (by kernel_rfl) (by kernel_rfl) (fun _ _ _ h => h) (Or.inl ⟨by rfl, ?_⟩) (by assumption) ?_
      rotate_left 1
      · (intro w hSw; (try dsimp only at hSw); first | (go_simp; done) | (go_simp; with_reducible rfl))
      try simp only [Act.put, List.setIfInBounds_toArray, List.set_cons_zero, List.set_cons_succ, List.getElem_toArray, List.getElem_cons_zero, List.getElem_cons_succ]
      refine wpAnyH_take (i := 10) (v := ?_) rfl (by kernel_rfl) (by kernel_rfl) (by kernel_rfl) (fun _ _ _ h => h) (Or.inl ⟨by rfl, ?_⟩) (by assumption) ?_
      rotate_left 1
      · (intro w hSw; (try dsimp only at hSw); first | (go_simp; done) | (go_simp; with_reducible rfl))
      try simp only [Act.put, List.setIfInBounds_toArray, List.set_cons_zero, List.set_cons_succ, List.getElem_toArray, List.getElem_cons_zero, List.getElem_cons_succ]
      refine wpAnyH_take (i := 11) (v := ?_) rfl (by kernel_rfl) (by kernel_rfl) (by kernel_rfl) (fun _ _ _ h => h) (Or.inl ⟨by rfl, ?_⟩) (by assumption) ?_
      rotate_left 1
      · (intro w hSw; (try dsimp only at hSw); first | (go_simp; done) | (go_simp; with_reducible rfl))
      try simp only [Act.put, List.setIfInBounds_toArray, List.set_cons_zero, List.set_cons_succ, List.getElem_toArray, List.getElem_cons_zero, List.getElem_cons_succ]
      refine wpAnyH_take (i := 12) (v := ?_) rfl (by kernel_rfl) (by kernel_rfl) (by kernel_rfl) (fun _ _ _ h => h) (Or.inl ⟨by rfl, ?_⟩) (by assumption) ?_
      rotate_left 1
      · (intro w hSw; (try dsimp only at hSw); first | (go_simp; done) | (go_simp; with_reducible rfl))
      try simp only [Act.put, List.setIfInBounds_toArray, List.set_cons_zero, List.set_cons_succ, List.getElem_toArray, List.getElem_cons_zero, List.getElem_cons_succ]
      refine wpAnyH_take (i := 13) (v := ?_) rfl (by kernel_rfl) (by kernel_rfl) (by kernel_rfl) (fun _ _ _ h => h) (Or.inl ⟨by rfl, ?_⟩) (by assumption) ?_
      rotate_left 1
      · (intro w hSw; (try dsimp only at hSw); first | (go_simp; done) | (go_simp; with_reducible rfl))
      try simp only [Act.put, List.setIfInBounds_toArray, List.set_cons_zero, List.set_cons_succ, List.getElem_toArray, List.getElem_cons_zero, List.getElem_cons_succ]
      refine wpAnyH_take (i := 14) (v := ?_) rfl (by kernel_rfl) (by kernel_rfl) (by kernel_rfl) (fun _ _ _ h => h) (Or.inl ⟨by rfl, ?_⟩) (by assumption) ?_
      rotate_left 1
      · (intro w hSw; (try dsimp only at hSw); first | (go_simp; done) | (go_simp; with_reducible rfl))
      try simp only [Act.put, List.setIfInBounds_toArray, List.set_cons_zero, List.set_cons_succ, List.getElem_toArray, List.getElem_cons_zero, List.getElem_cons_succ]
      refine wpAnyH_take (i := 15) (v := ?_) rfl (by kernel_rfl) (by kernel_rfl) (by kernel_rfl) (fun _ _ _ h => h) (Or.inl ⟨by rfl, ?_⟩) (by assumption) ?_
      rotate_left 1
      · (intro w hSw; (try dsimp only at hSw); first | (go_simp; done) | (go_simp; with_reducible rfl))
      try simp only [Act.put, List.setIfInBounds_toArray, List.set_cons_zero, List.set_cons_succ, List.getElem_toArray, List.getElem_cons_zero, List.getElem_cons_succ]
      refine wpAnyH_take (i := 16) (v := ?_) rfl (by kernel_rfl) (by kernel_rfl) (by kernel_rfl) (fun _ _ _ h => h) (Or.inl ⟨by rfl, ?_⟩) (by assumption) ?_
      rotate_left 1
      · (intro w hSw; (try dsimp only at hSw); first | (go_simp; done) | (go_simp; with_reducible rfl))
      try simp only [Act.put, List.setIfInBounds_toArray, List.set_cons_zero, List.set_cons_succ, List.getElem_toArray, List.getElem_cons_zero, List.getElem_cons_succ]
      refine wpAnyH_take (i := 17) (v := ?_) rfl (by kernel_rfl) (by kernel_rfl) (by kernel_rfl) (fun _ _ _ h => h) (Or.inl ⟨by rfl, ?_⟩) (by assumption) ?_
      rotate_left 1
      · (intro w hSw; (try dsimp only at hSw); first | (go_simp; done) | (go_simp; with_reducible rfl))
      try simp only [Act.put, List.setIfInBounds_toArray, List.set_cons_zero, List.set_cons_succ, List.getElem_toArray, List.getElem_cons_zero, List.getElem_cons_succ]
      have HOd := Lib.hid (show wx.drew.heap[w.heap.size + 1 + 1]? = _ from HO.out)
      have HVd := Lib.hid (HV.out.draw 1)
      have HBd := Lib.hid (HBW.out.drew)
      refine wpAnyH_ready (rs := [1]) (by kernel_rfl) (by simp) ?_
      refine AllReadyH.cons rfl (fun K hK => ?_) AllReadyH.nil
      go_simp
      skip
      try go_wp2_with fail
      refine hK.out _ _ ?_ (fun hHeld => ?_)
      · ((try dsimp only); exact ⟨s0, s1, s2⟩)
      clear hK K
      try simp only [Act.put, List.setIfInBounds_toArray, List.set_cons_zero, List.set_cons_succ, List.getElem_toArray, List.getElem_cons_zero, List.getElem_cons_succ]
      refine wpAnyH_ready (rs := [18]) (by kernel_rfl) (by simp) ?_
      refine AllReadyH.cons rfl (fun K hK => ?_) AllReadyH.nil
      go_simp
      go_at_call 22
      refine (refwith_any (H := fixO H m i) (h := ⟨mf, mt, xa.tmod 18446744073709551615⟩) (show Sl wx.drew (.slice vo ln vc) (fixO H m i) from HVd.out.sl HOW.out) (fixO_rise H m i) (by have := fixO_len H m i; have := HE.out; omega)).mono ?_
      rintro e w5 ⟨v5, rfl, ho5, hb5⟩
      have hfx : withL (fixO H m i) ⟨mf, mt, xa.tmod 18446744073709551615⟩ = fixO H m (i + 1) := by rw [fixO_succ HX.out, ← HMM.out.1, ← HMM.out.2]; rfl
      rw [hfx] at ho5
      have HO5 := Lib.hid ((hb5.block _ (own_two HOd.out).2.2.2).trans HOd.out)
      have HB5 := Lib.hid (HBd.out.trans (hb5.mono (by have := HBd.out.size; have := HS1.out; omega)))
      have HV5 : Hid (Own w5 (w.heap.size + 3) 50 v5 (fixO H m (i + 1))) := Lib.hid (ho5.mono (by have h1 := HBd.out.size; have h2 := HS1.out; omega))
      have hlb : bx < wx.drew.heap.size := Lib.lt_of_cell s0
      have HN5 : Hid (∀ g, v5.ownBlock = some g → g ≠ w.heap.size + 1 + 1) := Lib.hid (fun g hg => by have := (World.ownsRow.lt HV5.out g hg).1; omega)
      have HS5 := Lib.hid (show w5.cell? ⟨bx, 0, none⟩ = some (.int .i64 xf) ∧ w5.cell? ⟨bx, 1, none⟩ = some (.int .i64 xt) ∧ w5.cell? ⟨bx, 2, none⟩ = some (.int .u64 xa) from ⟨(hb5.cell (p := ⟨bx, 0, none⟩) hlb).trans s0, (hb5.cell (p := ⟨bx, 1, none⟩) hlb).trans s1, (hb5.cell (p := ⟨bx, 2, none⟩) hlb).trans s2⟩)
      obtain ⟨v5o, v5n, v5c, rfl⟩ : ∃ ao n c, v5 = .slice ao n c := by
        rcases HV5.out.form with ⟨_, e2⟩ | ⟨g, c, e2, _⟩
        · exact ⟨_, _, _, e2⟩
        · exact ⟨_, _, _, e2⟩
      obtain ⟨p0, p1, pf, pl⟩ := own_two HO5.out
      have pf0 := pf 0
      clear ho5 hb5 hfx o0 o1 hlb
      try go_wp2_with fail
      refine hK.out _ _ ?_ (fun hHeld => ?_)
      · ((try dsimp only); exact HS5.out)
      clear hK K
      try simp only [Act.put, List.setIfInBounds_toArray, List.set_cons_zero, List.set_cons_succ, List.getElem_toArray, List.getElem_cons_zero, List.getElem_cons_succ]
      refine wpAnyH_take (i := 19) (v := ?_) rfl (by kernel_rfl) (by kernel_rfl) (by kernel_rfl) (fun _ _ _ h => h) (Or.inl ⟨by rfl, ?_⟩) (by assumption) ?_
      rotate_left 1
      · (intro w hSw; (try dsimp only at hSw); first | (go_simp; done) | (go_simp; with_reducible rfl))
      try simp only [Act.put, List.setIfInBounds_toArray, List.set_cons_zero, List.set_cons_succ, List.getElem_toArray, List.getElem_cons_zero, List.getElem_cons_succ]
      have HO9 := Lib.hid (own_set0 HO5.out (.slice v5o v5n v5c))
      have HV9 := Lib.hid (show Own (w5.setCell ⟨w.heap.size + 1 + 1, 0, none⟩ (.slice v5o v5n v5c)) (w.heap.size + 3) 50 (.slice v5o v5n v5c) (fixO H m (i + 1)) from ownsRow_setCell_other HV5.out (fun e => HN5.out _ e rfl) _)
      have HB9 := Lib.hid (HB5.out.setCell (p := ⟨w.heap.size + 1 + 1, 0, none⟩) (Nat.le_refl _) (.slice v5o v5n v5c))
      refine wpAnyH_ready (rs := [20]) (by kernel_rfl) (by simp) ?_
      refine AllReadyH.cons rfl (fun K hK => ?_) AllReadyH.nil
      go_simp
      skip
      try go_wp2_with fail
      refine hK.out _ _ ?_ (fun hHeld => ?_)
      · ((try dsimp only); exact ⟨(World.cell?_setCell_far _ _ _ _ HXL.out).trans HS5.out.1, (World.cell?_setCell_far _ _ _ _ HXL.out).trans HS5.out.2.1, (World.cell?_setCell_far _ _ _ _ HXL.out).trans HS5.out.2.2⟩)
      clear hK K
      try simp only [Act.put, List.setIfInBounds_toArray, List.set_cons_zero, List.set_cons_succ, List.getElem_toArray, List.getElem_cons_zero, List.getElem_cons_succ]
      refine wpAnyH_done (by kernel_rfl) ?_ _
      go_wp2_with fail
      go_roundg (gk - 1)
      case measure => have := HIK.out; have := HE.out; omega
      case rel => exact ⟨i + 1, _, by have := HIK.out; have := HE.out; omega, by have := HE.out; omega, by have := HE.out; omega, by first | rfl | simp, HO9, HV9, HB9⟩
    · have hfo : fixO H m i = fixHL H m := fixO_end hi5 hend
      rw [hfo] at HV
      have HVH := Lib.hid HV.out
      have hz := HBW.out.size
      have HZ : Hid (w.heap.size + 3 ≤ wr.heap.size) := Lib.hid (by have := HS1.out; omega)
      have hj1 : (i : Int) < (H.length : Int) → ¬ ((i : Int) < 5) := fun h => by omega
      by_cases hlt : i < H.length
      · have hj0 : (i : Int) < (H.length : Int) := by omega
        have hj2 : ¬ (i : Int) < 5 := hj1 hj0
        clear hend hlt hfo hi5 hil HV hz a1 a2 hj1
        go_wp2_with fail
        clear a0
        generalize wr = wq at *
        go_loopg [8, 9] (B.length + 1) (fun k o t wr => ∃ i : Nat, i + k = B.length + 1 ∧ i ≤ B.length ∧ t = .int .i64 (i : Int) ∧ Hid (Batch.Own wr wq.heap.size 67 o ((B.take i).map (fixP m))) ∧ Hid (Below wq.heap.size wq wr))
        case atStart => exact ⟨0, by omega, by omega, rfl, Lib.hid (World.ownsRow_nil _ _ _ _), Lib.hid (Below.refl _ _)⟩
        case round =>
          obtain ⟨j, hjk, hjl, rfl, HG, HY⟩ := hrel
          have HJK := Lib.hid (And.intro hjk hjl)
          have hjj0 : (0 : Int) ≤ (j : Int) := Int.natCast_nonneg _
          have HWY := Lib.hid (HBW.out.trans (HY.out.mono (by have := HZ.out; omega)))
          obtain ⟨a0, a1, a2⟩ := HAX.out _ HWY.out
          have hwj : IntKind.i64.wrap ((j : Int) + 1) = (j : Int) + 1 := by rw [IntKind.wrap_i64]; have := HBL.out; omega
          clear hjk
          by_cases hlt : j < B.length
          · have hlt' : (j : Int) < (B.length : Int) := by omega
            obtain ⟨⟨cp, ct, cd⟩, hx⟩ : ∃ x, B[j]? = some x := ⟨_, List.getElem?_eq_getElem hlt⟩
            obtain ⟨b, off, rfl, c0, c1, c2⟩ := HBC.out _ HWY.out j _ hx
            simp only at c0 c1 c2
            have HX := Lib.hid hx
            have HLT := Lib.hid hlt
            have e2 := modN_tm m0 cp
            obtain ⟨f3, f4⟩ := modN_w m0 (by omega) cp
            clear hx hlt hjl
            generalize hmt : (modN m cp : Int) = mt at *
            have HMT := Lib.hid hmt
            clear hmt
            generalize hLL : (B.take j).map (fixP m) = LL at *
            have hLn : LL.length = j := by rw [← hLL, List.length_map, List.length_take]; have := HLT.out; omega
            have HLL := Lib.hid (And.intro hLL hLn)
            clear hLL hLn
            go_upto_region 12 with fail
            have hwb0 : Below wr.heap.size wr (wr.alloc (.cells #[.int .i64 mt, .int .u64 ct, .int .i64 cd] 67)) := (Below.refl _ _).alloc (Nat.le_refl _) _
            have hxn := heap_alloc_new wr (.cells #[.int .i64 mt, .int .u64 ct, .int .i64 cd] 67)
            have hys := HY.out.size
            have HG2 : Hid (Batch.Own (wr.alloc (.cells #[.int .i64 mt, .int .u64 ct, .int .i64 cd] 67)) wq.heap.size 67 u8 LL) := Lib.hid (HG.out.below hwb0)
            have HY2 := Lib.hid (HY.out.trans (hwb0.mono hys))
            have HX2 := Lib.hid hxn
            clear hwb0 HG HY hxn hys c0 c1 c2 a0 a1 a2
            go_upto_region 13 with fail
            clear e2 f3 f4
            generalize wr.alloc (.cells #[.int .i64 mt, .int .u64 ct, .int .i64 cd] 67) = wz at *
            generalize wr.heap.size = bx at *
            have r0 : wz.cell? ⟨bx, 0, none⟩ = some (.int .i64 mt) := (cell_of_row _ _ 0 _ _ _ HX2.out).trans rfl
            have r1 : wz.cell? ⟨bx, 1, none⟩ = some (.int .u64 ct) := (cell_of_row _ _ 1 _ _ _ HX2.out).trans rfl
            have r2 : wz.cell? ⟨bx, 2, none⟩ = some (.int .i64 cd) := (cell_of_row _ _ 2 _ _ _ HX2.out).trans rfl
            have hlen : LL.length = j := HLL.out.2
            have hlB := HBL.out
            have hlJ := HLT.out
            have hbs : wq.heap.size ≤ wz.heap.size := HY2.out.size
            go_wp2_with (at_builtin; refine Batch.wpList_append_any _ rfl _ _ 27 27 rfl wq.heap.size 67 67 i0 (.agg #[.int .i64 0, .int .u64 0, .int .i64 0]) 3 24 Tryz.underlying27 Tryz.underlying27 hi hz0 hz1 hz2 rfl (by decide) u8 LL.length (Batch.cellsL LL) rfl (World.ownsRow.alloc HG2.out _) (some ⟨wz.heap.size, 0, none⟩) 1 1 [.int .i64 mt, .int .u64 ct, .int .i64 cd] rfl rfl ?pa ?pb ?pc ?pd ?pe ?_)
            case pa => exact .inr ⟨_, rfl, World.news_of_block (cs := #[.int .i64 mt, .int .u64 ct, .int .i64 cd]) (heap_alloc_new wz _)⟩
            case pb => first | exact ⟨rfl, rfl, rfl⟩ | (intro y hy; simp at hy; rcases hy with rfl | rfl | rfl <;> rfl)
            case pc => unfold maxLen; omega
            case pd => omega
            case pe => first | omega | (simp; omega)
            intro v9 w9 hown hgrow hblk
            have HY9 := Lib.hid ((HY2.out.alloc hbs _).grown hgrow (by simp; omega) (fun k e => (HG2.out.lt k e).1))
            have HG9 : Hid (Batch.Own w9 wq.heap.size 67 v9 ((B.take (j + 1)).map (fixP m))) := Lib.hid (by
              have e1 : B.take (j + 1) = B.take j ++ [⟨cp, ct, cd⟩] := Batch.take_succ' HX.out
              rw [e1, List.map_append, HLL.out.1]
              unfold Batch.Own
              rw [show List.map (fixP m) [⟨cp, ct, cd⟩] = [(⟨mt, ct, cd⟩ : Batch.Ch)] by simp [fixP, HMT.out], Batch.cellsL_snoc, List.length_append, HLL.out.2]
              exact hown)
            clear hown hgrow hblk hlen hlB hlJ hbs r0 r1 r2
            go_wp2_with fail
            go_roundg (gk - 1)
            case measure => have := HJK.out; have := HLT.out; omega
            case rel => exact ⟨j + 1, by have := HJK.out; have := HLT.out; omega, by have := HLT.out; omega, by first | rfl | simp, HG9, HY9⟩
          · have hlt' : ¬ (j : Int) < (B.length : Int) := by omega
            obtain rfl : j = B.length := by omega
            rw [List.take_length] at HG
            have HWFM : Hid (∀ c ∈ B.map (fixP m), c.Wf) := Lib.hid (fun c hc => by
              obtain ⟨x, hx, rfl⟩ := List.mem_map.1 hc
              exact fixP_wf HM.out (HWB.out x hx))
            obtain ⟨o0, o1, of, ol⟩ := own_two HO.out
            have hyw := HY.out.block _ ol
            have HO2 := Lib.hid (hyw.trans HO.out)
            have HV2 := Lib.hid (HVH.out.below HY.out)
            have HRD := Lib.hid (HG.out.rd HWFM.out)
            have hys := HY.out.size
            have HY0 := Lib.hid hys
            obtain ⟨q0, q1, q2, rfl⟩ : ∃ ao n c, u8 = .slice ao n c := by
              obtain ⟨ao, c, e, _⟩ := HRD.out
              exact ⟨_, _, _, e⟩
            clear hlt hyw o0 o1 of ol hys
            go_wp2_with fail
            go_at_call 23
            refine (Batch.bagfix_any HRD.out).mono ?_
            rintro e w5 ⟨v5, rfl, ho5, hb5⟩
            obtain ⟨p0, p1, p2, rfl⟩ : ∃ ao n c, v5 = .slice ao n c := by
              rcases ho5.form with ⟨_, h⟩ | ⟨g, cap, h, _⟩
              · exact ⟨_, _, _, h⟩
              · exact ⟨_, _, _, h⟩
            have HO5 := Lib.hid ((hb5.block _ (own_two HO2.out).2.2.2).trans HO2.out)
            have HV5 := Lib.hid (HV2.out.below hb5)
            have HR5 := Lib.hid ((hb5.block _ (show w.heap.size + 1 < wr.heap.size by have := HZ.out; have := HY0.out; omega)).trans a2)
            have HB5 := Lib.hid (HWY.out.trans (hb5.mono (by have := HZ.out; have := HY0.out; omega)))
            have HG5 : Hid (Batch.Own w5 (w.heap.size + 3) 67 (.slice p0 p1 p2) (fixBL B m)) := Lib.hid (ho5.mono (by have := HZ.out; have := HY0.out; omega))
            obtain ⟨vo, vc, rfl⟩ : ∃ ao c, vO = .slice ao (fixHL H m).length c := by
              rcases HV5.out.form with ⟨e1, e2⟩ | ⟨g, c, e2, _⟩
              · exact ⟨none, 0, by rw [e2, e1]; rfl⟩
              · exact ⟨_, _, e2⟩
            clear ho5 hb5 HO2 HV2 HRD HG a0 a1 a2
            obtain ⟨o0, o1, of, ol⟩ := own_two HO5.out
            obtain ⟨r0, r1, rf, rl⟩ := own_two HR5.out
            go_upto_region 15 with fail
            have HO6 := Lib.hid (own_set1 HO5.out (.slice p0 p1 p2))
            have hoff : ∀ g, g ≠ w.heap.size + 1 + 1 → (w5.setCell ⟨w.heap.size + 1 + 1, 1, none⟩ (.slice p0 p1 p2)).heap[g]? = w5.heap[g]? := fun g hg => heap_setCell_other _ _ _ _ hg
            have HR6 := Lib.hid ((hoff (w.heap.size + 1) (by omega)).trans HR5.out)
            have HV6 : Hid (Own (w5.setCell ⟨w.heap.size + 1 + 1, 1, none⟩ (.slice p0 p1 p2)) (w.heap.size + 3) 50 (.slice vo (fixHL H m).length vc) (fixHL H m)) := Lib.hid (ownsRow_setCell_other HV5.out (fun e => by have := (World.ownsRow.lt HV5.out _ e).1; dsimp only at this; omega) _)
            have HG6 : Hid (Batch.Own (w5.setCell ⟨w.heap.size + 1 + 1, 1, none⟩ (.slice p0 p1 p2)) (w.heap.size + 3) 67 (.slice p0 p1 p2) (fixBL B m)) := Lib.hid (ownsRow_setCell_other HG5.out (fun e => by have := (World.ownsRow.lt HG5.out _ e).1; dsimp only at this; omega) _)
            have HB6 := Lib.hid (HB5.out.setCell (p := ⟨w.heap.size + 1 + 1, 1, none⟩) (Nat.le_refl _) (.slice p0 p1 p2))
            clear o0 o1 of ol r0 r1 rf rl hoff
            generalize w5.setCell ⟨w.heap.size + 1 + 1, 1, none⟩ (.slice p0 p1 p2) = w6 at *
            obtain ⟨o0, o1, of, ol⟩ := own_two HO6.out
            obtain ⟨r0, r1, rf, rl⟩ := own_two HR6.out
            have rf0 := rf 0
            have rf1 := rf 1
            have HR7 := Lib.hid (own_set1 (own_set0 HR6.out (.slice vo (fixHL H m).length vc)) (.slice p0 p1 p2))
            have HV7 : Hid (Own ((w6.setCell ⟨w.heap.size + 1, 0, none⟩ (.slice vo (fixHL H m).length vc)).setCell ⟨w.heap.size + 1, 1, none⟩ (.slice p0 p1 p2)) (w.heap.size + 3) 50 (.slice vo (fixHL H m).length vc) (fixHL H m)) := Lib.hid (ownsRow_setCell_other (ownsRow_setCell_other HV6.out (fun e => by have := (World.ownsRow.lt HV6.out _ e).1; dsimp only at this; omega) _) (fun e => by have := (World.ownsRow.lt HV6.out _ e).1; dsimp only at this; omega) _)
            have HG7 : Hid (Batch.Own ((w6.setCell ⟨w.heap.size + 1, 0, none⟩ (.slice vo (fixHL H m).length vc)).setCell ⟨w.heap.size + 1, 1, none⟩ (.slice p0 p1 p2)) (w.heap.size + 3) 67 (.slice p0 p1 p2) (fixBL B m)) := Lib.hid (ownsRow_setCell_other (ownsRow_setCell_other HG6.out (fun e => by have := (World.ownsRow.lt HG6.out _ e).1; dsimp only at this; omega) _) (fun e => by have := (World.ownsRow.lt HG6.out _ e).1; dsimp only at this; omega) _)
            have HB7 : Hid (Below w.heap.size w ((w6.setCell ⟨w.heap.size + 1, 0, none⟩ (.slice vo (fixHL H m).length vc)).setCell ⟨w.heap.size + 1, 1, none⟩ (.slice p0 p1 p2))) := Lib.hid (((HB1.out.trans (HB6.out.mono (by omega))).setCell (p := ⟨w.heap.size + 1, 0, none⟩) (Nat.le_succ _) _).setCell (p := ⟨w.heap.size + 1, 1, none⟩) (Nat.le_succ _) _)
            have m1 := (own_two (own_set0 HR6.out (.slice vo (fixHL H m).length vc))).2.1
            clear rf
            go_wp2_with fail
            generalize hlast : (w6.setCell ⟨w.heap.size + 1, 0, none⟩ (.slice vo (fixHL H m).length vc)).setCell ⟨w.heap.size + 1, 1, none⟩ (.slice p0 p1 p2) = w7 at *
            obtain ⟨x0, x1, _, _⟩ := own_two HR7.out
            exact bodyPost_ret (v := .agg #[.slice vo (fixHL H m).length vc, .slice p0 p1 p2]) (by simp [results, Tryz.results7, go_sem, x0, x1]) rfl ⟨_, _, rfl, HV7.out.mono (by omega), HG7.out.mono (by omega), HB7.out⟩
      · have hj0 : ¬ ((i : Int) < (H.length : Int)) := by omega
        clear hend hlt hfo hi5 hil HV hz a1 a2 hj1
        go_wp2_with fail
        clear a0
        generalize wr = wq at *
        go_loopg [8, 9] (B.length + 1) (fun k o t wr => ∃ i : Nat, i + k = B.length + 1 ∧ i ≤ B.length ∧ t = .int .i64 (i : Int) ∧ Hid (Batch.Own wr wq.heap.size 67 o ((B.take i).map (fixP m))) ∧ Hid (Below wq.heap.size wq wr))
        case atStart => exact ⟨0, by omega, by omega, rfl, Lib.hid (World.ownsRow_nil _ _ _ _), Lib.hid (Below.refl _ _)⟩
        case round =>
          obtain ⟨j, hjk, hjl, rfl, HG, HY⟩ := hrel
          have HJK := Lib.hid (And.intro hjk hjl)
          have hjj0 : (0 : Int) ≤ (j : Int) := Int.natCast_nonneg _
          have HWY := Lib.hid (HBW.out.trans (HY.out.mono (by have := HZ.out; omega)))
          obtain ⟨a0, a1, a2⟩ := HAX.out _ HWY.out
          have hwj : IntKind.i64.wrap ((j : Int) + 1) = (j : Int) + 1 := by rw [IntKind.wrap_i64]; have := HBL.out; omega
          clear hjk
          by_cases hlt : j < B.length
          · have hlt' : (j : Int) < (B.length : Int) := by omega
            obtain ⟨⟨cp, ct, cd⟩, hx⟩ : ∃ x, B[j]? = some x := ⟨_, List.getElem?_eq_getElem hlt⟩
            obtain ⟨b, off, rfl, c0, c1, c2⟩ := HBC.out _ HWY.out j _ hx
            simp only at c0 c1 c2
            have HX := Lib.hid hx
            have HLT := Lib.hid hlt
            have e2 := modN_tm m0 cp
            obtain ⟨f3, f4⟩ := modN_w m0 (by omega) cp
            clear hx hlt hjl
            generalize hmt : (modN m cp : Int) = mt at *
            have HMT := Lib.hid hmt
            clear hmt
            generalize hLL : (B.take j).map (fixP m) = LL at *
            have hLn : LL.length = j := by rw [← hLL, List.length_map, List.length_take]; have := HLT.out; omega
            have HLL := Lib.hid (And.intro hLL hLn)
            clear hLL hLn
            go_upto_region 12 with fail
            have hwb0 : Below wr.heap.size wr (wr.alloc (.cells #[.int .i64 mt, .int .u64 ct, .int .i64 cd] 67)) := (Below.refl _ _).alloc (Nat.le_refl _) _
            have hxn := heap_alloc_new wr (.cells #[.int .i64 mt, .int .u64 ct, .int .i64 cd] 67)
            have hys := HY.out.size
            have HG2 : Hid (Batch.Own (wr.alloc (.cells #[.int .i64 mt, .int .u64 ct, .int .i64 cd] 67)) wq.heap.size 67 u8 LL) := Lib.hid (HG.out.below hwb0)
            have HY2 := Lib.hid (HY.out.trans (hwb0.mono hys))
            have HX2 := Lib.hid hxn
            clear hwb0 HG HY hxn hys c0 c1 c2 a0 a1 a2
            go_upto_region 13 with fail
            clear e2 f3 f4
            generalize wr.alloc (.cells #[.int .i64 mt, .int .u64 ct, .int .i64 cd] 67) = wz at *
            generalize wr.heap.size = bx at *
            have r0 : wz.cell? ⟨bx, 0, none⟩ = some (.int .i64 mt) := (cell_of_row _ _ 0 _ _ _ HX2.out).trans rfl
            have r1 : wz.cell? ⟨bx, 1, none⟩ = some (.int .u64 ct) := (cell_of_row _ _ 1 _ _ _ HX2.out).trans rfl
            have r2 : wz.cell? ⟨bx, 2, none⟩ = some (.int .i64 cd) := (cell_of_row _ _ 2 _ _ _ HX2.out).trans rfl
            have hlen : LL.length = j := HLL.out.2
            have hlB := HBL.out
            have hlJ := HLT.out
            have hbs : wq.heap.size ≤ wz.heap.size := HY2.out.size
            go_wp2_with (at_builtin; refine Batch.wpList_append_any _ rfl _ _ 27 27 rfl wq.heap.size 67 67 i0 (.agg #[.int .i64 0, .int .u64 0, .int .i64 0]) 3 24 Tryz.underlying27 Tryz.underlying27 hi hz0 hz1 hz2 rfl (by decide) u8 LL.length (Batch.cellsL LL) rfl (World.ownsRow.alloc HG2.out _) (some ⟨wz.heap.size, 0, none⟩) 1 1 [.int .i64 mt, .int .u64 ct, .int .i64 cd] rfl rfl ?na ?nb ?nc ?nd ?ne ?_)
            case na => exact .inr ⟨_, rfl, World.news_of_block (cs := #[.int .i64 mt, .int .u64 ct, .int .i64 cd]) (heap_alloc_new wz _)⟩
            case nb => first | exact ⟨rfl, rfl, rfl⟩ | (intro y hy; simp at hy; rcases hy with rfl | rfl | rfl <;> rfl)
            case nc => unfold maxLen; omega
            case nd => omega
            case ne => first | omega | (simp; omega)
            intro v9 w9 hown hgrow hblk
            have HY9 := Lib.hid ((HY2.out.alloc hbs _).grown hgrow (by simp; omega) (fun k e => (HG2.out.lt k e).1))
            have HG9 : Hid (Batch.Own w9 wq.heap.size 67 v9 ((B.take (j + 1)).map (fixP m))) := Lib.hid (by
              have e1 : B.take (j + 1) = B.take j ++ [⟨cp, ct, cd⟩] := Batch.take_succ' HX.out
              rw [e1, List.map_append, HLL.out.1]
              unfold Batch.Own
              rw [show List.map (fixP m) [⟨cp, ct, cd⟩] = [(⟨mt, ct, cd⟩ : Batch.Ch)] by simp [fixP, HMT.out], Batch.cellsL_snoc, List.length_append, HLL.out.2]
              exact hown)
            clear hown hgrow hblk hlen hlB hlJ hbs r0 r1 r2
            go_wp2_with fail
            go_roundg (gk - 1)
            case measure => have := HJK.out; have := HLT.out; omega
            case rel => exact ⟨j + 1, by have := HJK.out; have := HLT.out; omega, by have := HLT.out; omega, by first | rfl | simp, HG9, HY9⟩
          · have hlt' : ¬ (j : Int) < (B.length : Int) := by omega
            obtain rfl : j = B.length := by omega
            rw [List.take_length] at HG
            have HWFM : Hid (∀ c ∈ B.map (fixP m), c.Wf) := Lib.hid (fun c hc => by
              obtain ⟨x, hx, rfl⟩ := List.mem_map.1 hc
              exact fixP_wf HM.out (HWB.out x hx))
            obtain ⟨o0, o1, of, ol⟩ := own_two HO.out
            have hyw := HY.out.block _ ol
            have HO2 := Lib.hid (hyw.trans HO.out)
            have HV2 := Lib.hid (HVH.out.below HY.out)
            have HRD := Lib.hid (HG.out.rd HWFM.out)
            have hys := HY.out.size
            have HY0 := Lib.hid hys
            obtain ⟨q0, q1, q2, rfl⟩ : ∃ ao n c, u8 = .slice ao n c := by
              obtain ⟨ao, c, e, _⟩ := HRD.out
              exact ⟨_, _, _, e⟩
            clear hlt hyw o0 o1 of ol hys
            go_wp2_with fail
            go_at_call 23
            refine (Batch.bagfix_any HRD.out).mono ?_
            rintro e w5 ⟨v5, rfl, ho5, hb5⟩
            obtain ⟨p0, p1, p2, rfl⟩ : ∃ ao n c, v5 = .slice ao n c := by
              rcases ho5.form with ⟨_, h⟩ | ⟨g, cap, h, _⟩
              · exact ⟨_, _, _, h⟩
              · exact ⟨_, _, _, h⟩
            have HO5 := Lib.hid ((hb5.block _ (own_two HO2.out).2.2.2).trans HO2.out)
            have HV5 := Lib.hid (HV2.out.below hb5)
            have HR5 := Lib.hid ((hb5.block _ (show w.heap.size + 1 < wr.heap.size by have := HZ.out; have := HY0.out; omega)).trans a2)
            have HB5 := Lib.hid (HWY.out.trans (hb5.mono (by have := HZ.out; have := HY0.out; omega)))
            have HG5 : Hid (Batch.Own w5 (w.heap.size + 3) 67 (.slice p0 p1 p2) (fixBL B m)) := Lib.hid (ho5.mono (by have := HZ.out; have := HY0.out; omega))
            obtain ⟨vo, vc, rfl⟩ : ∃ ao c, vO = .slice ao (fixHL H m).length c := by
              rcases HV5.out.form with ⟨e1, e2⟩ | ⟨g, c, e2, _⟩
              · exact ⟨none, 0, by rw [e2, e1]; rfl⟩
              · exact ⟨_, _, e2⟩
            clear ho5 hb5 HO2 HV2 HRD HG a0 a1 a2
            obtain ⟨o0, o1, of, ol⟩ := own_two HO5.out
            obtain ⟨r0, r1, rf, rl⟩ := own_two HR5.out
            go_upto_region 15 with fail
            have HO6 := Lib.hid (own_set1 HO5.out (.slice p0 p1 p2))
            have hoff : ∀ g, g ≠ w.heap.size + 1 + 1 → (w5.setCell ⟨w.heap.size + 1 + 1, 1, none⟩ (.slice p0 p1 p2)).heap[g]? = w5.heap[g]? := fun g hg => heap_setCell_other _ _ _ _ hg
            have HR6 := Lib.hid ((hoff (w.heap.size + 1) (by omega)).trans HR5.out)
            have HV6 : Hid (Own (w5.setCell ⟨w.heap.size + 1 + 1, 1, none⟩ (.slice p0 p1 p2)) (w.heap.size + 3) 50 (.slice vo (fixHL H m).length vc) (fixHL H m)) := Lib.hid (ownsRow_setCell_other HV5.out (fun e => by have := (World.ownsRow.lt HV5.out _ e).1; dsimp only at this; omega) _)
            have HG6 : Hid (Batch.Own (w5.setCell ⟨w.heap.size + 1 + 1, 1, none⟩ (.slice p0 p1 p2)) (w.heap.size + 3) 67 (.slice p0 p1 p2) (fixBL B m)) := Lib.hid (ownsRow_setCell_other HG5.out (fun e => by have := (World.ownsRow.lt HG5.out _ e).1; dsimp only at this; omega) _)
            have HB6 := Lib.hid (HB5.out.setCell (p := ⟨w.heap.size + 1 + 1, 1, none⟩) (Nat.le_refl _) (.slice p0 p1 p2))
            clear o0 o1 of ol r0 r1 rf rl hoff
            generalize w5.setCell ⟨w.heap.size + 1 + 1, 1, none⟩ (.slice p0 p1 p2) = w6 at *
            obtain ⟨o0, o1, of, ol⟩ := own_two HO6.out
            obtain ⟨r0, r1, rf, rl⟩ := own_two HR6.out
            have rf0 := rf 0
            have rf1 := rf 1
            have HR7 := Lib.hid (own_set1 (own_set0 HR6.out (.slice vo (fixHL H m).length vc)) (.slice p0 p1 p2))
            have HV7 : Hid (Own ((w6.setCell ⟨w.heap.size + 1, 0, none⟩ (.slice vo (fixHL H m).length vc)).setCell ⟨w.heap.size + 1, 1, none⟩ (.slice p0 p1 p2)) (w.heap.size + 3) 50 (.slice vo (fixHL H m).length vc) (fixHL H m)) := Lib.hid (ownsRow_setCell_other (ownsRow_setCell_other HV6.out (fun e => by have := (World.ownsRow.lt HV6.out _ e).1; dsimp only at this; omega) _) (fun e => by have := (World.ownsRow.lt HV6.out _ e).1; dsimp only at this; omega) _)
            have HG7 : Hid (Batch.Own ((w6.setCell ⟨w.heap.size + 1, 0, none⟩ (.slice vo (fixHL H m).length vc)).setCell ⟨w.heap.size + 1, 1, none⟩ (.slice p0 p1 p2)) (w.heap.size + 3) 67 (.slice p0 p1 p2) (fixBL B m)) := Lib.hid (ownsRow_setCell_other (ownsRow_setCell_other HG6.out (fun e => by have := (World.ownsRow.lt HG6.out _ e).1; dsimp only at this; omega) _) (fun e => by have := (World.ownsRow.lt HG6.out _ e).1; dsimp only at this; omega) _)
            have HB7 : Hid (Below w.heap.size w ((w6.setCell ⟨w.heap.size + 1, 0, none⟩ (.slice vo (fixHL H m).length vc)).setCell ⟨w.heap.size + 1, 1, none⟩ (.slice p0 p1 p2))) := Lib.hid (((HB1.out.trans (HB6.out.mono (by omega))).setCell (p := ⟨w.heap.size + 1, 0, none⟩) (Nat.le_succ _) _).setCell (p := ⟨w.heap.size + 1, 1, none⟩) (Nat.le_succ _) _)
            have m1 := (own_two (own_set0 HR6.out (.slice vo (fixHL H m).length vc))).2.1
            clear rf
            go_wp2_with fail
            generalize hlast : (w6.setCell ⟨w.heap.size + 1, 0, none⟩ (.slice vo (fixHL H m).length vc)).setCell ⟨w.heap.size + 1, 1, none⟩ (.slice p0 p1 p2) = w7 at *
            obtain ⟨x0, x1, _, _⟩ := own_two HR7.out
            exact bodyPost_ret (v := .agg #[.slice vo (fixHL H m).length vc, .slice p0 p1 p2]) (by simp [results, Tryz.results7, go_sem, x0, x1]) rfl ⟨_, _, rfl, HV7.out.mono (by omega), HG7.out.mono (by omega), HB7.out⟩
end Go.Proofs.YtlkljeedlkbkgaaGreatDoor.Cl
