/-
  PACKAGE marchlandlaw05: few.
  marchlandlaw14: Plan: a Plan of the program's out of the document's.
-/
import Derived.Test.YtdbaacalfbbdiaaGreatDoorGTo
import Derived.BigRegion
import Derived.Test.YtdbaacalfbbdiaaGreatDoorJoined7
import Derived.Laws.Build
namespace Go.Proofs.YtdbaacalfbbdiaaGreatDoor.Gr
open Go.RowKit Go.Deep
set_option linter.unusedVariables false
set_option linter.unusedSimpArgs false

theorem cut_slice {T : TypeId} {s : Nat} (ht : Tryz.prog.underlying T = some (.slice (Tryz.prog.elem T))) (hz : ∀ w, (Go.sizeOf (Tryz.prog.elem T)).run Tryz.prog w = .ok s w) (ao : Option Addr) (n cap k : Nat) (hk : k ≤ cap) (w : World) :
    (Instr.slice T (.slice ao n cap) none (some (.int .i64 (k : Int))) none).run Tryz.prog w = .ok (.slice ao k cap) w := by
  rw [run_slice_h (P := Tryz.prog) (w := w) (t := T) (a := ao) (len := n) (cap := cap) (ht := ht) (kh := .i64) (h := (k : Int)) (h0 := by omega) (h2 := by omega), hz]
  simp only [Result.andThen, sliced, Int.toNat_natCast, Nat.sub_zero, Nat.zero_mul]
  have e : (if cap = 0 then ao else ao.map (·.add 0)) = ao := by
    split
    · rfl
    · cases ao <;> rfl
  rw [e]
theorem few_facts {T : TypeId} {s : Nat} (ht : Tryz.prog.underlying T = some (.slice (Tryz.prog.elem T))) (hz : ∀ w, (Go.sizeOf (Tryz.prog.elem T)).run Tryz.prog w = .ok s w) (ao : Option Addr) (n cap c : Nat) (ci : Int) (hci : ci = (c : Int)) (hk : n ≤ cap) :
    ∃ m : Int, (∀ (ts : Array TypeId) (t : TypeId) (w : World), (Builtin.min_ ts t #[.int .i64 (n : Int), .int .i64 ci]).run Tryz.prog w = .ok (.int .i64 m) w) ∧
      ∀ w, (Instr.slice T (.slice ao n cap) none (some (.int .i64 m)) none).run Tryz.prog w = .ok (.slice ao (min n c) cap) w := by
  refine ⟨((min n c : Nat) : Int), fun ts t w => ?_, fun w => cut_slice ht hz ao n cap _ (by omega) w⟩
  rw [run_min_int2 w ts t .i64 .i64 _ _, show (if ci < (n : Int) then ci else (n : Int)) = ((min n c : Nat) : Int) by split <;> omega]
theorem sizeEs : ∀ w, (Go.sizeOf (Tryz.prog.elem 41)).run Tryz.prog w = .ok 3 w := by
  intro w
  simp [go_sem]
theorem sizeIs : ∀ w, (Go.sizeOf (Tryz.prog.elem 42)).run Tryz.prog w = .ok 1 w := by
  intro w
  simp [go_sem]
theorem GMemP.take {w : World} {ao aoi : Option Addr} {cap capi : Nat} {E : List Ed} {I : List Int} (h : GMemP w (.slice ao E.length cap) (.slice aoi I.length capi) E I) (a b : Nat) :
    GMemP w (.slice ao (min E.length a) cap) (.slice aoi (min I.length b) capi) (E.take a) (I.take b) := by
  obtain ⟨⟨ao', cap', hv, hc1, hc2, _⟩, ⟨aoi', capi', hv', hc3, hc4, _⟩⟩ := And.intro h.ed h.inp
  simp only [Value.slice.injEq] at hv hv'
  obtain ⟨rfl, _, rfl⟩ := hv
  obtain ⟨rfl, _, rfl⟩ := hv'
  have h1 : E.take (min E.length a) = E.take a := by rw [List.take_eq_take_iff]; omega
  have h2 : I.take (min I.length b) = I.take b := by rw [List.take_eq_take_iff]; omega
  rw [← h1, ← h2]
  exact ⟨h.ed.take _ (by omega) cap (by omega) hc2, h.inp.take _ (by omega) capi (by omega) hc4⟩
end Go.Proofs.YtdbaacalfbbdiaaGreatDoor.Gr
namespace Go.Proofs.YtdbaacalfbbdiaaGreatDoor.Md
open Go.RowKit Gr Go.Deep
set_option linter.unusedVariables false
set_option linter.unusedSimpArgs false

theorem ownSet7 {w : World} {base : Nat} {T : TypeId} {size : Nat} {v : Value} {n : Nat} {xs : List Value} {b : Nat} (h : w.ownsRow base T size v n xs) (hb : b < base) (u0 u1 u2 u3 u4 u5 u6 : Value) : (((((((w.setCell ⟨b, 0, none⟩ u0).setCell ⟨b, 1, none⟩ u1).setCell ⟨b, 2, none⟩ u2).setCell ⟨b, 3, none⟩ u3).setCell ⟨b, 4, none⟩ u4).setCell ⟨b, 5, none⟩ u5).setCell ⟨b, 6, none⟩ u6).ownsRow base T size v n xs := by
  have hb' : ¬ (v.ownBlock = some b) := fun e => by have := (World.ownsRow.lt h _ e).1; omega
  exact (ownsRow_setCell_other (ownsRow_setCell_other (ownsRow_setCell_other (ownsRow_setCell_other (ownsRow_setCell_other (ownsRow_setCell_other (ownsRow_setCell_other h (fun e => hb' e) _) (fun e => hb' e) _) (fun e => hb' e) _) (fun e => hb' e) _) (fun e => hb' e) _) (fun e => hb' e) _) (fun e => hb' e) _)
theorem free7 {w : World} {b : Nat} {T : TypeId} {cs : Array Value} (h : w.heap[b]? = some (.cells cs T (0, 0))) (o : Nat) : w.frozen? ⟨b, o, none⟩ = false := by simp [World.frozen?, h]
set_option maxRecDepth 1000000 in
set_option maxHeartbeats 16000000 in
theorem mdPlan_any {w : World} {ve vi : Value} {E : List Ed} {I : List Int} (n T R S K0 : Int) (hg : GMemP w ve vi E I) (hl : E.length ≤ 100000) (hli : I.length ≤ 100000) :
    Calls Tryz.prog 20 #[.agg #[.int .i64 n, ve, vi, .int .i64 T, .int .i64 R, .int .i64 S, .int .i64 K0]] w fun e w' => ∃ ve' vi' : Value, e = .returned (.agg #[.int .i64 n, ve', vi', .int .i64 T, .int .i64 R, .int .i64 S, .int .i64 K0]) ∧ GMemP w' ve' vi' E I ∧ Below w.heap.size w w' := by
  have HG := Lib.hid hg
  have HLL := Lib.hid (And.intro hl hli)
  obtain ⟨⟨ao, cap, e1, _⟩, ⟨aoi, capi, e2, _⟩⟩ := And.intro hg.ed hg.inp
  subst e1 e2
  clear hg hl hli
  obtain ⟨w1, hw1⟩ : ∃ w1, w1 = (w.alloc (.cells #[.int .i64 n, .slice ao E.length cap, .slice aoi I.length capi, .int .i64 T, .int .i64 R, .int .i64 S, .int .i64 K0] 61)).alloc (.cells #[.int .i64 0, .slice none 0 0, .slice none 0 0, .int .i64 0, .int .i64 0, .int .i64 0, .int .i64 0] 58) := ⟨_, rfl⟩
  have HX := Lib.hid (show w1.heap[w.heap.size]? = some (.cells #[.int .i64 n, .slice ao E.length cap, .slice aoi I.length capi, .int .i64 T, .int .i64 R, .int .i64 S, .int .i64 K0] 61 (0, 0)) by rw [hw1, heap_alloc_old _ _ (by simp)]; exact heap_alloc_new w _)
  have HZ := Lib.hid (show w1.heap[w.heap.size + 1]? = some (.cells #[.int .i64 0, .slice none 0 0, .slice none 0 0, .int .i64 0, .int .i64 0, .int .i64 0, .int .i64 0] 58 (0, 0)) by
    rw [hw1]; have h := heap_alloc_new (w.alloc (.cells #[.int .i64 n, .slice ao E.length cap, .slice aoi I.length capi, .int .i64 T, .int .i64 R, .int .i64 S, .int .i64 K0] 61)) (.cells #[.int .i64 0, .slice none 0 0, .slice none 0 0, .int .i64 0, .int .i64 0, .int .i64 0, .int .i64 0] 58); simpa using h)
  have HB1 := Lib.hid (show Below w.heap.size w w1 by rw [hw1]; exact ((Below.refl _ _).alloc (Nat.le_refl _) _).alloc (by simp) _)
  have hlt1 : w.heap.size < w1.heap.size := (Array.getElem?_eq_some_iff.1 HX.out).1
  have HLT2 := Lib.hid (show w.heap.size + 1 < w1.heap.size from (Array.getElem?_eq_some_iff.1 HZ.out).1)
  go_enter Tryz.func20, Tryz.ntmps20
  go_upto_region 1 with fail
  rw [← hw1]
  clear hw1
  obtain ⟨y0, y1, y2, y3, y4, y5, y6⟩ := cells7 HX.out
  refine wp_region_held_drew (S := (fun w' => w'.cell? ⟨w.heap.size, 0, none⟩ = some (.int .i64 n) ∧ w'.cell? ⟨w.heap.size, 1, none⟩ = some (.slice ao E.length cap) ∧ w'.cell? ⟨w.heap.size, 2, none⟩ = some (.slice aoi I.length capi) ∧ w'.cell? ⟨w.heap.size, 3, none⟩ = some (.int .i64 T) ∧ w'.cell? ⟨w.heap.size, 4, none⟩ = some (.int .i64 R) ∧ w'.cell? ⟨w.heap.size, 5, none⟩ = some (.int .i64 S) ∧ w'.cell? ⟨w.heap.size, 6, none⟩ = some (.int .i64 K0))) (by kernel_rfl) ?_ (fun hHeld => ?_)
  · ((try dsimp only); exact ⟨y0, y1, y2, y3, y4, y5, y6⟩)
  refine wpAnyH_take (i := 0) (v := ?_) rfl (by kernel_rfl) (by kernel_rfl) (by kernel_rfl) (fun _ _ _ h => h) (Or.inl ⟨by rfl, ?_⟩) (by assumption) ?_
  rotate_left 1
  · (intro w hSw; (try dsimp only at hSw); first | (go_simp; done) | (go_simp; with_reducible rfl))
  try simp only [Act.put, List.setIfInBounds_toArray, List.set_cons_zero, List.set_cons_succ, List.getElem_toArray, List.getElem_cons_zero, List.getElem_cons_succ]
  refine wpAnyH_take (i := 1) (v := ?_) rfl (by kernel_rfl) (by kernel_rfl) (by kernel_rfl) (fun _ _ _ h => h) (Or.inl ⟨by rfl, ?_⟩) (by assumption) ?_
  rotate_left 1
  · (intro w hSw; (try dsimp only at hSw); first | (go_simp; done) | (go_simp; with_reducible rfl))
  try simp only [Act.put, List.setIfInBounds_toArray, List.set_cons_zero, List.set_cons_succ, List.getElem_toArray, List.getElem_cons_zero, List.getElem_cons_succ]
  refine wpAnyH_take (i := 3) (v := ?_) rfl (by kernel_rfl) (by kernel_rfl) (by kernel_rfl) (fun _ _ _ h => h) (Or.inl ⟨by rfl, ?_⟩) (by assumption) ?_
  rotate_left 1
  · (intro w hSw; (try dsimp only at hSw); first | (go_simp; done) | (go_simp; with_reducible rfl))
  try simp only [Act.put, List.setIfInBounds_toArray, List.set_cons_zero, List.set_cons_succ, List.getElem_toArray, List.getElem_cons_zero, List.getElem_cons_succ]
  refine wpAnyH_take (i := 4) (v := ?_) rfl (by kernel_rfl) (by kernel_rfl) (by kernel_rfl) (fun _ _ _ h => h) (Or.inl ⟨by rfl, ?_⟩) (by assumption) ?_
  rotate_left 1
  · (intro w hSw; (try dsimp only at hSw); first | (go_simp; done) | (go_simp; with_reducible rfl))
  try simp only [Act.put, List.setIfInBounds_toArray, List.set_cons_zero, List.set_cons_succ, List.getElem_toArray, List.getElem_cons_zero, List.getElem_cons_succ]
  refine wpAnyH_take (i := 5) (v := ?_) rfl (by kernel_rfl) (by kernel_rfl) (by kernel_rfl) (fun _ _ _ h => h) (Or.inl ⟨by rfl, ?_⟩) (by assumption) ?_
  rotate_left 1
  · (intro w hSw; (try dsimp only at hSw); first | (go_simp; done) | (go_simp; with_reducible rfl))
  try simp only [Act.put, List.setIfInBounds_toArray, List.set_cons_zero, List.set_cons_succ, List.getElem_toArray, List.getElem_cons_zero, List.getElem_cons_succ]
  refine wpAnyH_take (i := 6) (v := ?_) rfl (by kernel_rfl) (by kernel_rfl) (by kernel_rfl) (fun _ _ _ h => h) (Or.inl ⟨by rfl, ?_⟩) (by assumption) ?_
  rotate_left 1
  · (intro w hSw; (try dsimp only at hSw); first | (go_simp; done) | (go_simp; with_reducible rfl))
  try simp only [Act.put, List.setIfInBounds_toArray, List.set_cons_zero, List.set_cons_succ, List.getElem_toArray, List.getElem_cons_zero, List.getElem_cons_succ]
  refine wpAnyH_take (i := 7) (v := ?_) rfl (by kernel_rfl) (by kernel_rfl) (by kernel_rfl) (fun _ _ _ h => h) (Or.inl ⟨by rfl, ?_⟩) (by assumption) ?_
  rotate_left 1
  · (intro w hSw; (try dsimp only at hSw); first | (go_simp; done) | (go_simp; with_reducible rfl))
  try simp only [Act.put, List.setIfInBounds_toArray, List.set_cons_zero, List.set_cons_succ, List.getElem_toArray, List.getElem_cons_zero, List.getElem_cons_succ]
  refine wpAnyH_take (i := 8) (v := ?_) rfl (by kernel_rfl) (by kernel_rfl) (by kernel_rfl) (fun _ _ _ h => h) (Or.inl ⟨by rfl, ?_⟩) (by assumption) ?_
  rotate_left 1
  · (intro w hSw; (try dsimp only at hSw); first | (go_simp; done) | (go_simp; with_reducible rfl))
  try simp only [Act.put, List.setIfInBounds_toArray, List.set_cons_zero, List.set_cons_succ, List.getElem_toArray, List.getElem_cons_zero, List.getElem_cons_succ]
  refine wpAnyH_take (i := 9) (v := ?_) rfl (by kernel_rfl) (by kernel_rfl) (by kernel_rfl) (fun _ _ _ h => h) (Or.inl ⟨by rfl, ?_⟩) (by assumption) ?_
  rotate_left 1
  · (intro w hSw; (try dsimp only at hSw); first | (go_simp; done) | (go_simp; with_reducible rfl))
  try simp only [Act.put, List.setIfInBounds_toArray, List.set_cons_zero, List.set_cons_succ, List.getElem_toArray, List.getElem_cons_zero, List.getElem_cons_succ]
  refine wpAnyH_take (i := 10) (v := ?_) rfl (by kernel_rfl) (by kernel_rfl) (by kernel_rfl) (fun _ _ _ h => h) (Or.inl ⟨by rfl, ?_⟩) (by assumption) ?_
  rotate_left 1
  · (intro w hSw; (try dsimp only at hSw); first | (go_simp; done) | (go_simp; with_reducible rfl))
  try simp only [Act.put, List.setIfInBounds_toArray, List.set_cons_zero, List.set_cons_succ, List.getElem_toArray, List.getElem_cons_zero, List.getElem_cons_succ]
  refine wpAnyH_ready (rs := [2]) (by kernel_rfl) (by simp) ?_
  refine AllReadyH.cons rfl (fun K hK => ?_) AllReadyH.nil
  go_simp
  go_at_call 16
  refine (gto_own n ((HG.out.below HB1.out).below (below_drewN (Below.refl _ _) 1)) HLL.out.1 HLL.out.2).mono ?_
  rintro e w3 ⟨ve2, vi2, rfl, ⟨ho1, ho2⟩, hcb⟩
  have hb2 := (below_drewN (Below.refl w1.heap.size w1) 1).trans (hcb.mono (by first | exact Nat.le_refl _ | simp))
  obtain ⟨⟨a2, c2, e2, _⟩, ⟨a3, c3, e3, _⟩⟩ := And.intro (ho1.rd HG.out.ed.wf) (ho2.rd HG.out.inp.wf)
  subst e2 e3
  have HO1 := Lib.hid (ownSet7 (b := w.heap.size + 1) ho1 (by have := HLT2.out; simp; omega) (.int .i64 n) (.slice a2 E.length c2) (.slice a3 I.length c3) (.int .i64 T) (.int .i64 R) (.int .i64 S) (.int .i64 K0))
  have HO2 := Lib.hid (ownSet7 (b := w.heap.size + 1) ho2 (by have := HLT2.out; simp; omega) (.int .i64 n) (.slice a2 E.length c2) (.slice a3 I.length c3) (.int .i64 T) (.int .i64 R) (.int .i64 S) (.int .i64 K0))
  clear hcb ho1 ho2
  try go_wp2_with fail
  have hz3 := (hb2.block _ HLT2.out).trans HZ.out
  obtain ⟨z0, z1, z2, z3, z4, z5, z6⟩ := cells7 hz3
  have zf := free7 hz3
  have zf0 := zf 0
  have zf1 := zf 1
  have zf2 := zf 2
  have zf3 := zf 3
  have zf4 := zf 4
  have zf5 := zf 5
  have zf6 := zf 6
  have HB3 := Lib.hid (HB1.out.trans (hb2.mono HB1.out.size))
  have HZ3 := Lib.hid hz3
  clear zf hz3 HX
  refine hK.out _ _ ?_ (fun hHeld => ?_)
  · ((try dsimp only); exact ⟨(hb2.cell (p := ⟨w.heap.size, 0, none⟩) hlt1).trans y0, (hb2.cell (p := ⟨w.heap.size, 1, none⟩) hlt1).trans y1, (hb2.cell (p := ⟨w.heap.size, 2, none⟩) hlt1).trans y2, (hb2.cell (p := ⟨w.heap.size, 3, none⟩) hlt1).trans y3, (hb2.cell (p := ⟨w.heap.size, 4, none⟩) hlt1).trans y4, (hb2.cell (p := ⟨w.heap.size, 5, none⟩) hlt1).trans y5, (hb2.cell (p := ⟨w.heap.size, 6, none⟩) hlt1).trans y6⟩)
  clear hK K
  try simp only [Act.put, List.setIfInBounds_toArray, List.set_cons_zero, List.set_cons_succ, List.getElem_toArray, List.getElem_cons_zero, List.getElem_cons_succ]
  refine wpAnyH_take (i := 11) (v := ?_) rfl (by kernel_rfl) (by kernel_rfl) (by kernel_rfl) (fun _ _ _ h => h) (Or.inl ⟨by rfl, ?_⟩) (by assumption) ?_
  rotate_left 1
  · (intro w hSw; (try dsimp only at hSw); first | (go_simp; done) | (go_simp; with_reducible rfl))
  try simp only [Act.put, List.setIfInBounds_toArray, List.set_cons_zero, List.set_cons_succ, List.getElem_toArray, List.getElem_cons_zero, List.getElem_cons_succ]
  refine wpAnyH_ready (rs := [12]) (by kernel_rfl) (by simp) ?_
  refine AllReadyH.cons rfl (fun K hK => ?_) AllReadyH.nil
  go_simp
  refine hK.out _ _ ?_ (fun hHeld => ?_)
  · ((try dsimp only); exact ⟨by simp [World.cell?_setCell_far, y0]; first | done | (exact (hb2.cell (p := ⟨w.heap.size, 0, none⟩) hlt1).trans y0), by simp [World.cell?_setCell_far, y1]; first | done | (exact (hb2.cell (p := ⟨w.heap.size, 1, none⟩) hlt1).trans y1), by simp [World.cell?_setCell_far, y2]; first | done | (exact (hb2.cell (p := ⟨w.heap.size, 2, none⟩) hlt1).trans y2), by simp [World.cell?_setCell_far, y3]; first | done | (exact (hb2.cell (p := ⟨w.heap.size, 3, none⟩) hlt1).trans y3), by simp [World.cell?_setCell_far, y4]; first | done | (exact (hb2.cell (p := ⟨w.heap.size, 4, none⟩) hlt1).trans y4), by simp [World.cell?_setCell_far, y5]; first | done | (exact (hb2.cell (p := ⟨w.heap.size, 5, none⟩) hlt1).trans y5), by simp [World.cell?_setCell_far, y6]; first | done | (exact (hb2.cell (p := ⟨w.heap.size, 6, none⟩) hlt1).trans y6)⟩)
  clear hK K
  try simp only [Act.put, List.setIfInBounds_toArray, List.set_cons_zero, List.set_cons_succ, List.getElem_toArray, List.getElem_cons_zero, List.getElem_cons_succ]
  refine wpAnyH_done (by kernel_rfl) ?_ _
  have hz3 := HZ3.out
  have HR := Lib.hid (cells7 (heap_setCell_same _ (w.heap.size + 1) 6 _ _ (.int .i64 K0) (heap_setCell_same _ (w.heap.size + 1) 5 _ _ (.int .i64 S) (heap_setCell_same _ (w.heap.size + 1) 4 _ _ (.int .i64 R) (heap_setCell_same _ (w.heap.size + 1) 3 _ _ (.int .i64 T) (heap_setCell_same _ (w.heap.size + 1) 2 _ _ (.slice a3 I.length c3) (heap_setCell_same _ (w.heap.size + 1) 1 _ _ (.slice a2 E.length c2) (heap_setCell_same _ (w.heap.size + 1) 0 _ _ (.int .i64 n) hz3))))))))
  clear hz3 z0 z1 z2 z3 z4 z5 z6 zf0 zf1 zf2 zf3 zf4 zf5 zf6
  go_wp2_with fail
  obtain ⟨r0, r1, r2, r3, r4, r5, r6⟩ := HR.out
  refine bodyPost_ret (v := .agg #[.int .i64 n, .slice a2 E.length c2, .slice a3 I.length c3, .int .i64 T, .int .i64 R, .int .i64 S, .int .i64 K0]) (by simp [results, Tryz.results20, go_sem, r0, r1, r2, r3, r4, r5, r6]) rfl ⟨_, _, rfl, ?_, ((((((((HB3.out).setCell (p := ⟨w.heap.size + 1, 0, none⟩) (Nat.le_succ _) _).setCell (p := ⟨w.heap.size + 1, 1, none⟩) (Nat.le_succ _) _).setCell (p := ⟨w.heap.size + 1, 2, none⟩) (Nat.le_succ _) _).setCell (p := ⟨w.heap.size + 1, 3, none⟩) (Nat.le_succ _) _).setCell (p := ⟨w.heap.size + 1, 4, none⟩) (Nat.le_succ _) _).setCell (p := ⟨w.heap.size + 1, 5, none⟩) (Nat.le_succ _) _).setCell (p := ⟨w.heap.size + 1, 6, none⟩) (Nat.le_succ _) _)⟩
  exact ⟨Own.rd (T := 70) HO1.out HG.out.ed.wf, OwnI.rd (T := 3) HO2.out HG.out.inp.wf⟩
end Go.Proofs.YtdbaacalfbbdiaaGreatDoor.Md
