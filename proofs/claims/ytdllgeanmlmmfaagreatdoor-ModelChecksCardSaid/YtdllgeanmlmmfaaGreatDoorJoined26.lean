/-
  PACKAGE model: Check: what is wrong with a Plan.
  MEMORY: a row of the call's own of which several cells are laid anew, or that is cut; clear.
  PACKAGE claim: the library's Delete of one handle.
-/
import Derived.Test.YtdllgeanmlmmfaaGreatDoorJoined25
import Derived.Test.YtdllgeanmlmmfaaGreatDoorGCheck2
import Derived.Deep.Cut
import Derived.Test.YtdllgeanmlmmfaaGreatDoorJoined1
import Derived.Laws.IdiomCopy
import Derived.Deep.Upon
import Derived.Lib.SliceRun
import Derived.Deep.RegionLaw
import Derived.Test.YtdllgeanmlmmfaaGreatDoorJoined11
namespace Go.Proofs.YtdllgeanmlmmfaaGreatDoor.Md
open Go.RowKit Gr Fault
set_option linter.unusedVariables false
set_option linter.unusedSimpArgs false

/-- What is wrong with a Plan: the graph ahead of the numbers. -/
noncomputable def planV (n : Int) (E : List Ed) (I : List Int) (T R S K : Int) : List Pl × Int :=
  if (chkV n E I).2 ≠ 0 then chkV n E I
  else if T < 1 ∨ 8 < T then ([(⟨#[116, 104, 114, 101, 97, 100, 115]⟩, T)], 1)
  else if ringB R = false then ([(⟨#[114, 105, 110, 103]⟩, R)], 1)
  else if S < 1 ∨ 8 < S then ([(⟨#[115, 104, 97, 114, 100, 115]⟩, S)], 1)
  else if K < 1 ∨ 8 < K then ([(⟨#[116, 114, 105, 101, 115]⟩, K)], 1)
  else ([], 0)
theorem cells7 {w : World} {b : Nat} {T : TypeId} {v0 v1 v2 v3 v4 v5 v6 : Value} (h : w.heap[b]? = some (.cells #[v0, v1, v2, v3, v4, v5, v6] T (0, 0))) :
    w.cell? ⟨b, 0, none⟩ = some v0 ∧ w.cell? ⟨b, 1, none⟩ = some v1 ∧ w.cell? ⟨b, 2, none⟩ = some v2 ∧ w.cell? ⟨b, 3, none⟩ = some v3 ∧ w.cell? ⟨b, 4, none⟩ = some v4 ∧ w.cell? ⟨b, 5, none⟩ = some v5 ∧ w.cell? ⟨b, 6, none⟩ = some v6 := by
  simp [World.cell?, h]
set_option maxRecDepth 1000000 in
set_option maxHeartbeats 16000000 in
theorem mdCheck_any {w : World} {ve vi : Value} {E : List Ed} {I : List Int} (n T R S K : Int) (hv : Rd w ve E) (hi : RdI w vi I) :
    Calls Tryz.prog 5 #[.agg #[.int .i64 n, ve, vi, .int .i64 T, .int .i64 R, .int .i64 S, .int .i64 K]] w fun e w' => ∃ v, e = .returned v ∧ ErrIs w' v (planV n E I T R S K) ∧ Below w.heap.size w w' := by
  have HV := Lib.hid hv
  have HI := Lib.hid hi
  obtain ⟨ao, cap, rfl, _⟩ := hv
  obtain ⟨aoi, capi, rfl, _⟩ := hi
  obtain ⟨w1, hw1⟩ : ∃ w1, w1 = w.alloc (.cells #[.int .i64 n, .slice ao E.length cap, .slice aoi I.length capi, .int .i64 T, .int .i64 R, .int .i64 S, .int .i64 K] 35) := ⟨_, rfl⟩
  have HX := Lib.hid (show w1.heap[w.heap.size]? = some (.cells #[.int .i64 n, .slice ao E.length cap, .slice aoi I.length capi, .int .i64 T, .int .i64 R, .int .i64 S, .int .i64 K] 35 (0, 0)) by rw [hw1]; exact heap_alloc_new w _)
  have HB := Lib.hid (show Below w.heap.size w w1 by rw [hw1]; exact (Below.refl _ _).alloc (Nat.le_refl _) _)
  have hs1 : w.heap.size < w1.heap.size := (Array.getElem?_eq_some_iff.1 HX.out).1
  go_enter Tryz.func5, Tryz.ntmps5
  go_upto_region 1 with fail
  rw [← hw1]
  clear hw1
  obtain ⟨y0, y1, y2, y3, y4, y5, y6⟩ := cells7 HX.out
  go_wp2_with fail
  go_at_call 22
  refine (check_any n (HV.out.below HB.out) (HI.out.below HB.out)).mono ?_
  rintro e w2 ⟨v, rfl, hE, hb⟩
  have hx2 := (hb.block _ hs1).trans HX.out
  have HB2 := Lib.hid (HB.out.trans (hb.mono HB.out.size))
  clear y0 y1 y2 y3 y4 y5 y6 hs1 hb HV HI
  obtain ⟨y0, y1, y2, y3, y4, y5, y6⟩ := cells7 hx2
  clear hx2 HX HB
  rcases id hE with ⟨hk, _, rfl⟩ | ⟨hk, _, u, x, rfl⟩
  · have HK := Lib.hid hk
    clear hE hk
    by_cases ht1 : T < 1
    · have dt1 : decide (T < 1) = true := decide_eq_true ht1
      have HP := Lib.hid (show planV n E I T R S K = ([(⟨#[116, 104, 114, 101, 97, 100, 115]⟩, T)], 1) from by rw [planV, if_neg (by rw [HK.out]; decide), if_pos (.inl ht1)])
      go_wp2_with fail
      go_at_call 23
      refine (at_chain (l := []) (b := errnoV 1) _ _ rfl (.inl ⟨1, rfl⟩)).mono ?_
      rintro e w3 ⟨blk, rfl, hch, hb3⟩
      have HF := Lib.hid (And.intro hch (HB2.out.trans (hb3.mono HB2.out.size)))
      clear hch hb3
      go_wp2_with fail
      go_ret
      exact ⟨_, rfl, by rw [HP.out]; exact ErrIs.some (by decide) HF.out.1, HF.out.2⟩
    have dt1 : decide (T < 1) = false := decide_eq_false ht1
    by_cases ht2 : 8 < T
    · have dt2 : decide (8 < T) = true := decide_eq_true ht2
      have HP := Lib.hid (show planV n E I T R S K = ([(⟨#[116, 104, 114, 101, 97, 100, 115]⟩, T)], 1) from by rw [planV, if_neg (by rw [HK.out]; decide), if_pos (.inr ht2)])
      go_wp2_with fail
      go_at_call 23
      refine (at_chain (l := []) (b := errnoV 1) _ _ rfl (.inl ⟨1, rfl⟩)).mono ?_
      rintro e w3 ⟨blk, rfl, hch, hb3⟩
      have HF := Lib.hid (And.intro hch (HB2.out.trans (hb3.mono HB2.out.size)))
      clear hch hb3
      go_wp2_with fail
      go_ret
      exact ⟨_, rfl, by rw [HP.out]; exact ErrIs.some (by decide) HF.out.1, HF.out.2⟩
    have dt2 : decide (8 < T) = false := decide_eq_false ht2
    go_wp2_with fail
    go_at_call 24
    refine (mdRing_any R _).mono ?_
    cases hR : ringB R with
    | false =>
      have HP := Lib.hid (show planV n E I T R S K = ([(⟨#[114, 105, 110, 103]⟩, R)], 1) from by rw [planV, if_neg (by rw [HK.out]; decide), if_neg (by omega), if_pos hR])
      rintro e w3 ⟨rfl, rfl⟩
      go_wp2_with fail
      go_at_call 23
      refine (at_chain (l := []) (b := errnoV 1) _ _ rfl (.inl ⟨1, rfl⟩)).mono ?_
      rintro e w3 ⟨blk, rfl, hch, hb3⟩
      have HF := Lib.hid (And.intro hch (HB2.out.trans (hb3.mono HB2.out.size)))
      clear hch hb3
      go_wp2_with fail
      go_ret
      exact ⟨_, rfl, by rw [HP.out]; exact ErrIs.some (by decide) HF.out.1, HF.out.2⟩
    | true =>
      rintro e w3 ⟨rfl, rfl⟩
      by_cases hs1 : S < 1
      · have ds1 : decide (S < 1) = true := decide_eq_true hs1
        have HP := Lib.hid (show planV n E I T R S K = ([(⟨#[115, 104, 97, 114, 100, 115]⟩, S)], 1) from by rw [planV, if_neg (by rw [HK.out]; decide), if_neg (by omega), if_neg (by rw [hR]; decide), if_pos (.inl hs1)])
        go_wp2_with fail
        go_at_call 23
        refine (at_chain (l := []) (b := errnoV 1) _ _ rfl (.inl ⟨1, rfl⟩)).mono ?_
        rintro e w3 ⟨blk, rfl, hch, hb3⟩
        have HF := Lib.hid (And.intro hch (HB2.out.trans (hb3.mono HB2.out.size)))
        clear hch hb3
        go_wp2_with fail
        go_ret
        exact ⟨_, rfl, by rw [HP.out]; exact ErrIs.some (by decide) HF.out.1, HF.out.2⟩
      have ds1 : decide (S < 1) = false := decide_eq_false hs1
      by_cases hs2 : 8 < S
      · have ds2 : decide (8 < S) = true := decide_eq_true hs2
        have HP := Lib.hid (show planV n E I T R S K = ([(⟨#[115, 104, 97, 114, 100, 115]⟩, S)], 1) from by rw [planV, if_neg (by rw [HK.out]; decide), if_neg (by omega), if_neg (by rw [hR]; decide), if_pos (.inr hs2)])
        go_wp2_with fail
        go_at_call 23
        refine (at_chain (l := []) (b := errnoV 1) _ _ rfl (.inl ⟨1, rfl⟩)).mono ?_
        rintro e w3 ⟨blk, rfl, hch, hb3⟩
        have HF := Lib.hid (And.intro hch (HB2.out.trans (hb3.mono HB2.out.size)))
        clear hch hb3
        go_wp2_with fail
        go_ret
        exact ⟨_, rfl, by rw [HP.out]; exact ErrIs.some (by decide) HF.out.1, HF.out.2⟩
      have ds2 : decide (8 < S) = false := decide_eq_false hs2
      by_cases hk1 : K < 1
      · have dk1 : decide (K < 1) = true := decide_eq_true hk1
        have HP := Lib.hid (show planV n E I T R S K = ([(⟨#[116, 114, 105, 101, 115]⟩, K)], 1) from by rw [planV, if_neg (by rw [HK.out]; decide), if_neg (by omega), if_neg (by rw [hR]; decide), if_neg (by omega), if_pos (.inl hk1)])
        go_wp2_with fail
        go_at_call 23
        refine (at_chain (l := []) (b := errnoV 1) _ _ rfl (.inl ⟨1, rfl⟩)).mono ?_
        rintro e w3 ⟨blk, rfl, hch, hb3⟩
        have HF := Lib.hid (And.intro hch (HB2.out.trans (hb3.mono HB2.out.size)))
        clear hch hb3
        go_wp2_with fail
        go_ret
        exact ⟨_, rfl, by rw [HP.out]; exact ErrIs.some (by decide) HF.out.1, HF.out.2⟩
      have dk1 : decide (K < 1) = false := decide_eq_false hk1
      by_cases hk2 : 8 < K
      · have dk2 : decide (8 < K) = true := decide_eq_true hk2
        have HP := Lib.hid (show planV n E I T R S K = ([(⟨#[116, 114, 105, 101, 115]⟩, K)], 1) from by rw [planV, if_neg (by rw [HK.out]; decide), if_neg (by omega), if_neg (by rw [hR]; decide), if_neg (by omega), if_pos (.inr hk2)])
        go_wp2_with fail
        go_at_call 23
        refine (at_chain (l := []) (b := errnoV 1) _ _ rfl (.inl ⟨1, rfl⟩)).mono ?_
        rintro e w3 ⟨blk, rfl, hch, hb3⟩
        have HF := Lib.hid (And.intro hch (HB2.out.trans (hb3.mono HB2.out.size)))
        clear hch hb3
        go_wp2_with fail
        go_ret
        exact ⟨_, rfl, by rw [HP.out]; exact ErrIs.some (by decide) HF.out.1, HF.out.2⟩
      have dk2 : decide (8 < K) = false := decide_eq_false hk2
      have HP := Lib.hid (show planV n E I T R S K = ([], 0) from by rw [planV, if_neg (by rw [HK.out]; decide), if_neg (by omega), if_neg (by rw [hR]; decide), if_neg (by omega), if_neg (by omega)])
      go_wp2_with fail
      go_ret
      exact ⟨_, rfl, by rw [HP.out]; exact ErrIs.none _, HB2.out⟩
  · have HP := Lib.hid (show planV n E I T R S K = chkV n E I from if_pos hk)
    have HE := Lib.hid hE
    clear hE hk
    go_wp2_with fail
    go_ret
    exact ⟨_, rfl, by rw [HP.out]; exact HE.out, HB2.out⟩
end Go.Proofs.YtdllgeanmlmmfaaGreatDoor.Md
namespace Go.Proofs.YtdllgeanmlmmfaaGreatDoor.Rw
open Go.RowKit Go.Lib
set_option linter.unusedVariables false

theorem row_setCells {base g n cap m : Nat} {T : TypeId} {size : Nat} : ∀ (vs : List Value) (o : Nat) (w : World) (xs : List Value), w.ownsRow base T size (.slice (some ⟨g, 0, none⟩) m cap) n xs → o + vs.length ≤ n * size →
    (w.setCells g o vs).ownsRow base T size (.slice (some ⟨g, 0, none⟩) m cap) n (xs.take o ++ vs ++ xs.drop (o + vs.length))
  | [], o, w, xs, h, _ => by simpa [World.setCells] using h
  | v :: r, o, w, xs, h, ho => by
    have hl : xs.length = n * size := h.1
    rw [List.length_cons] at ho
    have h1 := row_set h (j := o) (by omega) v
    have h2 := row_setCells r (o + 1) _ _ h1 (by omega)
    show ((w.setCell ⟨g, o, none⟩ v).setCells g (o + 1) r).ownsRow _ _ _ _ _ _
    have e : xs.take o ++ (v :: r) ++ xs.drop (o + (r.length + 1)) = (xs.set o v).take (o + 1) ++ r ++ (xs.set o v).drop (o + 1 + r.length) := by
      have ho' : o < xs.length := by omega
      obtain ⟨A, y, C, hx, hA⟩ : ∃ A y C, xs = A ++ y :: C ∧ A.length = o := ⟨xs.take o, xs[o], xs.drop (o + 1), by rw [← List.drop_eq_getElem_cons ho', List.take_append_drop], by rw [List.length_take]; omega⟩
      subst hx hA
      have e1 : (A ++ y :: C).set A.length v = A ++ v :: C := by simp
      have e2 : (A ++ v :: C).take (A.length + 1) = A ++ [v] := by rw [List.take_append, List.take_of_length_le (by omega), show A.length + 1 - A.length = 1 by omega]; rfl
      have e3 : (A ++ v :: C).drop (A.length + 1 + r.length) = C.drop r.length := by
        rw [show A.length + 1 + r.length = A.length + (r.length + 1) by omega, List.drop_length_add_append, List.drop_succ_cons]
      have e4 : (A ++ y :: C).drop (A.length + (r.length + 1)) = C.drop r.length := by rw [List.drop_length_add_append, List.drop_succ_cons]
      have e5 : (A ++ y :: C).take A.length = A := by simp
      rw [e1, e2, e3, e4, e5]
      simp
    rw [List.length_cons, e]
    exact h2
theorem row_cut {w : World} {base g n cap k : Nat} {T : TypeId} {size : Nat} {xs : List Value} (h : w.ownsRow base T size (.slice (some ⟨g, 0, none⟩) n cap) n xs) (hk : k ≤ n) :
    w.ownsRow base T size (.slice (some ⟨g, 0, none⟩) k cap) k (xs.take (k * size)) := by
  have hl : xs.length = n * size := h.1
  have hks : k * size ≤ n * size := Nat.mul_le_mul_right _ hk
  refine ⟨by rw [List.length_take, hl]; omega, ?_⟩
  rcases h.2 with ⟨hv, _⟩ | ⟨g', cap', cur, hv, hb, hg, hn, hc, hs, ht⟩
  · simp at hv
  · simp at hv
    obtain ⟨rfl, rfl⟩ := hv
    refine .inr ⟨g, cap, cur, rfl, hb, hg, by omega, hc, hs, ?_⟩
    rw [← ht, List.take_take, Nat.min_eq_left hks]
/-- A slice that goes on to where its array has room. -/
theorem below_setCells {B : Nat} {a : World} {g : Nat} (hg : B ≤ g) : ∀ (vs : List Value) (o : Nat) (w : World), Below B a w → Below B a (w.setCells g o vs)
  | [], _, _, h => h
  | v :: r, o, w, h => below_setCells hg r (o + 1) _ (h.setCell (p := ⟨g, o, none⟩) hg v)
theorem run_clear_any {P : Program} (w : World) (t e ty : TypeId) (z : Value) (ht : P.underlying t = some (.slice e)) (hv : ∀ w, (zeroValue e).run P w = .ok z w) (b o n c : Nat) (hn : 0 < n) (h1 : ∀ v ∈ (Builtin.zeroCells z.cells n).toList, v.oneCell' = true)
    (hc : ∀ j, j < (Builtin.zeroCells z.cells n).toList.length → (w.cell? ⟨b, o + j, none⟩).isSome = true) (hf : ∀ j, j < (Builtin.zeroCells z.cells n).toList.length → w.frozen? ⟨b, o + j, none⟩ = false) :
    (Builtin.clear_ #[t] ty #[.slice (some ⟨b, o, none⟩) n c]).run P w = .ok (.tuple #[]) (w.setCells b o (Builtin.zeroCells z.cells n).toList) := by
  have hst := run_storeCells_cells (P := P) b o (Builtin.zeroCells z.cells n).toList 0 w (by simpa using hc) (by simpa using hf) h1
  simp only [Nat.add_zero] at hst
  obtain ⟨m, rfl⟩ : ∃ m, n = m + 1 := ⟨n - 1, by omega⟩
  simp [Builtin.clear_, run_underlying ht, hv, hst]
end Go.Proofs.YtdllgeanmlmmfaaGreatDoor.Rw
namespace Go.Proofs.YtdllgeanmlmmfaaGreatDoor.Cl
open Go.RowKit Gr Go.Lib
set_option linter.unusedVariables false

theorem sizeC {g : Nat} : ∀ (vs : List Value) (o : Nat) (w : World), (w.setCells g o vs).heap.size = w.heap.size
  | [], _, _ => rfl
  | v :: r, o, w => by rw [World.setCells, sizeC r]; simp [World.setCell]
/-- Block g alone is another one. -/
def OnlyB (g : Nat) (w w' : World) : Prop := (∀ B, B ≤ g → Below B w w') ∧ (∀ k, k ≠ g → k < w.heap.size → w'.heap[k]? = w.heap[k]?)
theorem OnlyB.drew (g : Nat) (w : World) (n : Nat) : OnlyB g w (w.drewN n) := ⟨fun B _ => below_drewN (Below.refl B w) n, fun k _ _ => rfl⟩
theorem OnlyB.cells {g : Nat} {w w' : World} (h : OnlyB g w w') (hs : w.heap.size ≤ w'.heap.size) (o : Nat) (vs : List Value) : OnlyB g w (w'.setCells g o vs) :=
  ⟨fun B hB => Rw.below_setCells hB vs o _ (h.1 B hB), fun k hk hl => (World.heap_setCells_other w' g o vs (by omega) hk).trans (h.2 k hk hl)⟩
theorem zeroH (n : Nat) (hn : n = 1) : (Builtin.zeroCells (Value.agg #[.int .i64 0, .int .i64 0, .int .u64 0]).cells n).toList = [.int .i64 0, .int .i64 0, .int .u64 0] := by subst hn; kernel_rfl
theorem zeroHand : ∀ w, (zeroValue 107).run Tryz.prog w = .ok (.agg #[.int .i64 0, .int .i64 0, .int .u64 0]) w := Tryz.zeroValue107
theorem cellsH_take (H : List Ed) (i : Nat) : (Gr.cellsL H).take (i * 3) = Gr.cellsL (H.take i) := by
  induction H generalizing i with
  | nil => simp [Gr.cellsL]
  | cons x r ih =>
    have e : ∀ q, Gr.cellsL (x :: q) = .int .i64 x.f :: .int .i64 x.t :: .int .u64 x.a :: Gr.cellsL q := fun _ => rfl
    cases i with
    | zero => simp [Gr.cellsL]
    | succ k => rw [e, show (k + 1) * 3 = k * 3 + 1 + 1 + 1 by omega, List.take_succ_cons, List.take_succ_cons, List.take_succ_cons, ih, List.take_succ_cons, e]
theorem cellsH_drop (H : List Ed) (i : Nat) : (Gr.cellsL H).drop (i * 3) = Gr.cellsL (H.drop i) := by
  induction H generalizing i with
  | nil => simp [Gr.cellsL]
  | cons x r ih =>
    have e : ∀ q, Gr.cellsL (x :: q) = .int .i64 x.f :: .int .i64 x.t :: .int .u64 x.a :: Gr.cellsL q := fun _ => rfl
    cases i with
    | zero => simp
    | succ k => rw [e, show (k + 1) * 3 = k * 3 + 1 + 1 + 1 by omega, List.drop_succ_cons, List.drop_succ_cons, List.drop_succ_cons, ih, List.drop_succ_cons]
theorem own_erase {w : World} {base g cap i k : Nat} {T : TypeId} {H : List Ed} (h : Own w base T (.slice (some ⟨g, 0, none⟩) H.length cap) H) (hk : H.length = k + 1) (hi : i < H.length) (z : List Value) (hz : z.length = 3) :
    Own ((w.setCells g (i * 3) (Gr.cellsL (H.drop (i + 1)))).setCells g (k * 3) z) base T (.slice (some ⟨g, 0, none⟩) k cap) (H.eraseIdx i) := by
  have hn : (Gr.cellsL (H.drop (i + 1))).length = (k - i) * 3 := by rw [Gr.cellsL_length, List.length_drop, hk]; congr 1; omega
  have h1 := Rw.row_setCells (Gr.cellsL (H.drop (i + 1))) (i * 3) w _ h (by rw [hn, hk]; omega)
  have h2 := Rw.row_setCells z (k * 3) _ _ h1 (by rw [hz, hk]; omega)
  have h3 := Rw.row_cut (n := H.length) (k := k) h2 (by omega)
  have e : (H.eraseIdx i).length = k := by rw [List.length_eraseIdx, if_pos hi, hk]; omega
  unfold Own
  rw [e, List.eraseIdx_eq_take_drop_succ, Gr.cellsL_append, ← cellsH_take]
  have ha : ((Gr.cellsL H).take (i * 3)).length = i * 3 := by rw [List.length_take, Gr.cellsL_length, hk]; omega
  have hb : ((Gr.cellsL H).take (i * 3) ++ Gr.cellsL (H.drop (i + 1))).length = k * 3 := by rw [List.length_append, ha, hn]; omega
  have hx : List.take (k * 3) ((Gr.cellsL H).take (i * 3) ++ Gr.cellsL (H.drop (i + 1)) ++ (Gr.cellsL H).drop (i * 3 + (Gr.cellsL (H.drop (i + 1))).length)) = (Gr.cellsL H).take (i * 3) ++ Gr.cellsL (H.drop (i + 1)) := by
    rw [List.take_append, ← hb, List.take_length, Nat.sub_self, List.take_zero, List.append_nil]
  rw [hx] at h3
  have hy : List.take (k * 3) ((Gr.cellsL H).take (i * 3) ++ Gr.cellsL (H.drop (i + 1)) ++ z ++ List.drop (k * 3 + z.length) ((Gr.cellsL H).take (i * 3) ++ Gr.cellsL (H.drop (i + 1)) ++ (Gr.cellsL H).drop (i * 3 + (Gr.cellsL (H.drop (i + 1))).length))) = (Gr.cellsL H).take (i * 3) ++ Gr.cellsL (H.drop (i + 1)) := by
    rw [List.append_assoc _ z, List.take_append, ← hb, List.take_length, Nat.sub_self, List.take_zero, List.append_nil]
  rw [hy] at h3
  exact h3
set_option maxRecDepth 1000000 in
set_option maxHeartbeats 8000000 in
theorem delete_any {w : World} {base g cap i : Nat} {H : List Ed} (h : Own w base 107 (.slice (some ⟨g, 0, none⟩) H.length cap) H) (hi : i < H.length) (hl : H.length ≤ 10000) :
    Calls Tryz.prog 128 #[.slice (some ⟨g, 0, none⟩) H.length cap, .int .i64 i, .int .i64 ((i : Int) + 1)] w
      fun e w' => ∃ v', e = .returned v' ∧ (∃ k, v' = .slice (some ⟨g, 0, none⟩) k cap) ∧ Own w' base 107 v' (H.eraseIdx i) ∧ OnlyB g w w' := by
  obtain ⟨i0, hi0, hz0, hz1, hz2⟩ := Gr.info_parts infoH
  have HO := Lib.hid h
  have hcc : H.length ≤ cap ∧ cap ≤ 9223372036854775807 := by
    rcases h.form with ⟨_, h⟩ | ⟨g', cap', h, _, _, h2, h3⟩
    · simp at h
    · simp only [Value.slice.injEq] at h; obtain ⟨_, _, rfl⟩ := h; exact ⟨h2, h3⟩
  have hc1 := hcc.1
  have hc2 := hcc.2
  have hj0 : (0 : Int) ≤ (i : Int) := Int.natCast_nonneg _
  have hj1 : (i : Int) < (H.length : Int) := by omega
  have hj2 : (i : Int) + 1 ≤ (H.length : Int) := by omega
  have hj3 : (i : Int) + 1 ≤ (cap : Int) := by omega
  have hj4 : (i : Int) ≤ (cap : Int) := by omega
  have hj5 : ¬ ((i : Int) = (i : Int) + 1) := by omega
  have hj6 : ((i : Int) == (i : Int) + 1) = false := by rw [beq_eq_false_iff_ne]; omega
  have hj7 : ((i : Int) + 1).toNat = i + 1 := by omega
  have hj8 : i + 1 ≤ cap := by omega
  have hj9 : i + 1 ≤ H.length := by omega
  have hj10 : i ≤ i + 1 := by omega
  have hj11 : (0 : Int) ≤ (i : Int) + 1 := by omega
  obtain ⟨k, hkn⟩ : ∃ k, H.length = k + 1 := ⟨H.length - 1, by omega⟩
  have HKN := Lib.hid hkn
  have hnl : (Gr.cellsL (H.drop (i + 1))).length = (H.length - (i + 1)) * 3 := by rw [Gr.cellsL_length, List.length_drop]
  obtain ⟨A, hA, hsrc⟩ : ∃ A : Addr, (if cap = i + 1 then some (⟨g, 0, none⟩ : Addr) else some ⟨g, (i + 1) * 3, none⟩) = some A ∧ Hid (∀ t u, (Gr.cellsL (H.drop (i + 1)))[t]? = some u → w.drew.cell? (A.add t) = some u) := by
    by_cases hc : cap = i + 1
    · refine ⟨⟨g, 0, none⟩, by simp [hc], fun t u hu => ?_⟩
      have h0 : (Gr.cellsL (H.drop (i + 1))).length = 0 := by rw [hnl]; omega
      rw [List.length_eq_zero_iff.1 h0] at hu
      simp at hu
    · refine ⟨⟨g, (i + 1) * 3, none⟩, by simp [hc], fun t u hu => ?_⟩
      rw [← cellsH_drop, List.getElem?_drop] at hu
      have := World.ownsRow.cells h (g := g) rfl _ u hu
      rw [Addr.add_lit] at this ⊢
      rw [Nat.zero_add] at this
      exact this
  have s1 : Hid ((Gr.cellsL (H.drop (i + 1))).length = (H.length - (i + 1)) * 3) := hnl
  have s2 : Hid (∀ u ∈ Gr.cellsL (H.drop (i + 1)), u.oneCell' = true) := Gr.cellsL_one _
  have hcur : ∀ t, t < H.length * 3 → (w.cell? ⟨g, t, none⟩).isSome = true ∧ w.frozen? ⟨g, t, none⟩ = false := by
    intro t ht
    obtain ⟨u, hu⟩ : ∃ u, (Gr.cellsL H)[t]? = some u := ⟨_, List.getElem?_eq_getElem (by rw [Gr.cellsL_length]; exact ht)⟩
    have := World.ownsRow.cells h (g := g) rfl t _ hu
    rw [Addr.add_lit, Nat.zero_add] at this
    exact ⟨by rw [this]; rfl, h.free t⟩
  have s3 : Hid (∀ t, t < (Gr.cellsL (H.drop (i + 1))).length → (w.drew.cell? ⟨g, 0 + i * 3 + t, none⟩).isSome = true ∧ w.drew.frozen? ⟨g, 0 + i * 3 + t, none⟩ = false) := by
    intro t ht
    rw [hnl] at ht
    rw [Nat.zero_add]
    exact hcur (i * 3 + t) (by omega)
  obtain ⟨W1, hW1⟩ : ∃ W1, W1 = w.drew.setCells g (0 + i * 3) (Gr.cellsL (H.drop (i + 1))) := ⟨_, rfl⟩
  have hk : i + (H.length - (i + 1)) = k := by omega
  have hk1 : H.length - k = 1 := by omega
  have hk2 : ¬ cap = k := by omega
  have hk3 : k ≤ H.length := by omega
  have hk4 : k ≤ cap := by omega
  have hk5 : (k : Int) ≤ (H.length : Int) := by omega
  have hk6 : (0 : Int) ≤ (k : Int) := Int.natCast_nonneg _
  have hcl : ∀ ty, (Builtin.clear_ #[58] ty #[.slice (some ⟨g, k * 3, none⟩) 1 (cap - k)]).run Tryz.prog W1 = .ok (.tuple #[]) (W1.setCells g (k * 3) [.int .i64 0, .int .i64 0, .int .u64 0]) := by
    intro ty
    have hz := zeroH 1 rfl
    have hin : ∀ t, t < 3 → (W1.cell? ⟨g, k * 3 + t, none⟩).isSome = true ∧ W1.frozen? ⟨g, k * 3 + t, none⟩ = false := by
      intro t ht
      have hq := hcur (k * 3 + t) (by omega)
      rw [hW1, World.frozen?_setCells, World.cell?_setCells_out _ _ _ _ _ (fun _ _ => .inr (by rw [hnl]; show 0 + i * 3 + (H.length - (i + 1)) * 3 ≤ k * 3 + t; omega))]
      exact hq
    have := Rw.run_clear_any (P := Tryz.prog) W1 58 107 ty _ Tryz.underlying58 zeroHand g (k * 3) 1 (cap - k) (by decide) (by rw [hz]; intro v hv; simp at hv; rcases hv with rfl | rfl | rfl <;> rfl) (by rw [hz]; exact fun t ht => (hin t ht).1) (by rw [hz]; exact fun t ht => (hin t ht).2)
    rw [hz] at this
    exact this
  have hW : Hid (W1 = w.drew.setCells g (0 + i * 3) (Gr.cellsL (H.drop (i + 1)))) := hW1
  have hic : i + (H.length - (i + 1)) ≤ cap := by omega
  clear h hcc hnl hcur hW1 hkn hic
  go_enter Tryz.func128, Tryz.ntmps128
  go_upto_region 5 with fail
  go_region_law (refine step_append_room rfl (.tmp 22) (.tmp 25) 58 rfl 107 i0 3 Tryz.underlying58 hi0 hz1 g 0 i cap (by simp [Act.eval, Act.put]) A (H.length - (i + 1)) (cap - (i + 1)) (Gr.cellsL (H.drop (i + 1))) (by simp [Act.eval, Act.put]) s1.out hsrc.out s2.out (by omega) s3.out ?_; rw [← hW.out])
  go_wp2
  go_ret
  refine ⟨_, rfl, ⟨_, rfl⟩, ?_, ?_⟩
  · rw [hW.out, Nat.zero_add]
    exact own_erase (HO.out.draw 1) HKN.out hi _ rfl
  · rw [hW.out]
    exact ((OnlyB.drew g w 1).cells (Nat.le_refl _) _ _).cells (by rw [sizeC]; exact Nat.le_refl _) _ _
end Go.Proofs.YtdllgeanmlmmfaaGreatDoor.Cl
