/-
  PACKAGE hist: a list of Entries as it reads; a map[int]bool of the call's own; Right.
-/
import Derived.Test.YtdllgeanmlmmfaaGreatDoorJoined12
import Derived.Maps.OwnSet
import Derived.Maps.OwnOps
import Derived.Deep.Cut
import Derived.Deep.LoopGhost
namespace Go.Proofs.YtdllgeanmlmmfaaGreatDoor.Hs
open Go.RowKit Go.Maps
set_option linter.unusedVariables false
set_option linter.unusedSimpArgs false

def I64h (x : Int) : Prop := -9223372036854775808 ≤ x ∧ x ≤ 9223372036854775807
/-! ### a map[int]bool -/
abbrev HMT : TypeId := 120
theorem hsKey : Keyed Tryz.prog 3 := int_keyed Tryz.underlying3
theorem I64h.wf {x : Int} (h : I64h x) : (Lit.int .i64 x).wf = true := by
  have h1 : IntKind.i64.min = -9223372036854775808 := rfl
  have h2 : IntKind.i64.max = 9223372036854775807 := rfl
  simp only [Lit.wf, Bool.and_eq_true, decide_eq_true_eq, h1, h2]
  exact h
theorem hsKey_mk {x : Int} (h : I64h x) : keyOf Tryz.prog 3 (.int .i64 x) = some (.int .i64 x) := keyOf_int_mk Tryz.underlying3 h.wf
theorem hsZero (w : World) : (zeroValue 4).run Tryz.prog w = .ok (.bool false) w := by kernel_rfl
theorem hsPlain (x : Bool) : plainElem (H := Unit) Tryz.prog 4 (.bool x) = some (.lit (.bool x), []) := plainElem_bool Tryz.underlying4 x
theorem hsInv {P : Program} {e : TypeId} (he : P.underlying e = some .bool) {v : Value} {x : Bool} {ps : List MemPlace} (h : plainElem (H := Unit) P e v = some (.lit (.bool x), ps)) : v = .bool x := by
  unfold plainElem at h
  rw [he] at h
  cases v <;> simp at h
  rw [h.1]
theorem hsIsKey (x : Int) : WideAt.IsKeyLit (.int .i64 x) := by first | exact trivial | (unfold WideAt.IsKeyLit; simp) | simp [WideAt.IsKeyLit]
def HMap (w : World) (mb n : Nat) (sp : Int → Bool) : Prop := ∃ D : DataW Unit, w.ownsMap Tryz.prog 3 (plainElem Tryz.prog 4) mb n D ∧ ∀ i, D.atKey (.int .i64 i) (.lit (.bool false)) = .lit (.bool (sp i))
def putH (sp : Int → Bool) (m : Int) (x : Bool) : Int → Bool := fun i => if i = m then x else sp i
theorem HMap.of_block {w w' : World} {b n : Nat} {sp : Int → Bool} (h : HMap w b n sp) (hb : w'.heap[b]? = w.heap[b]?) : HMap w' b n sp := by
  obtain ⟨D, ⟨es, clock, h1, h2⟩, h3⟩ := h
  exact ⟨D, ⟨es, clock, hb.trans h1, h2⟩, h3⟩
theorem HMap.lt {w : World} {b n : Nat} {sp : Int → Bool} (h : HMap w b n sp) : b < w.heap.size := by obtain ⟨D, h, _⟩ := h; exact h.lt
theorem HMap.below {w w' : World} {b n : Nat} {sp : Int → Bool} (h : HMap w b n sp) (hb : Below w.heap.size w w') : HMap w' b n sp := h.of_block (hb.block b h.lt)
theorem hmap_made {w : World} {b : Nat} (hb : w.heap[b]? = some (.map #[] 0)) : HMap w b 0 (fun _ => false) := by
  have h0 := World.ownsMap_made w Tryz.prog 3 (plainElem (H := Unit) Tryz.prog 4)
  obtain ⟨es, clock, h1, h2⟩ := h0
  have h1' : some (Obj.map #[] 0) = some (.map es clock) := by rw [← h1]; exact (heap_alloc_new w (.map #[] 0)).symm
  cases h1'
  exact ⟨_, ⟨#[], 0, hb, h2⟩, fun i => rfl⟩
theorem HMap.look {w : World} {mb n : Nat} {sp : Int → Bool} (h : HMap w mb n sp) {m : Int} (hw : I64h m) : (Instr.lookup HMT (.map (some mb)) (.int .i64 m) false).run Tryz.prog w = .ok (.bool (sp m)) w := by
  obtain ⟨D, h1, h2⟩ := h
  obtain ⟨v, ps, hrun, hv⟩ := h1.lookup hsKey Tryz.underlying120 (hsZero w) (hsPlain false) (hsKey_mk hw)
  rw [h2] at hv
  rw [hsInv Tryz.underlying4 hv] at hrun
  exact hrun
def HTurn (w : World) (b : Nat) (w' : World) : Prop := w.heap.size ≤ w'.heap.size ∧ Below 0 w w' ∧ ∀ i, i < w.heap.size → i ≠ b → w'.heap[i]? = w.heap[i]?
theorem HTurn.of {w w' : World} {b : Nat} (h : w.mapTurned w' b) : HTurn w b w' := by
  have hg := h.grown
  exact ⟨hg.size, (Below.refl 0 w).grown hg (Nat.zero_le _) (fun _ _ => Nat.zero_le _), fun i hi hn => hg.block i hi (fun e => hn (Option.some.inj e))⟩
theorem HTurn.below {w w' : World} {b B : Nat} (h : HTurn w b w') (hB : B ≤ w.heap.size) (hb : B ≤ b) : Below B w w' := ⟨h.2.1.os, h.2.1.tape, h.2.1.output, h.2.1.size, fun k hk => h.2.2 k (by omega) (by omega)⟩
theorem HMap.store {w : World} {mb n : Nat} {sp : Int → Bool} (h : HMap w mb n sp) (hn : n ≤ 100000) {m : Int} (hw : I64h m) (x : Bool) :
    ∃ w', (Instr.mapUpdate HMT (.map (some mb)) (.int .i64 m) (.bool x)).run Tryz.prog w = .ok () w' ∧ HMap w' mb (n + 1) (putH sp m x) ∧ HTurn w mb w' := by
  obtain ⟨D, h1, h2⟩ := h
  obtain ⟨w', hu, ho, ht⟩ := h1.store hsKey Tryz.underlying120 (show n < maxLen by unfold maxLen; omega) (hsKey_mk hw) (hsPlain x)
  refine ⟨w', hu, ⟨_, ho, fun i => ?_⟩, HTurn.of ht⟩
  unfold putH
  by_cases e : i = m
  · subst e
    rw [if_pos rfl]
    exact atKey_put_same (h1.tidy hsKey).isMap (hsIsKey i) _ _
  · rw [if_neg e, atKey_put_other (fun he => e (Lit.int.inj he).2)]
    exact h2 i

/-! ### a list of Entries -/
def EnAt (w : World) (b o : Nat) (x : En) : Prop :=
  w.cell? ⟨b, o, none⟩ = some (.int .i64 x.who) ∧ w.cell? ⟨b, o + 1, none⟩ = some (.int .i64 x.beg) ∧ w.cell? ⟨b, o + 2, none⟩ = some (.int .i64 x.mark) ∧ w.cell? ⟨b, o + 3, none⟩ = some (.int .i64 x.fin) ∧
  w.cell? ⟨b, o + 4, none⟩ = some (.int .i64 x.kind) ∧ w.cell? ⟨b, o + 5, none⟩ = some (.int .i64 x.owho) ∧ w.cell? ⟨b, o + 6, none⟩ = some (.int .i64 x.hand) ∧ w.cell? ⟨b, o + 7, none⟩ = some (.int .i64 x.port) ∧
  w.cell? ⟨b, o + 8, none⟩ = some (.int .u64 x.time) ∧ w.cell? ⟨b, o + 9, none⟩ = some (.slice x.la x.ln x.lc) ∧ w.cell? ⟨b, o + 10, none⟩ = some (.int .i64 x.way) ∧ w.cell? ⟨b, o + 11, none⟩ = some (.int .i64 x.n) ∧
  w.cell? ⟨b, o + 12, none⟩ = some (.int .i64 x.err) ∧ w.cell? ⟨b, o + 13, none⟩ = some (.slice x.ta x.tn x.tc)
theorem EnAt.lt {w : World} {b o : Nat} {x : En} (h : EnAt w b o x) : b < w.heap.size := Lib.lt_of_cell h.1
theorem EnAt.of_cells {w w' : World} {b o : Nat} {x : En} (h : EnAt w b o x) (e : ∀ j, w'.cell? ⟨b, j, none⟩ = w.cell? ⟨b, j, none⟩) : EnAt w' b o x := by
  obtain ⟨h0, h1, h2, h3, h4, h5, h6, h7, h8, h9, h10, h11, h12, h13⟩ := h
  exact ⟨(e _).trans h0, (e _).trans h1, (e _).trans h2, (e _).trans h3, (e _).trans h4, (e _).trans h5, (e _).trans h6, (e _).trans h7, (e _).trans h8, (e _).trans h9, (e _).trans h10, (e _).trans h11, (e _).trans h12, (e _).trans h13⟩
theorem EnAt.below {w w' : World} {B b o : Nat} {x : En} (h : EnAt w b o x) (hw : Below B w w') (hb : b < B) : EnAt w' b o x := h.of_cells (fun j => hw.cell (p := ⟨b, j, none⟩) hb)
def RdE (w : World) (v : Value) (L : List En) : Prop := ∃ (ao : Option Addr) (cap : Nat), v = .slice ao L.length cap ∧ L.length ≤ 9223372036854775807 ∧ (L = [] ∨ ∃ b off, ao = some ⟨b, off, none⟩ ∧ ∀ (i : Nat) x, L[i]? = some x → EnAt w b (off + i * 14) x ∧ I64h x.mark)
theorem RdE.below {w w' : World} {v : Value} {L : List En} (h : RdE w v L) (hw : Below w.heap.size w w') : RdE w' v L := by
  obtain ⟨ao, cap, hv, hl, h⟩ := h
  refine ⟨ao, cap, hv, hl, h.imp id ?_⟩
  rintro ⟨b, off, ha, h⟩
  exact ⟨b, off, ha, fun i x hx => ⟨(h i x hx).1.below hw (h i x hx).1.lt, (h i x hx).2⟩⟩
theorem cells14 {w : World} {b : Nat} {T : TypeId} (x : En) (h : w.heap[b]? = some (.cells #[.int .i64 x.who, .int .i64 x.beg, .int .i64 x.mark, .int .i64 x.fin, .int .i64 x.kind, .int .i64 x.owho, .int .i64 x.hand, .int .i64 x.port, .int .u64 x.time, .slice x.la x.ln x.lc, .int .i64 x.way, .int .i64 x.n, .int .i64 x.err, .slice x.ta x.tn x.tc] T (0, 0))) : EnAt w b 0 x := by
  simp [EnAt, World.cell?, h]
/-! ### Right -/
def rightUp (T : Int) : List En → (Int → Bool) → Bool
  | [], _ => true
  | x :: r, sp => whoseB T x && (withinB x && (!sp x.mark && rightUp T r (putH sp x.mark (x.mark != 0))))
def rightB (T : Int) (L : List En) : Bool := decide (1 ≤ T) && (decide (T ≤ 8) && (decide (L.length ≤ 65536) && rightUp T L (fun _ => false)))

set_option maxRecDepth 1000000 in
set_option maxHeartbeats 8000000 in
theorem hsRight_any {w : World} {v : Value} {L : List En} (T : Int) (hv : RdE w v L) :
    Calls Tryz.prog 21 #[.int .i64 T, v] w fun e w' => e = .returned (.bool (rightB T L)) ∧ Below w.heap.size w w' := by
  obtain ⟨ao, cap, rfl, hll, hcell⟩ := hv
  have HC := Lib.hid hcell
  clear hcell
  by_cases h1 : T < 1
  · have d1 : decide (T < 1) = true := decide_eq_true h1
    have HR := Lib.hid (show rightB T L = false from by simp [rightB]; omega)
    clear h1
    go_enter Tryz.func21, Tryz.ntmps21
    go_wp2_with fail
    go_ret
    exact ⟨by rw [HR.out]; rfl, Below.refl _ _⟩
  have d1 : decide (T < 1) = false := decide_eq_false h1
  by_cases h2 : 8 < T
  · have d2 : decide (8 < T) = true := decide_eq_true h2
    have HR := Lib.hid (show rightB T L = false from by simp [rightB]; omega)
    clear h1 h2
    go_enter Tryz.func21, Tryz.ntmps21
    go_wp2_with fail
    go_ret
    exact ⟨by rw [HR.out]; rfl, Below.refl _ _⟩
  have d2 : decide (8 < T) = false := decide_eq_false h2
  by_cases h3 : 65536 < L.length
  · have d3 : decide (65536 < (L.length : Int)) = true := decide_eq_true (by omega)
    have HR := Lib.hid (show rightB T L = false from by simp [rightB]; omega)
    clear h1 h2 h3
    go_enter Tryz.func21, Tryz.ntmps21
    go_wp2_with fail
    go_ret
    exact ⟨by rw [HR.out]; rfl, Below.refl _ _⟩
  have d3 : decide (65536 < (L.length : Int)) = false := decide_eq_false (by omega)
  have HR := Lib.hid (show rightB T L = rightUp T L (fun _ => false) from by rw [rightB, decide_eq_true (by omega), decide_eq_true (by omega), decide_eq_true (by omega)]; rfl)
  have HLL := Lib.hid (show L.length ≤ 65536 by omega)
  have hmm := @run_makeMap Tryz.prog
  clear h1 h2 h3
  go_enter Tryz.func21, Tryz.ntmps21
  go_upto_region 4 with fail
  clear hmm d1 d2 d3
  obtain ⟨W0, hW0⟩ : ∃ W0, W0 = w.alloc (.map #[] 0) := ⟨_, rfl⟩
  rw [← hW0]
  have HM0 := Lib.hid (show HMap W0 w.heap.size 0 (fun _ => false) from hmap_made (by rw [hW0]; exact heap_alloc_new w _))
  have HB0 := Lib.hid (show Below w.heap.size w W0 by rw [hW0]; exact (Below.refl _ _).alloc (Nat.le_refl _) _)
  clear hW0
  go_wp2_with fail
  go_loopg [22] L.length (fun k s22 wr => ∃ (i : Nat) (sp : Int → Bool), i + k = L.length ∧ s22 = .int .i64 (i : Int) ∧ Hid (HMap wr w.heap.size i sp) ∧ Hid (Below w.heap.size w wr) ∧ Hid (rightUp T L (fun _ => false) = rightUp T (L.drop i) sp))
  case atStart => exact ⟨0, _, by omega, rfl, HM0, HB0, Lib.hid rfl⟩
  case round =>
    obtain ⟨i, sp, hik, rfl, HM, HB, HU⟩ := hrel
    clear HM0 HB0
    have HIK := Lib.hid hik
    have hi0 : (0 : Int) ≤ (i : Int) := Int.natCast_nonneg _
    have hll2 : (L.length : Int) ≤ 65536 := by have := HLL.out; omega
    by_cases hlt : i < L.length
    · obtain ⟨x, hx⟩ : ∃ x, L[i]? = some x := ⟨_, List.getElem?_eq_getElem hlt⟩
      have HD := Lib.hid (show L.drop i = x :: L.drop (i + 1) by rw [List.drop_eq_getElem_cons hlt]; rw [List.getElem?_eq_getElem hlt] at hx; rw [Option.some.inj hx])
      obtain ⟨b, off, rfl, hcc⟩ := HC.out.resolve_left (fun h => by rw [h] at hx; simp at hx)
      have HXM := Lib.hid (hcc i x hx).2
      have q := (hcc i x hx).1
      obtain ⟨c0, c1, c2, c3, c4, c5, c6, c7, c8, c9, c10, c11, c12, c13⟩ := q.below HB.out q.lt
      have HLT := Lib.hid hlt
      have hlt1 : decide ((i : Int) < (L.length : Int)) = true := decide_eq_true (by omega)
      have hlt2 : (i : Int) < (L.length : Int) := by omega
      clear hx hcc q hlt hik
      obtain ⟨who, beg, mark, fin, kind, owho, hand, port, time, la, ln, lc, way, n, err, ta, tn, tc⟩ := x
      dsimp only at c0 c1 c2 c3 c4 c5 c6 c7 c8 c9 c10 c11 c12 c13 HXM
      go_upto_region 7 with fail
      clear c0 c1 c2 c3 c4 c5 c6 c7 c8 c9 c10 c11 c12 c13
      obtain ⟨w2, hw2⟩ : ∃ w2, w2 = wr.alloc (.cells #[.int .i64 who, .int .i64 beg, .int .i64 mark, .int .i64 fin, .int .i64 kind, .int .i64 owho, .int .i64 hand, .int .i64 port, .int .u64 time, .slice la ln lc, .int .i64 way, .int .i64 n, .int .i64 err, .slice ta tn tc] 66) := ⟨_, rfl⟩
      rw [← hw2]
      have HY := Lib.hid (show w2.heap[wr.heap.size]? = some (.cells #[.int .i64 who, .int .i64 beg, .int .i64 mark, .int .i64 fin, .int .i64 kind, .int .i64 owho, .int .i64 hand, .int .i64 port, .int .u64 time, .slice la ln lc, .int .i64 way, .int .i64 n, .int .i64 err, .slice ta tn tc] 66 (0, 0)) by rw [hw2]; exact heap_alloc_new wr _)
      have HB2 := Lib.hid (show Below wr.heap.size wr w2 by rw [hw2]; exact (Below.refl _ _).alloc (Nat.le_refl _) _)
      have hs2 : wr.heap.size < w2.heap.size := (Array.getElem?_eq_some_iff.1 HY.out).1
      clear hw2
      obtain ⟨bw, hbw⟩ : ∃ bw, bw = whoseB T ⟨who, beg, mark, fin, kind, owho, hand, port, time, la, ln, lc, way, n, err, ta, tn, tc⟩ := ⟨_, rfl⟩
      obtain ⟨bi, hbi⟩ : ∃ bi, bi = withinB ⟨who, beg, mark, fin, kind, owho, hand, port, time, la, ln, lc, way, n, err, ta, tn, tc⟩ := ⟨_, rfl⟩
      obtain ⟨bm, hbm⟩ : ∃ bm, bm = sp mark := ⟨_, rfl⟩
      have HUP := Lib.hid (show rightUp T (⟨who, beg, mark, fin, kind, owho, hand, port, time, la, ln, lc, way, n, err, ta, tn, tc⟩ :: L.drop (i + 1)) sp = (bw && (bi && (!bm && rightUp T (L.drop (i + 1)) (putH sp mark (mark != 0))))) by rw [hbw, hbi, hbm]; rfl)
      have HBW := Lib.hid hbw
      have HBI := Lib.hid hbi
      have HBM := Lib.hid hbm
      clear hbw hbi hbm
      obtain ⟨y0, y1, y2, y3, y4, y5, y6, y7, y8, y9, y10, y11, y12, y13⟩ := cells14 (w := w2) (b := wr.heap.size) ⟨who, beg, mark, fin, kind, owho, hand, port, time, la, ln, lc, way, n, err, ta, tn, tc⟩ HY.out
      dsimp only at y0 y1 y2 y3 y4 y5 y6 y7 y8 y9 y10 y11 y12 y13
      go_wp2_with fail
      go_at_call 55
      refine (whose_any T ⟨who, beg, mark, fin, kind, owho, hand, port, time, la, ln, lc, way, n, err, ta, tn, tc⟩).mono ?_
      rw [← HBW.out]
      rintro e w3 ⟨rfl, hb3⟩
      replace HY := Lib.hid ((hb3.block _ hs2).trans HY.out)
      have HB3 := Lib.hid (HB2.out.trans (hb3.mono (by omega)))
      have hs3 : wr.heap.size < w3.heap.size := (Array.getElem?_eq_some_iff.1 HY.out).1
      clear hb3 hs2 y0 y1 y2 y3 y4 y5 y6 y7 y8 y9 y10 y11 y12 y13
      obtain ⟨y0, y1, y2, y3, y4, y5, y6, y7, y8, y9, y10, y11, y12, y13⟩ := cells14 (w := w3) (b := wr.heap.size) ⟨who, beg, mark, fin, kind, owho, hand, port, time, la, ln, lc, way, n, err, ta, tn, tc⟩ HY.out
      dsimp only at y0 y1 y2 y3 y4 y5 y6 y7 y8 y9 y10 y11 y12 y13
      cases bw with
      | false =>
        go_wp2_with fail
        go_ret
        exact ⟨by rw [HR.out, HU.out, HD.out, HUP.out]; rfl, HB.out.trans (HB3.out.mono HB.out.size)⟩
      | true =>
        go_wp2_with fail
        go_at_call 56
        refine (hsWithin_any ⟨who, beg, mark, fin, kind, owho, hand, port, time, la, ln, lc, way, n, err, ta, tn, tc⟩).mono ?_
        rw [← HBI.out]
        rintro e w4 ⟨rfl, hb4⟩
        replace HY := Lib.hid ((hb4.block _ hs3).trans HY.out)
        have HB4 := Lib.hid (HB3.out.trans (hb4.mono (by omega)))
        clear hb4 hs3 y0 y1 y2 y3 y4 y5 y6 y7 y8 y9 y10 y11 y12 y13
        obtain ⟨y0, y1, y2, y3, y4, y5, y6, y7, y8, y9, y10, y11, y12, y13⟩ := cells14 (w := w4) (b := wr.heap.size) ⟨who, beg, mark, fin, kind, owho, hand, port, time, la, ln, lc, way, n, err, ta, tn, tc⟩ HY.out
        dsimp only at y0 y1 y2 y3 y4 y5 y6 y7 y8 y9 y10 y11 y12 y13
        cases bi with
        | false =>
          go_wp2_with fail
          go_ret
          exact ⟨by rw [HR.out, HU.out, HD.out, HUP.out]; rfl, HB.out.trans (HB4.out.mono HB.out.size)⟩
        | true =>
          have HM4 := Lib.hid (HM.out.below HB4.out)
          have hL := HM4.out.look HXM.out
          rw [← HBM.out] at hL
          cases bm with
          | true =>
            go_wp2_with fail
            go_ret
            exact ⟨by rw [HR.out, HU.out, HD.out, HUP.out]; rfl, HB.out.trans (HB4.out.mono HB.out.size)⟩
          | false =>
            obtain ⟨w5, hU5, hm5, ht5⟩ := HM4.out.store (by omega) HXM.out (mark != 0)
            have HM5 := Lib.hid hm5
            have hsz := HB.out.size
            have HB5 := Lib.hid ((HB.out.trans (HB4.out.mono hsz)).trans (ht5.below (Nat.le_trans hsz HB4.out.size) (Nat.le_refl _)))
            clear hm5 ht5 hsz
            go_wp2_with fail
            go_roundg (gk - 1)
            case measure => have := HIK.out; have := HLT.out; omega
            case rel => exact ⟨i + 1, _, by have := HIK.out; have := HLT.out; omega, by go_num, HM5, HB5, Lib.hid (by rw [HU.out, HD.out, HUP.out]; rfl)⟩
    · have HN := Lib.hid (show L.drop i = [] from List.drop_eq_nil_of_le (by omega))
      have hlt1 : decide ((i : Int) < (L.length : Int)) = false := decide_eq_false (by omega)
      clear hik
      go_wp2_with fail
      go_ret
      exact ⟨by rw [HR.out, HU.out, HN.out]; rfl, HB.out⟩
end Go.Proofs.YtdllgeanmlmmfaaGreatDoor.Hs
