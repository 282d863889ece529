/-
  PACKAGE marchlandlaw15: HistTimes, but for told.
  PACKAGE marchlandref05: Fix: a graph that may be, out of any.
-/
import Derived.Test.YtdllgeanmlmmfaaGreatDoorHsRight
import Derived.Laws.Build
import Derived.Laws.NewBlocks
import Derived.Deep.DeepCutAuto
import Derived.Test.YtdllgeanmlmmfaaGreatDoorGPaths
import Derived.Test.YtdllgeanmlmmfaaGreatDoorGTo
import Derived.Deep.RegionHeld3
import Derived.Deep.RegionHeldLaw
import Derived.BigRegion
import Derived.Maps.AppendAt
namespace Go.Proofs.YtdllgeanmlmmfaaGreatDoor.Hs
open Go.RowKit
set_option linter.unusedVariables false
set_option linter.unusedSimpArgs false

def tmE (b m e : Int) : En := ⟨0, b, m, e, 7, 0, 0, 0, 0, none, 0, 0, 0, 0, 0, none, 0, 0⟩
def timesB (b m e : Int) : Bool := withinB (tmE b m e)
theorem hsRight_one (b m e : Int) : rightB 1 [tmE b m e] = timesB b m e := by
  simp [rightB, rightUp, whoseB, tmE, timesB]
theorem hsRight_nil (T : Int) : rightB T [] = (decide (1 ≤ T) && decide (T ≤ 8)) := by simp [rightB, rightUp]
theorem hsRdE_nil (w : World) : RdE w (.slice none 0 0) [] := ⟨none, 0, rfl, by simp, .inl rfl⟩
theorem hsRdE_one {w : World} {g : Nat} {T : TypeId} {x : En} (hm : I64h x.mark) (h : w.heap[g]? = some (.cells #[.int .i64 x.who, .int .i64 x.beg, .int .i64 x.mark, .int .i64 x.fin, .int .i64 x.kind, .int .i64 x.owho, .int .i64 x.hand, .int .i64 x.port, .int .u64 x.time, .slice x.la x.ln x.lc, .int .i64 x.way, .int .i64 x.n, .int .i64 x.err, .slice x.ta x.tn x.tc] T (0, 0))) : RdE w (.slice (some ⟨g, 0, none⟩) 1 1) [x] := by
  refine ⟨_, 1, rfl, by simp, .inr ⟨g, 0, rfl, fun i y hy => ?_⟩⟩
  cases i with
  | succ k => simp at hy
  | zero => simp at hy; subst hy; exact ⟨by simpa using cells14 x h, hm⟩
set_option maxRecDepth 1000000 in
set_option maxHeartbeats 8000000 in
theorem hsTimes_any (hT : ∀ W : World, Calls Tryz.prog 20 #[] W fun e w' => e = .returned (.bool true) ∧ Below W.heap.size W w') {w : World} (b m e : Int) (hm : I64h m) :
    Calls Tryz.prog 4 #[.int .i64 b, .int .i64 m, .int .i64 e] w fun en w' => en = .returned (.bool true) ∧ Below w.heap.size w w' := by
  have HT := Lib.hid hT
  have HM := Lib.hid hm
  obtain ⟨w0, hw0⟩ : ∃ w0, w0 = w.alloc (.cells #[.int .i64 0, .int .i64 b, .int .i64 m, .int .i64 e, .int .i64 7, .int .i64 0, .int .i64 0, .int .i64 0, .int .u64 0, .slice none 0 0, .int .i64 0, .int .i64 0, .int .i64 0, .slice none 0 0] 66) := ⟨_, rfl⟩
  have HX := Lib.hid (show w0.heap[w.heap.size]? = some (.cells #[.int .i64 0, .int .i64 b, .int .i64 m, .int .i64 e, .int .i64 7, .int .i64 0, .int .i64 0, .int .i64 0, .int .u64 0, .slice none 0 0, .int .i64 0, .int .i64 0, .int .i64 0, .slice none 0 0] 66 (0, 0)) by rw [hw0]; exact heap_alloc_new w _)
  have HB := Lib.hid (show Below w.heap.size w w0 by rw [hw0]; exact (Below.refl _ _).alloc (Nat.le_refl _) _)
  have hs0 : w.heap.size < w0.heap.size := (Array.getElem?_eq_some_iff.1 HX.out).1
  clear hT hm
  go_enter Tryz.func4, Tryz.ntmps4
  go_upto_region 2 with fail
  rw [← hw0]
  clear hw0
  go_cut [8] from 14 to 38 (fun s8 wx => s8 = .bool (timesB b m e) ∧ wx = w0)
  case first =>
    by_cases h1 : (0 : Int) ≤ b
    · have d1 : decide ((0 : Int) ≤ b) = true := decide_eq_true h1
      by_cases h2 : m = 0
      · have d2 := beqT h2
        have d2n := bneF h2
        by_cases h3 : e = 0
        · have d3 := beqT h3
          have d3n := bneF h3
          have HW := Lib.hid (show timesB b m e = true from by simp [timesB, withinB, tmE, h1, h2, h3])
          clear h1 h2 h3
          go_wp2_with fail
          go_meet
          exact ⟨by rw [HW.out], rfl⟩
        · have d3 := beqF h3
          have d3n := bneT h3
          have HW := Lib.hid (show timesB b m e = false from by simp [timesB, withinB, tmE, h1, h2, h3])
          clear h1 h2 h3
          go_wp2_with fail
          go_meet
          exact ⟨by rw [HW.out], rfl⟩
      · have d2 := beqF h2
        have d2n := bneT h2
        by_cases h4 : b < m
        · have d4 : decide (b < m) = true := decide_eq_true h4
          by_cases h5 : e = 0
          · have d5 := beqT h5
            have d5n := bneF h5
            have HW := Lib.hid (show timesB b m e = true from by simp [timesB, withinB, tmE, h1, h2, h4, h5])
            clear h1 h2 h4 h5
            go_wp2_with fail
            go_meet
            exact ⟨by rw [HW.out], rfl⟩
          · have d5 := beqF h5
            have d5n := bneT h5
            by_cases h6 : m ≤ e
            · have d6 : decide (m ≤ e) = true := decide_eq_true h6
              have HW := Lib.hid (show timesB b m e = true from by simp [timesB, withinB, tmE, h1, h2, h4, h5, h6])
              clear h1 h2 h4 h5 h6
              go_wp2_with fail
              go_meet
              exact ⟨by rw [HW.out], rfl⟩
            · have d6 : decide (m ≤ e) = false := decide_eq_false h6
              have HW := Lib.hid (show timesB b m e = false from by simp [timesB, withinB, tmE, h1, h2, h4, h5, h6])
              clear h1 h2 h4 h5 h6
              go_wp2_with fail
              go_meet
              exact ⟨by rw [HW.out], rfl⟩
        · have d4 : decide (b < m) = false := decide_eq_false h4
          have HW := Lib.hid (show timesB b m e = false from by simp [timesB, withinB, tmE, h1, h2, h4])
          clear h1 h2 h4
          go_wp2_with fail
          go_meet
          exact ⟨by rw [HW.out], rfl⟩
    · have d1 : decide ((0 : Int) ≤ b) = false := decide_eq_false h1
      have HW := Lib.hid (show timesB b m e = false from by simp [timesB, withinB, tmE, h1])
      clear h1
      go_wp2_with fail
      go_meet
      exact ⟨by rw [HW.out], rfl⟩
  case rest =>
    obtain ⟨rfl, rfl⟩ := hcut
    refine ‹∀ (a : Act) (w : World), Code.wp _ _ _ a w → _› _ _ ?_
    go_wp2_with fail
    go_at_call 20
    refine (HT.out _).mono ?_
    rintro en w1 ⟨rfl, hb⟩
    have hx1 := (hb.block _ hs0).trans HX.out
    have HB1 := Lib.hid (HB.out.trans (hb.mono HB.out.size))
    have hs1 : w.heap.size < w1.heap.size := (Array.getElem?_eq_some_iff.1 hx1).1
    obtain ⟨y0, y1, y2, y3, y4, y5, y6, y7, y8, y9, y10, y11, y12, y13⟩ := cells14 (w := w1) (b := w.heap.size) (tmE b m e) hx1
    dsimp only [tmE] at y0 y1 y2 y3 y4 y5 y6 y7 y8 y9 y10 y11 y12 y13
    clear hb hs0
    go_wp2_with fail
    go_at_call 21
    obtain ⟨w2, hw2⟩ : ∃ w2, w2 = w1.alloc (.cells #[.int .i64 0, .int .i64 b, .int .i64 m, .int .i64 e, .int .i64 7, .int .i64 0, .int .i64 0, .int .i64 0, .int .u64 0, .slice none 0 0, .int .i64 0, .int .i64 0, .int .i64 0, .slice none 0 0] 66) := ⟨_, rfl⟩
    rw [← hw2]
    have hx2 : w2.heap[w1.heap.size]? = some (.cells #[.int .i64 0, .int .i64 b, .int .i64 m, .int .i64 e, .int .i64 7, .int .i64 0, .int .i64 0, .int .i64 0, .int .u64 0, .slice none 0 0, .int .i64 0, .int .i64 0, .int .i64 0, .slice none 0 0] 66 (0, 0)) := by rw [hw2]; exact heap_alloc_new w1 _
    have HB2 := Lib.hid (show Below w.heap.size w w2 by rw [hw2]; exact HB1.out.alloc (by omega) _)
    clear hw2 y0 y1 y2 y3 y4 y5 y6 y7 y8 y9 y10 y11 y12 y13
    refine (hsRight_any 1 (hsRdE_one (x := tmE b m e) HM.out hx2)).mono ?_
    rw [hsRight_one]
    rintro en w3 ⟨rfl, hb⟩
    have HB3 := Lib.hid (HB2.out.trans (hb.mono HB2.out.size))
    have hWW : (timesB b m e == timesB b m e) = true := by simp
    clear hb hx2
    go_wp2_with fail
    go_at_call 21
    refine (hsRight_any 0 (hsRdE_nil _)).mono ?_
    rw [show rightB 0 [] = false from by rw [hsRight_nil]; decide]
    rintro en w4 ⟨rfl, hb⟩
    have HB4 := Lib.hid (HB3.out.trans (hb.mono HB3.out.size))
    clear hb
    go_wp2_with fail
    go_at_call 21
    refine (hsRight_any 9 (hsRdE_nil _)).mono ?_
    rw [show rightB 9 [] = false from by rw [hsRight_nil]; decide]
    rintro en w5 ⟨rfl, hb⟩
    have HB5 := Lib.hid (HB4.out.trans (hb.mono HB4.out.size))
    clear hb
    go_wp2_with fail
    go_at_call 21
    refine (hsRight_any 8 (hsRdE_nil _)).mono ?_
    rw [show rightB 8 [] = true from by rw [hsRight_nil]; decide]
    rintro en w6 ⟨rfl, hb⟩
    have HB6 := Lib.hid (HB5.out.trans (hb.mono HB5.out.size))
    clear hb
    go_wp2_with fail
    go_ret
    exact ⟨rfl, HB6.out⟩
end Go.Proofs.YtdllgeanmlmmfaaGreatDoor.Hs
namespace Go.Proofs.YtdllgeanmlmmfaaGreatDoor.Gr
open Go.RowKit Go.Deep
set_option linter.unusedVariables false
set_option linter.unusedSimpArgs false

/-! plain -/
theorem cost_zero {E : List Ed} (ha : ∀ e ∈ E, 0 ≤ e.a) : ∀ {es : List Ed} {i j : Int}, Chn E i es j → 0 ≤ cost es
  | [], _, _, _ => Int.le_refl _
  | e :: r, _, _, h => by
    have h1 := ha e h.1
    have h2 := cost_zero ha h.2.2
    unfold cost
    omega
theorem chn_rises {E : List Ed} (ha : ∀ e ∈ E, 0 ≤ e.a) (h : ∀ e ∈ E, e.f < e.t ∨ 1 ≤ e.a) : ∀ {es : List Ed} {i j : Int}, Chn E i es j → cost es = 0 → i + es.length ≤ j
  | [], _, _, hc, _ => by obtain rfl := hc; simp
  | e :: r, i, j, hc, h0 => by
    have h1 := ha e hc.1
    have h2 := cost_zero ha hc.2.2
    unfold cost at h0
    have h3 := chn_rises ha h hc.2.2 (by omega)
    have h4 := hc.2.1
    rcases h e hc.1 with h5 | h5
    · rw [List.length_cons]; push_cast; omega
    · omega
theorem no_round {E : List Ed} (ha : ∀ e ∈ E, 0 ≤ e.a) (h : ∀ e ∈ E, e.f < e.t ∨ 1 ≤ e.a) (p : Int) : ¬ Round E p := by
  rintro ⟨es, hw, h0⟩
  have h1 := chn_rises ha h hw.1 h0
  rcases hw.2 with e | e
  · exact absurd e (by decide)
  · have : 0 < es.length := List.length_pos_iff.2 e
    omega
theorem chkV_ok {n : Nat} {E : List Ed} {I : List Int} (n0 : 1 ≤ n) (n1 : n ≤ 64) (hl : E.length ≤ 256) (hf : Fits E n) (i0 : I ≠ []) (i1 : I.length ≤ 8) (hi : InOk n I I.length) (hr : ∀ p, ¬ Round E p) : chkV (n : Int) E I = ([], 0) := by
  unfold chkV
  rw [if_neg (by omega), if_neg (by omega), if_neg (by rw [edgesV_ok (fun y hy => ⟨⟨(hf y hy).1, (hf y hy).2.1⟩, ⟨(hf y hy).2.2.1, (hf y hy).2.2.2.1⟩⟩)]; simp), if_neg (by have : I.length ≠ 0 := fun e => i0 (List.length_eq_zero_iff.1 e); omega), if_neg (by rw [inputsV_ok hi]; simp), Int.toNat_natCast, cycO_eq (.inr ⟨rfl, fun q _ => hr q⟩)]
  rfl
theorem u64_range (n : Int) : 0 ≤ IntKind.u64.wrap n ∧ IntKind.u64.wrap n ≤ 18446744073709551615 := by
  unfold IntKind.wrap
  simp [IntKind.bits, IntKind.signed]
  omega
theorem i64_id {n : Int} (h0 : -9223372036854775808 ≤ n) (h1 : n ≤ 9223372036854775807) : IntKind.i64.wrap n = n := by
  unfold IntKind.wrap
  simp [IntKind.bits, IntKind.signed]
  omega
theorem u64_id {n : Int} (h0 : 0 ≤ n) (h1 : n ≤ 18446744073709551615) : IntKind.u64.wrap n = n := by
  unfold IntKind.wrap
  simp [IntKind.bits, IntKind.signed]
  omega
def fixM (m x : Int) : Int := IntKind.i64.wrap ((IntKind.u64.wrap x).tmod (IntKind.u64.wrap m))
theorem fixM_range {m x : Int} (h0 : 1 ≤ m) (h1 : m ≤ 64) : 0 ≤ fixM m x ∧ fixM m x < m := by
  unfold fixM
  rw [u64_id (n := m) (by omega) (by omega)]
  have h2 := Int.tmod_nonneg m (u64_range x).1
  have h3 := Int.tmod_lt_of_pos (IntKind.u64.wrap x) (show 0 < m by omega)
  rw [i64_id (by omega) (by omega)]
  exact ⟨h2, h3⟩
def fixE (m : Int) (e : Ed) : Ed := ⟨fixM m e.f, fixM m e.t, if fixM m e.t ≤ fixM m e.f ∧ e.a = 0 then 1 else e.a⟩
def fixEs (m : Int) (E : List Ed) : List Ed := (E.take 12).map (fixE m)
theorem fixEs_fits {m : Nat} {E : List Ed} (h0 : 1 ≤ m) (h1 : m ≤ 64) (hw : ∀ x ∈ E, x.Wf) : Fits (fixEs m E) m := by
  intro e he
  obtain ⟨y, hy, rfl⟩ := List.mem_map.1 he
  have hyw := hw y (List.mem_of_mem_take hy)
  have a1 := fixM_range (m := m) (x := y.f) (by omega) (by omega)
  have a2 := fixM_range (m := m) (x := y.t) (by omega) (by omega)
  refine ⟨a1.1, a1.2, a2.1, a2.2, ?_, ?_⟩ <;> (unfold fixE; simp only; split <;> first | omega | exact hyw.a0 | exact hyw.a1)
theorem fixEs_wf {m : Nat} {E : List Ed} (h0 : 1 ≤ m) (h1 : m ≤ 64) (hw : ∀ x ∈ E, x.Wf) : ∀ x ∈ fixEs m E, x.Wf := by
  intro e he
  have h := fixEs_fits h0 h1 hw e he
  exact ⟨by omega, by omega, by omega, by omega, h.2.2.2.2.1, h.2.2.2.2.2⟩
theorem fixEs_rise {m : Nat} {E : List Ed} (hw : ∀ x ∈ E, x.Wf) : ∀ e ∈ fixEs m E, e.f < e.t ∨ 1 ≤ e.a := by
  intro e he
  obtain ⟨y, hy, rfl⟩ := List.mem_map.1 he
  have hyw := (hw y (List.mem_of_mem_take hy)).a0
  unfold fixE
  simp only
  split <;> omega
def fixN (n : Int) : Int := 1 + IntKind.i64.wrap ((IntKind.u64.wrap n).tmod 6)
theorem fixN_range (n : Int) : 1 ≤ fixN n ∧ fixN n ≤ 6 := by
  unfold fixN
  have h2 := Int.tmod_nonneg 6 (u64_range n).1
  have h3 := Int.tmod_lt_of_pos (IntKind.u64.wrap n) (show (0 : Int) < 6 by decide)
  rw [i64_id (by omega) (by omega)]
  omega
theorem fixN_walk (n : Int) : wrap64 (1 + wrap64 ((IntKind.u64.wrap n).tmod 6)) = fixN n := by
  have h2 := Int.tmod_nonneg 6 (u64_range n).1
  have h3 := Int.tmod_lt_of_pos (IntKind.u64.wrap n) (show (0 : Int) < 6 by decide)
  have e1 : IntKind.i64.wrap ((IntKind.u64.wrap n).tmod 6) = (IntKind.u64.wrap n).tmod 6 := i64_id (by omega) (by omega)
  have e2 : wrap64 ((IntKind.u64.wrap n).tmod 6) = (IntKind.u64.wrap n).tmod 6 := by unfold wrap64; omega
  unfold fixN
  rw [e2, e1]
  unfold wrap64
  omega
theorem Own.grown {w w' : World} {base : Nat} {T : TypeId} {v : Value} {l : List Ed} {row : Option Nat} (h : Own w base T v l) (hg : w.grownBy w' row) (hne : v.ownBlock = none ∨ v.ownBlock ≠ row) : Own w' base T v l := by
  refine ⟨h.1, ?_⟩
  rcases h.2 with h2 | ⟨g, cap, cur, rfl, hb, hk, rest⟩
  · exact .inl h2
  · refine .inr ⟨g, cap, cur, rfl, hb, (hg.block g (Array.getElem?_eq_some_iff.1 hk).1 ?_).trans hk, rest⟩
    rcases hne with h | h
    · simp [Value.ownBlock] at h
    · exact h
theorem own1 {w : World} {base : Nat} {T : TypeId} (a : Int) (hb : base ≤ w.heap.size) : OwnI (w.alloc (.cells #[.int .i64 a] T)) base T (.slice (some ⟨w.heap.size, 0, none⟩) 1 1) [a] :=
  ⟨rfl, .inr ⟨w.heap.size, 1, #[.int .i64 a], rfl, hb, heap_alloc_new w _, Nat.le_refl _, by decide, rfl, rfl⟩⟩
theorem InOk.snoc {n : Int} {l : List Int} {p : Int} (h : InOk n l l.length) (hp : inP n p) (hm : p ∉ l) : InOk n (l ++ [p]) (l ++ [p]).length := by
  intro j q hj hq
  rw [List.length_append] at hj
  simp only [List.length_cons, List.length_nil] at hj
  by_cases e : j < l.length
  · rw [List.getElem?_append_left e] at hq
    rw [List.take_append_of_le_length (by omega)]
    exact h j q e hq
  · obtain rfl : j = l.length := by omega
    rw [List.getElem?_append_right (Nat.le_refl _), Nat.sub_self] at hq
    obtain rfl := Option.some.inj hq
    rw [List.take_left]
    exact ⟨hp, hm⟩
theorem OwnI.cells {w : World} {base : Nat} {T : TypeId} {v : Value} {l : List Int} (h : OwnI w base T v l) (hne : l ≠ []) : ∃ g cap, v = .slice (some ⟨g, 0, none⟩) l.length cap ∧ ∀ j x, l[j]? = some x → w.cell? ⟨g, j, none⟩ = some (.int .i64 x) := by
  have h0 := h
  rcases h.2 with ⟨_, hn⟩ | ⟨g, cap, cur, rfl, hb, hg, hc, hm, _⟩
  · exact absurd (List.length_eq_zero_iff.1 hn) hne
  · refine ⟨g, cap, rfl, fun i x hx => ?_⟩
    have := World.ownsRow.cells h0 (g := g) rfl i _ (intsL_at hx)
    rw [show ((⟨g, 0, none⟩ : Addr).add i) = ⟨g, i, none⟩ by unfold Addr.add; split <;> simp_all] at this
    exact this
theorem intsL_snoc (l : List Int) (x : Int) : intsL (l ++ [x]) = intsL l ++ [.int .i64 x] := by unfold intsL; simp
def Mk (p : Prop) : Prop := p
theorem mk_of {p : Prop} (h : Mk p) : p := h
theorem infoRed : (Tryz.prog.info? 127).map (fun i => (i.zero, i.size, i.bytes)) = some (some (.agg #[.int .i64 0, .int .i64 0, .int .u64 0]), 3, 24) := by kernel_rfl
/-- What the walk works on: the box of the argument, the result's cells. -/
structure FixW (w w2 : World) (n : Int) (ao aoi : Option Addr) (le ce li ci : Nat) : Prop where
  sz : w2.heap.size = w.heap.size + 2
  bel : Below w.heap.size w w2
  b0 : w2.cell? ⟨w.heap.size, 0, none⟩ = some (.int .i64 n)
  b1 : w2.cell? ⟨w.heap.size, 1, none⟩ = some (.slice ao le ce)
  b2 : w2.cell? ⟨w.heap.size, 2, none⟩ = some (.slice aoi li ci)
  res : w2.heap[w.heap.size + 1]? = some (.cells #[.int .i64 0, .slice none 0 0, .slice none 0 0] 25 (0, 0))
def FixPost (w : World) (e : Ending) (w' : World) : Prop := ∃ (m : Nat) (ve' vi' : Value) (E' : List Ed) (I' : List Int), m ≤ 6 ∧ E'.length ≤ 12 ∧ e = .returned (.agg #[.int .i64 (m : Int), ve', vi']) ∧ GMemP w' ve' vi' E' I' ∧ Own w' (w.heap.size + 3) 127 ve' E' ∧ OwnI w' (w.heap.size + 3) 3 vi' I' ∧ GOk m E' I' ∧ Below w.heap.size w w'
end Go.Proofs.YtdllgeanmlmmfaaGreatDoor.Gr
