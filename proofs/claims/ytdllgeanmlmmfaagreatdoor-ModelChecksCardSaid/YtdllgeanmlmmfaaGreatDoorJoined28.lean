/-
  marchlandlaw14: told: its states, step by step.
  PACKAGE model: New of a Plan that is wrong.
-/
import Derived.Test.YtdllgeanmlmmfaaGreatDoorMdDo
import Derived.Test.YtdllgeanmlmmfaaGreatDoorJoined22
import Derived.Test.YtdllgeanmlmmfaaGreatDoorJoined26
namespace Go.Proofs.YtdllgeanmlmmfaaGreatDoor.Md
open Go.RowKit Gr Cl
set_option linter.unusedVariables false
set_option linter.unusedSimpArgs false
def CH : List Batch.Ch := [⟨0, 0, -1⟩, ⟨0, 5, 1⟩]
def H5 : List Ed := [⟨0, 0, 5⟩]
def s0M (M : Nat → Nat → Int) : Ms := newM 1 1 1 [0] M
def s1M (M : Nat → Nat → Int) : Ms := { s0M M with th := [⟨H5, [], [CH], []⟩] }
def s2M (M : Nat → Nat → Int) : Ms := { s0M M with th := [⟨H5, [], [], [CH]⟩] }
def s4M (M : Nat → Nat → Int) : Ms := { s0M M with th := [⟨H5, [], [], []⟩], staged := CH }
def s5M (M : Nat → Nat → Int) : Ms := { s0M M with th := [⟨H5, [], [], []⟩], folded := [⟨0, 5, 1⟩], shown := frontV [⟨0, 5, 1⟩] M 1 }
theorem s0_th (M : Nat → Nat → Int) : (s0M M).th = [⟨[⟨0, 0, 0⟩], [], [], []⟩] := by kernel_rfl
theorem s0_fold (M : Nat → Nat → Int) : (s0M M).folded = [⟨0, 0, 1⟩] := by kernel_rfl
theorem v1 (M : Nat → Nat → Int) : chV (s0M M) 0 ⟨[⟨0, 0, 0⟩], [], [], []⟩ ⟨H5, [], CH, 0⟩ 0 = ((0, 0), s1M M) := by kernel_rfl
theorem v2 (M : Nat → Nat → Int) : putV (s1M M) 0 ⟨H5, [], [CH], []⟩ 0 = ((1, 0), s2M M) := by kernel_rfl
theorem v3 (M : Nat → Nat → Int) : drainV (s2M M) = ((0, 0), s2M M) := by kernel_rfl
theorem v4 (M : Nat → Nat → Int) : popV (s2M M) 0 ⟨H5, [], [], [CH]⟩ = ((1, 0), s4M M) := by kernel_rfl
theorem v5 (M : Nat → Nat → Int) : showV (s4M M) = ((0, 0, [frontV [⟨0, 5, 1⟩] M 1 0]), s5M M) := by kernel_rfl
theorem m00 {M : Nat → Nat → Int} (h : LeastM [] true 1 M) : M 0 0 = 0 := (h 0 0 (by decide) (by decide)).one (least_here (E := []) (n := 1) (fun e he => by simp at he) 0)
theorem f5 {M : Nat → Nat → Int} (h : LeastM [] true 1 M) : frontV [⟨0, 5, 1⟩] M 1 0 = 5 := by
  have e : frontV [⟨0, 5, 1⟩] M 1 0 = min 18446744073709551615 (plusN 5 (M 0 0)) := by kernel_rfl
  rw [e, m00 h]
  decide
/-- A Model beside what was there ahead of it. -/
def T14 (w0 w : World) (b : Nat) (s : Ms) : Prop := ∃ τ c tv, MdAt τ w b c tv s ∧ (∀ k, k < w0.heap.size → τ k = 0) ∧ Below w0.heap.size w0 w
section
variable {w0 w w' : World} {b : Nat} {s s' : Ms} {M : Nat → Nat → Int}
theorem T14.below (h : T14 w0 w b s) (hb : Below w.heap.size w w') : T14 w0 w' b s := by
  obtain ⟨τ, c, tv, h1, h2, h3⟩ := h
  exact ⟨τ, c, tv, h1.below hb, h2, h3.trans (hb.mono h3.size)⟩
theorem T14.out (h : T14 w0 w b s) : Below w0.heap.size w0 w := by obtain ⟨_, _, _, _, _, h⟩ := h; exact h
theorem T14.step {τ : Nat → Nat} (h2 : ∀ k, k < w0.heap.size → τ k = 0) (h3 : Below w0.heap.size w0 w) (hp : MdP τ w b s' w') : T14 w0 w' b s' := by
  obtain ⟨τ', ⟨c, tv, hm⟩, st, _⟩ := hp
  exact ⟨τ', c, tv, hm, fun k hk => (st.ext k (Nat.lt_of_lt_of_le hk h3.size)).trans (h2 k hk), h3.trans (st.low h2 h3.size)⟩
theorem T14.typ (h : T14 w0 w b s) (hE : Fault.ErrType w0) : Fault.ErrType w := (h.out.cell (p := ⟨_, 0, none⟩) (Lib.lt_of_cell hE)).trans hE
def DoP (w0 : World) (b : Nat) (n er : Int) (s' : Ms) (e : Ending) (w' : World) : Prop := ∃ a k, e = .returned (.agg #[.int .i64 n, .int .i64 er, .slice a 0 k]) ∧ T14 w0 w' b s'
theorem doP_of {τ : Nat → Nat} {n er : Int} {e : Ending} (h2 : ∀ k, k < w0.heap.size → τ k = 0) (h3 : Below w0.heap.size w0 w) (h : AnT τ w b ((n, er, []), s') e w') : DoP w0 b n er s' e w' := by
  obtain ⟨a, k, he, _, hp⟩ := h
  exact ⟨a, k, he, T14.step h2 h3 hp⟩
theorem rise1 (x : Ed) : Rise [x] := by unfold Rise; simp
theorem do1 (h : T14 w0 w b (s0M M)) (hE : Fault.ErrType w0) : Calls Tryz.prog 11 #[.pointer (some ⟨b, 0, none⟩), .agg #[.int .i64 1, .int .i64 0, .int .i64 0, .int .i64 0, .int .u64 5, .slice none 0 0, .int .i64 0]] w (DoP w0 b 0 0 (s1M M)) := by
  have hET := h.typ hE
  obtain ⟨τ, c, tv, h1, h2, h3⟩ := h
  have hx : (s0M M).th[0]? = some ⟨[⟨0, 0, 0⟩], [], [], []⟩ := by rw [s0_th]; rfl
  refine (mdDo1 h1 0 0 0 5 none 0 0 0 ⟨Int.le_refl _, by rw [s0_th]; decide⟩ rfl hET ((0, 0), s1M M) fun W hW hTW => ?_).mono fun e w' he => doP_of h2 h3 he
  have := mdAdv_any hW hx rfl hTW (by decide) 0 0 5 none 0 0 0 (R := ⟨H5, [], CH, 0⟩) (.inr ⟨rfl, fun V vh vb ho => (advance_ok (x := ⟨0, 0, 0⟩) 0 5 ho (rise1 _) (by decide) (by decide) (by kernel_rfl) (by kernel_rfl) (by decide) (by decide) (by decide) (by decide)).mono ?_⟩) ?_ (by simp) ?_ (by decide)
  · rw [v1] at this
    exact this
  · rintro e w' ⟨vh', vb', v, rfl, a1, a2, a3, a4⟩
    exact cno_of (R := ⟨H5, [], CH, 0⟩) a1 a2 a3 a4
  · intro x hx
    simp [H5] at hx
    subst hx
    exact ⟨by decide, by decide, by decide, by decide, by decide, by decide⟩
  · intro x hx
    simp [CH] at hx
    rcases hx with rfl | rfl <;> exact ⟨by decide, by decide, by decide, by decide, by decide, by decide⟩
theorem ch_right : Batch.RightP CH := ⟨fun x hx => by simp [CH] at hx; rcases hx with rfl | rfl <;> exact ⟨by decide, by decide⟩, by simp [CH, Batch.Lt]⟩
theorem f0_right : Batch.RightP [⟨0, 0, 1⟩] := ⟨fun x hx => by simp at hx; subst hx; exact ⟨by decide, by decide⟩, by simp⟩
theorem do2 (h : T14 w0 w b (s1M M)) : Calls Tryz.prog 11 #[.pointer (some ⟨b, 0, none⟩), .agg #[.int .i64 8, .int .i64 0, .int .i64 0, .int .i64 0, .int .u64 0, .slice none 0 0, .int .i64 0]] w (DoP w0 b 1 0 (s2M M)) := by
  obtain ⟨τ, c, tv, h1, h2, h3⟩ := h
  have := mdDo8 h1 0 0 0 0 none 0 0 0 (x := ⟨H5, [], [CH], []⟩) rfl List.Pairwise.nil (fun q hq => by simp at hq; subst hq; exact ⟨ch_right.sorted, by decide⟩) (show (0 : Nat) ≤ 90000 by decide) (by decide)
  rw [v2] at this
  exact this.mono fun e w' he => doP_of h2 h3 he
theorem do3 (h : T14 w0 w b (s2M M)) : Calls Tryz.prog 11 #[.pointer (some ⟨b, 0, none⟩), .agg #[.int .i64 9, .int .i64 0, .int .i64 0, .int .i64 0, .int .u64 0, .slice none 0 0, .int .i64 0]] w (DoP w0 b 0 0 (s2M M)) := by
  obtain ⟨τ, c, tv, h1, h2, h3⟩ := h
  have := mdDo9 h1 0 0 0 0 none 0 0 0 List.Pairwise.nil List.Pairwise.nil (show (0 : Nat) + 0 ≤ 100000 by decide)
  rw [v3] at this
  exact this.mono fun e w' he => doP_of h2 h3 he
theorem do4 (h : T14 w0 w b (s2M M)) : Calls Tryz.prog 11 #[.pointer (some ⟨b, 0, none⟩), .agg #[.int .i64 10, .int .i64 0, .int .i64 0, .int .i64 0, .int .u64 0, .slice none 0 0, .int .i64 0]] w (DoP w0 b 1 0 (s4M M)) := by
  obtain ⟨τ, c, tv, h1, h2, h3⟩ := h
  have := mdDo10 h1 0 0 0 0 none 0 0 0 (x := ⟨H5, [], [], [CH]⟩) rfl List.Pairwise.nil (fun q hq => by simp at hq; subst hq; exact ⟨ch_right.sorted, by decide⟩) (show (0 : Nat) ≤ 90000 by decide)
  rw [v4] at this
  exact this.mono fun e w' he => doP_of h2 h3 he
theorem do5 (h : T14 w0 w b (s4M M)) (hM : LeastM [] true 1 M) : Calls Tryz.prog 11 #[.pointer (some ⟨b, 0, none⟩), .agg #[.int .i64 11, .int .i64 0, .int .i64 0, .int .i64 0, .int .u64 0, .slice none 0 0, .int .i64 0]] w fun e w' => ∃ a k, e = .returned (.agg #[.int .i64 0, .int .i64 0, .slice a 1 k]) ∧ TmR w' w.heap.size (.slice a 1 k) [5] ∧ T14 w0 w' b (s5M M) := by
  obtain ⟨τ, c, tv, h1, h2, h3⟩ := h
  have hap : Batch.applyR (s4M M).folded (s4M M).staged = [⟨0, 5, 1⟩] := by kernel_rfl
  have := mdDo11 h1 0 0 0 0 none 0 0 0 (showV (s4M M)) fun W hW => mdShow_any hW (show Batch.RightP [⟨0, 0, 1⟩] from f0_right) (show Batch.RightP CH from ch_right) (show (1 : Nat) + 2 ≤ 100000 by decide) (fun x hx => by rw [hap] at hx; simp at hx; subst hx; exact ⟨by decide, by decide, by decide, by decide, by decide, by decide⟩) (by rw [hap]; simp) (by rw [hap]; decide) (fun i j hi hj => (hM i j hi hj).1.1) (show (1 : Nat) ≤ 1 by decide) (show (1 : Nat) ≤ 64 by decide)
  refine this.mono ?_
  rintro e w' ⟨a, k, rfl, ht, hp⟩
  rw [v5, f5 hM] at ht hp ⊢
  refine ⟨a, k, rfl, ht.resolve_left (fun h => by simp at h), T14.step h2 h3 hp⟩
theorem do6 (h : T14 w0 w b (s5M M)) (hM : LeastM [] true 1 M) (t : Int) (n : Int) (ht : (if t < 5 then (1 : Int) else 0) = n) : Calls Tryz.prog 11 #[.pointer (some ⟨b, 0, none⟩), .agg #[.int .i64 5, .int .i64 0, .int .i64 0, .int .i64 0, .int .u64 t, .slice none 0 0, .int .i64 0]] w (DoP w0 b n 0 (s5M M)) := by
  obtain ⟨τ, c, tv, h1, h2, h3⟩ := h
  have := mdDo5 h1 0 0 0 t none 0 0 0 ⟨Int.le_refl _, show (0 : Int) < ((1 : Nat) : Int) by decide⟩ (show (1 : Nat) ≤ 64 by decide)
  have e : askA (s5M M) 5 0 t = (n, 0) := by
    unfold askA
    rw [if_neg (by show ¬ ((0 : Int) < 0 ∨ ((1 : Nat) : Int) ≤ 0); decide), if_neg (fun h => absurd h.1 (by decide)), show (s5M M).shown (0 : Int).toNat = 5 from f5 hM, ← ht]
    split <;> rfl
  rw [e] at this
  exact this.mono fun e w' he => doP_of h2 h3 he
theorem do7 (h : T14 w0 w b (s5M M)) (hE : Fault.ErrType w0) : Calls Tryz.prog 11 #[.pointer (some ⟨b, 0, none⟩), .agg #[.int .i64 0, .int .i64 0, .int .i64 9, .int .i64 0, .int .u64 0, .slice none 0 0, .int .i64 0]] w (DoP w0 b 0 7 (s5M M)) := by
  have hET := h.typ hE
  obtain ⟨τ, c, tv, h1, h2, h3⟩ := h
  refine (mdDo0 h1 0 9 0 0 none 0 0 0 ⟨Int.le_refl _, show (0 : Int) < ((1 : Nat) : Int) by decide⟩ rfl hET ((0, 7), s5M M) fun W hW hTW => ?_).mono fun e w' he => doP_of h2 h3 he
  exact mdOpS_any hW (x := ⟨H5, [], [], []⟩) rfl rfl hTW 9 0 0 none 0 0 0 (rise1 _) (by decide) (by kernel_rfl)
end
end Go.Proofs.YtdllgeanmlmmfaaGreatDoor.Md
namespace Go.Proofs.YtdllgeanmlmmfaaGreatDoor.Md
open Go.RowKit Gr Fault
set_option linter.unusedVariables false
set_option linter.unusedSimpArgs false

set_option maxRecDepth 1000000 in
set_option maxHeartbeats 16000000 in
theorem mdNew_bad {w : World} {ve vi : Value} {E : List Ed} {I : List Int} (n T R S K : Int) (hv : Rd w ve E) (hi : RdI w vi I) (hbad : (planV n E I T R S K).2 ≠ 0) :
    Calls Tryz.prog 8 #[.agg #[.int .i64 n, ve, vi, .int .i64 T, .int .i64 R, .int .i64 S, .int .i64 K]] w fun e w' => ∃ v, e = .returned (.tuple #[.pointer none, v]) ∧ ErrIs w' v (planV n E I T R S K) ∧ Below w.heap.size w w' := by
  have HV := Lib.hid hv
  have HI := Lib.hid hi
  have HBAD := Lib.hid hbad
  obtain ⟨ao, cap, rfl, _⟩ := hv
  obtain ⟨aoi, capi, rfl, _⟩ := hi
  obtain ⟨w1, hw1⟩ : ∃ w1, w1 = w.alloc (.cells #[.int .i64 n, .slice ao E.length cap, .slice aoi I.length capi, .int .i64 T, .int .i64 R, .int .i64 S, .int .i64 K] 35) := ⟨_, rfl⟩
  have HX := Lib.hid (show w1.heap[w.heap.size]? = some (.cells #[.int .i64 n, .slice ao E.length cap, .slice aoi I.length capi, .int .i64 T, .int .i64 R, .int .i64 S, .int .i64 K] 35 (0, 0)) by rw [hw1]; exact heap_alloc_new w _)
  have HB := Lib.hid (show Below w.heap.size w w1 by rw [hw1]; exact (Below.refl _ _).alloc (Nat.le_refl _) _)
  clear hbad
  go_enter Tryz.func8, Tryz.ntmps8
  go_upto_region 1 with fail
  rw [← hw1]
  clear hw1
  obtain ⟨y0, y1, y2, y3, y4, y5, y6⟩ := cells7 HX.out
  go_wp2_with fail
  go_at_call 5
  refine (mdCheck_any n T R S K (HV.out.below HB.out) (HI.out.below HB.out)).mono ?_
  rintro e w2 ⟨v, rfl, hE, hb⟩
  have HB2 := Lib.hid (HB.out.trans (hb.mono HB.out.size))
  have HE := Lib.hid hE
  obtain ⟨u, x, rfl⟩ : ∃ u x, v = .iface u x := by
    rcases hE with ⟨h0, _⟩ | ⟨_, _, h⟩
    · exact absurd h0 HBAD.out
    · exact h
  clear y0 y1 y2 y3 y4 y5 y6 hE hb
  go_wp2_with fail
  refine bodyPost_ret (v := .tuple #[.pointer none, .iface u x]) (by simp [results, Tryz.results8, go_sem]) rfl ⟨_, rfl, HE.out, HB2.out⟩
end Go.Proofs.YtdllgeanmlmmfaaGreatDoor.Md
