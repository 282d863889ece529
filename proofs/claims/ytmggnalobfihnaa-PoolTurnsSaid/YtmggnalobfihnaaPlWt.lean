/-
  PACKAGE pool: somebody else has a latch; a Put and a Drain, side by side.
-/
import Derived.Test.YtmggnalobfihnaaJoined14
namespace Go.Proofs.Ytmggnalobfihnaa.Pl
open Go.RowKit Rw Pk Go.Maps Mm
open Batch (Ch tot sumsE sumsR)
set_option linter.unusedVariables false
def ext1 (q : Nat) : Nat → Option Nat := fun i => if i = q then some 50 else none
def two (X Y : Ax) : Nat → Option Ax := fun i => if i = 0 then some X else if i = 1 then some Y else none
theorem two_0 (X Y X' : Ax) : updF (two X Y) 0 (some X') = two X' Y := by
  funext i
  unfold updF two
  by_cases e : i = 0
  · rw [if_pos e, if_pos e]
  · rw [if_neg e, if_neg e, if_neg e]
theorem two_1 (X Y Y' : Ax) : updF (two X Y) 1 (some Y') = two X Y' := by
  funext i
  unfold updF two
  by_cases e : i = 1
  · subst e; rfl
  · rw [if_neg e]
    by_cases e' : i = 0
    · rw [if_pos e', if_pos e']
    · rw [if_neg e', if_neg e', if_neg e, if_neg e]
theorem two_new (X Y : Ax) : updF (updF (fun _ => none) 0 (some X)) 1 (some Y) = two X Y := by
  funext i
  unfold updF two
  by_cases e : i = 1
  · subst e; rfl
  · rw [if_neg e]
    by_cases e' : i = 0
    · rw [if_pos e', if_pos e']
    · rw [if_neg e', if_neg e', if_neg e]
section
variable {n0 s p n kk k q : Nat} {w0 w w' : World} {zs xs : List Nat} {f : Nat → Option Ax} {ext : Nat → Option Nat} {C b : List Ch} {rnd : Int} {Bx : Nat → List Ch} {hl : Nat → Option Int} {M M' : Mm.St} {X Y : Ax}
theorem Pt.call (h : Pt n0 w0 s p n zs xs f M w) (hm : Mm.MemZ n0 w0 zs p M' w') (hk : Mm.KeepB n0 zs w w') : Pt n0 w0 s p n zs xs f M' w' :=
  ⟨(h.pq.call hm hk).rebase (fun j hj => hj), fun k X hf => ((h.g k X hf).call hm hk).base, h.d, h.x, h.xa⟩
theorem Iv.extTake (h : Iv n kk f (fun _ => none) C rnd Bx hl M) (hno : ∀ k, f k = none) (hq : q < n) (hw : Wp n (kk + 1) rnd Bx (updH hl q (some 50)) M') : Iv n (kk + 1) f (ext1 q) C rnd Bx (updH hl q (some 50)) M' := by
  refine ⟨hw, fun k X hf => ?_, fun r hr z hz => ?_, fun k X r hf => ?_, fun r k hr he => ?_, h.b1, fun k X r hf => ?_⟩
  · rw [hno] at hf; cases hf
  · by_cases e : r = q
    · subst e
      rw [updH_same] at hz
      exact .inl ⟨50, by simpa using hz.symm, if_pos rfl⟩
    · rw [updH_other e] at hz
      rcases h.h1 r hr z hz with ⟨_, _, e2⟩ | ⟨_, _, _, e2, _⟩
      · cases e2
      · rw [hno] at e2; cases e2
  · rw [hno] at hf; cases hf
  · unfold ext1 at he
    by_cases e : r = q
    · rw [if_pos e] at he
      subst e
      rw [updH_same]
      have := Option.some.inj he
      subst this
      rfl
    · rw [if_neg e] at he; cases he
  · rw [hno] at hf; cases hf
theorem Iv.extFree (h : Iv n kk f (ext1 q) C rnd Bx hl M) (hq : q < n) (hne : ∀ k X, f k = some X → k ≠ 50) (hw : Wp n (kk + 1) rnd Bx (updH hl q none) M') : Iv n (kk + 1) f (fun _ => none) C rnd Bx (updH hl q none) M' := by
  have h50 := h.h3 q 50 hq (if_pos rfl)
  refine ⟨hw, h.ok, fun r hr z hz => ?_, fun k X r hf hh => ?_, (fun r k hr he => by cases he), h.b1, h.b2⟩
  · by_cases e : r = q
    · subst e; rw [updH_same] at hz; cases hz
    · rw [updH_other e] at hz
      rcases h.h1 r hr z hz with ⟨_, _, e2⟩ | hh
      · unfold ext1 at e2; rw [if_neg e] at e2; cases e2
      · exact .inr hh
  · have h1 := h.h2 k X r hf hh
    have e : r ≠ q := fun e => by
      subst e
      rw [h50] at h1
      have := Option.some.inj h1
      exact hne k X hf (by omega)
    rw [updH_other e]
    exact h1
theorem Ps.take50 (h : Ps n0 w0 s p n kk zs xs f (fun _ => none) C rnd M w) (hno : ∀ k, f k = none) (hq : q < n) (hn : n ≤ 8) (hkk : kk ≤ 90000) :
    Calls Try.prog 48 #[.pointer (some ⟨p, 0, none⟩), .int .i64 50, .int .i64 (1 + (q : Int))] w fun e w' => e = .returned (.bool true) ∧ ∃ M', KeepX xs w w' ∧ Ps n0 w0 s p n (kk + 1) zs xs f (ext1 q) C rnd M' w' := by
  obtain ⟨H, Bx, hl, I⟩ := h
  have hfree : hl q = none := by
    cases e : hl q with
    | none => rfl
    | some z =>
      rcases I.h1 q hq z e with ⟨_, _, e2⟩ | ⟨_, _, _, e2, _⟩
      · cases e2
      · rw [hno] at e2; cases e2
  obtain ⟨t1, t2, t3⟩ := I.wp.take (who := 50) (by decide) ⟨by decide, by decide⟩ hq hn hfree
  refine (mz_take H.pq.mz I.wp.good (by omega) (by omega) (by omega) (by omega) 50 (1 + (q : Int)) ⟨by decide, by decide⟩ (i64_1 hq hn)).mono ?_
  rintro e w' ⟨rfl, hm, hk⟩
  rw [t1]
  exact ⟨rfl, _, ⟨hk.1, fun j hj => hk.2 j (.inr (H.x j hj).1)⟩, H.call hm hk, Bx, _, I.extTake hno hq t3⟩
theorem Ps.free50 (h : Ps n0 w0 s p n kk zs xs f (ext1 q) C rnd M w) (hne : ∀ k X, f k = some X → k ≠ 50) (hq : q < n) (hn : n ≤ 8) (hkk : kk ≤ 90000) :
    Calls Try.prog 53 #[.pointer (some ⟨p, 0, none⟩), .int .i64 50, .int .i64 (1 + (q : Int))] w fun e w' => e = .returned (.bool true) ∧ ∃ M', Ps n0 w0 s p n (kk + 1) zs xs f (fun _ => none) C rnd M' w' := by
  obtain ⟨H, Bx, hl, I⟩ := h
  obtain ⟨t1, t2, t3⟩ := I.wp.free (who := 50) (by decide) ⟨by decide, by decide⟩ hq hn (I.h3 q 50 hq (if_pos rfl))
  refine (mz_free H.pq.mz I.wp.good (by omega) (by omega) (by omega) (by omega) 50 (1 + (q : Int)) ⟨by decide, by decide⟩ (i64_1 hq hn)).mono ?_
  rintro e w' ⟨rfl, hm, hk⟩
  rw [t1]
  exact ⟨rfl, _, H.call hm hk, Bx, _, I.extFree hq hne t3⟩
set_option maxRecDepth 1000000 in
set_option maxHeartbeats 8000000 in
theorem plstep_end {g : Nat} {A : Pa} (h : PaAt w g A) (hd : Rr accK w A.dv []) :
    Calls Try.prog 13 #[.pointer (some ⟨g, 0, none⟩)] w fun e w' => e = .returned (.bool true) ∧ w = w' := by
  have HO := Lib.hid (plover_any h hd)
  clear h hd
  go_enter Try.func13, Try.ntmps13
  go_wp2_with fail
  go_at_call 33
  refine HO.out.mono ?_
  rintro e w2 ⟨rfl, rfl⟩
  go_wp2_with fail
  go_ret
  exact ⟨rfl, rfl⟩
theorem shQ_sorted (n : Nat) (b : List Ch) : (shQ n b).Pairwise (· < ·) := List.Pairwise.filter _ List.pairwise_lt_range
theorem sorted_at {Q : List Nat} (h : Q.Pairwise (· < ·)) {x y a c : Nat} (hxy : x < y) (hx : Q[x]? = some a) (hy : Q[y]? = some c) : a < c := by
  obtain ⟨h1, rfl⟩ := List.getElem?_eq_some_iff.1 hx
  obtain ⟨h2, rfl⟩ := List.getElem?_eq_some_iff.1 hy
  exact List.pairwise_iff_getElem.1 h x y h1 h2 hxy
/-- A Put and a Drain beside each other. -/
structure Wt (n0 : Nat) (w0 : World) (s p n : Nat) (bL : List Ch) (aX aY : Nat) (ext : Nat → Option Nat) (kk : Nat) (X Y : Ax) (w : World) : Prop where
  ps : ∃ zs M C rnd, Ps n0 w0 s p n kk zs [] (two X Y) ext C rnd M w ∧ Cg 12000 12 C ∧ (X.j < 3 * X.m + 1 → C = []) ∧ 0 ≤ rnd ∧ rnd ≤ (kk : Int)
  xa : X.a = aX
  ya : Y.a = aY
  xq : X.Q = shQ n bL
  yq : Y.Q = List.range n
  xd : X.A.dr = false
  yd : Y.A.dr = true
  xb : X.b = bL
  cb : Cg 12000 12 bL
variable {bL : List Ch} {aX aY : Nat}
theorem Wt.below (h : Wt n0 w0 s p n bL aX aY ext kk X Y w) (hb : Below w.heap.size w w') : Wt n0 w0 s p n bL aX aY ext kk X Y w' := by
  obtain ⟨zs, M, C, rnd, h1, h2⟩ := h.ps
  exact ⟨⟨zs, M, C, rnd, h1.below hb, h2⟩, h.xa, h.ya, h.xq, h.yq, h.xd, h.yd, h.xb, h.cb⟩
theorem Wt.ex (h : Wt n0 w0 s p n bL aX aY ext kk X Y w) : X.e = 1 ∧ Y.e = 2 ∧ X.m ≤ 8 ∧ Y.m = n := ⟨by unfold Ax.e eN; rw [h.xd]; rfl, by unfold Ax.e eN; rw [h.yd]; rfl, by unfold Ax.m; rw [h.xq]; exact shQ_len _ _, by unfold Ax.m; rw [h.yq]; simp⟩
theorem Wt.kept (h : Wt n0 w0 s p n bL aX aY ext kk X Y w) : Below n0 w0 w := by obtain ⟨zs, M, C, rnd, h1, h2⟩ := h.ps; exact h1.kept
/-- What one of them tells. -/
theorem Wt.tells (h : Wt n0 w0 s p n bL aX aY ext kk X Y w) : PaAt w aX X.A ∧ Rr accK w X.A.dv X.D ∧ X.A.ok = true ∧ (X.D = [] ↔ 4 * X.m + 1 ≤ X.j) ∧ PaAt w aY Y.A ∧ Rr accK w Y.A.dv Y.D ∧ Y.A.ok = true ∧ (Y.D = [] ↔ 4 * n + 2 ≤ Y.j) ∧ (X.j < 3 * X.m + 1 → X.A.mk' = 0) ∧ (Y.j < 3 * n + 2 → Y.A.mk' = 0) ∧ X.j ≤ 4 * X.m + 1 ∧ Y.j ≤ 4 * n + 2 := by
  obtain ⟨zs, M, C, rnd, h1, h2⟩ := h.ps
  obtain ⟨e1, e2, _, e4⟩ := h.ex
  obtain ⟨a1, a2, _, a4, a5⟩ := h1.over (k := 0) (X := X) rfl
  obtain ⟨b1, b2, _, b4, b5⟩ := h1.over (k := 1) (X := Y) rfl
  obtain ⟨_, Bx, hl, I⟩ := h1
  have o1 := I.ok 0 X rfl
  have o2 := I.ok 1 Y rfl
  rw [h.xa] at a1
  rw [h.ya] at b1
  rw [e1] at a5
  rw [e2, e4] at b5
  have m1 := o1.m0
  have m2 := o2.m0
  have j1 := o1.je
  have j2 := o2.je
  rw [e1] at m1 j1
  rw [e2, e4] at m2 j2
  exact ⟨a1, a2, a4, a5, b1, b2, b4, b5, m1, m2, j1, j2⟩
theorem wt_stepX (h : Wt n0 w0 s p n bL aX aY ext kk X Y w) (hn : 1 ≤ n ∧ n ≤ 8) (hkk : kk ≤ 5000) (hend : X.j < 4 * X.m + 1) (hext : ∀ q, ext q ≠ some 0) :
    Calls Try.prog 13 #[.pointer (some ⟨aX, 0, none⟩)] w fun e w' => (∃ b, e = .returned (.bool b)) ∧ ∃ X', Wt n0 w0 s p n bL aX aY ext (kk + 1) X' Y w' ∧
      (X' = X ∧ X.j < X.m ∧ (∃ q, X.Q[X.j]? = some q ∧ ((∃ k', ext q = some k') ∨ holds Y q)) ∨ X'.j = X.j + 1 ∧ (X.j < X.m → ∀ q, X.Q[X.j]? = some q → ext q = none)) := by
  obtain ⟨zs, M, C, rnd, ⟨H, Bx, hl, I⟩, hc, hC, hr⟩ := h.ps
  obtain ⟨e1, e2, e3, e4⟩ := h.ex
  have o := I.ok 0 X rfl
  obtain rfl := h.xa
  refine (pt_step H I (k := 0) rfl hn (by decide) (by omega) hc (by decide) (by decide) (by decide) (by omega) hext (by rw [e1]; exact hend)).mono ?_
  rintro e w' ⟨zs', M', z1, z2, _, hq⟩
  rcases hq with ⟨rfl, hlt, ⟨q, z, hq1, hq2, _⟩, H', I'⟩ | ⟨rfl, X', C', rnd', Bx', hl', ev, had, hev, _, H', I'⟩
  · refine ⟨⟨_, rfl⟩, X, ⟨⟨zs', M', C, rnd, ⟨H', _, _, I'⟩, hc, hC, by omega⟩, h.xa, h.ya, h.xq, h.yq, h.xd, h.yd, h.xb, h.cb⟩, .inl ⟨rfl, hlt, q, hq1, ?_⟩⟩
    rcases I.h1 q (o.qlt hq1) z hq2 with ⟨k', _, e5⟩ | ⟨k', Z, _, e5, e6⟩
    · exact .inl ⟨k', e5⟩
    · right
      unfold two at e5
      by_cases k0 : k' = 0
      · rw [if_pos k0] at e5
        obtain rfl : X = Z := by simpa using e5
        obtain ⟨x, e7, e8, _⟩ := e6
        have := nodup_at o.nd hq1 e7
        omega
      · rw [if_neg k0] at e5
        by_cases k1 : k' = 1
        · rw [if_pos k1] at e5
          obtain rfl : Y = Z := by simpa using e5
          exact e6
        · rw [if_neg k1] at e5; cases e5
  · rw [two_0] at H' I'
    have em : X'.m = X.m := had.s.m
    refine ⟨⟨_, rfl⟩, X', ⟨⟨zs', M', C', rnd', ⟨H', _, _, I'⟩, ?_, fun hj => ?_, ?_⟩, had.a.trans h.xa, h.ya, had.s.q.trans h.xq, h.yq, had.s.dr.trans h.xd, h.yd, had.s.b.trans h.xb, h.cb⟩, .inr ⟨had.s.j, fun hlt q hq => ?_⟩⟩
    · by_cases hmk : X.j + 1 = 3 * X.m + X.e
      · obtain ⟨_, _, t3, _⟩ := had.tk hmk
        rw [(t3 h.xd).1, hC (by omega), h.xb]
        exact ((cg_nil (K := 0) (N := 0) (by decide)).merge h.cb (by decide)).2.1
      · rw [(had.no hmk).1]; exact hc
    · rw [had.s.j, em] at hj
      rw [(had.no (by rw [e1]; omega)).1]
      exact hC (by omega)
    · by_cases hmk : X.j + 1 = 3 * X.m + X.e
      · obtain ⟨_, _, t3, _⟩ := had.tk hmk
        rw [(t3 h.xd).2]; omega
      · rw [(had.no hmk).2.1]; omega
    · cases e5 : ext q with
      | none => rfl
      | some k' =>
        have e6 := I'.h3 q k' (o.qlt hq) e5
        have e7 := I'.h2 0 X' q rfl ⟨X.j, by rw [had.s.q]; exact hq, by rw [had.s.j]; omega, by rw [had.s.j, em, had.s.e]; omega⟩
        rw [e6] at e7
        have e8 := Option.some.inj e7
        obtain rfl : k' = 0 := by omega
        exact absurd e5 (hext q)
theorem wt_stepY (h : Wt n0 w0 s p n bL aX aY ext kk X Y w) (hn : 1 ≤ n ∧ n ≤ 8) (hkk : kk ≤ 5000) (hend : Y.j < 4 * n + 2) (hext : ∀ q, ext q ≠ some 1) :
    Calls Try.prog 13 #[.pointer (some ⟨aY, 0, none⟩)] w fun e w' => (∃ b, e = .returned (.bool b) ∧ (b = true → Y.j + 1 = 4 * n + 2)) ∧ ∃ Y', Wt n0 w0 s p n bL aX aY ext (kk + 1) X Y' w' ∧
      (Y' = Y ∧ Y.j < n ∧ ((∃ k', ext Y.j = some k') ∨ holds X Y.j) ∨ Y'.j = Y.j + 1 ∧ (Y.j < n → ext Y.j = none)) := by
  obtain ⟨zs, M, C, rnd, ⟨H, Bx, hl, I⟩, hc, hC, hr⟩ := h.ps
  obtain ⟨e1, e2, e3, e4⟩ := h.ex
  have o := I.ok 1 Y rfl
  have hat : ∀ r, r < n → Y.Q[r]? = some r := fun r hr => by rw [h.yq, List.getElem?_range hr]
  obtain rfl := h.ya
  refine (pt_step H I (k := 1) rfl hn (by decide) (by omega) hc (by decide) (by decide) (by decide) (by omega) hext (by rw [e2, e4]; exact hend)).mono ?_
  rintro e w' ⟨zs', M', z1, z2, _, hq⟩
  rcases hq with ⟨rfl, hlt, ⟨q, z, hq1, hq2, _⟩, H', I'⟩ | ⟨rfl, Y', C', rnd', Bx', hl', ev, had, hev, _, H', I'⟩
  · rw [e4] at hlt
    rw [hat _ hlt] at hq1
    obtain rfl : Y.j = q := by simpa using hq1
    refine ⟨⟨_, rfl, fun hb => by cases hb⟩, Y, ⟨⟨zs', M', C, rnd, ⟨H', _, _, I'⟩, hc, hC, by omega⟩, h.xa, h.ya, h.xq, h.yq, h.xd, h.yd, h.xb, h.cb⟩, .inl ⟨rfl, hlt, ?_⟩⟩
    rcases I.h1 _ hlt z hq2 with ⟨k', _, e5⟩ | ⟨k', Z, _, e5, e6⟩
    · exact .inl ⟨k', e5⟩
    · right
      unfold two at e5
      by_cases k0 : k' = 0
      · rw [if_pos k0] at e5
        obtain rfl : X = Z := by simpa using e5
        exact e6
      · rw [if_neg k0] at e5
        by_cases k1 : k' = 1
        · rw [if_pos k1] at e5
          obtain rfl : Y = Z := by simpa using e5
          obtain ⟨x, e7, e8, _⟩ := e6
          have := nodup_at o.nd (hat _ hlt) e7
          omega
        · rw [if_neg k1] at e5; cases e5
  · rw [two_1] at H' I'
    have em : Y'.m = Y.m := had.s.m
    refine ⟨⟨_, rfl, fun hb => ?_⟩, Y', ⟨⟨zs', M', C', rnd', ⟨H', _, _, I'⟩, ?_, fun hj => ?_, ?_⟩, h.xa, had.a.trans h.ya, h.xq, had.s.q.trans h.yq, h.xd, had.s.dr.trans h.yd, h.xb, h.cb⟩, .inr ⟨had.s.j, fun hlt => ?_⟩⟩
    · have := of_decide_eq_true hb
      rw [e2, e4] at this
      exact this
    · by_cases hmk : Y.j + 1 = 3 * Y.m + Y.e
      · obtain ⟨_, _, _, t4⟩ := had.tk hmk
        rw [(t4 h.yd).1]
        exact cg_nil (by decide)
      · rw [(had.no hmk).1]; exact hc
    · by_cases hmk : Y.j + 1 = 3 * Y.m + Y.e
      · obtain ⟨_, _, _, t4⟩ := had.tk hmk
        exact (t4 h.yd).1
      · rw [(had.no hmk).1]; exact hC hj
    · by_cases hmk : Y.j + 1 = 3 * Y.m + Y.e
      · obtain ⟨_, _, _, t4⟩ := had.tk hmk
        rw [(t4 h.yd).2.1]; omega
      · rw [(had.no hmk).2.1]; omega
    · cases e5 : ext Y.j with
      | none => rfl
      | some k' =>
        have e6 := I'.h3 Y.j k' hlt e5
        have e7 := I'.h2 1 Y' Y.j rfl ⟨Y.j, by rw [had.s.q]; exact hat _ hlt, by rw [had.s.j]; omega, by rw [had.s.j, em, had.s.e]; omega⟩
        rw [e6] at e7
        have e8 := Option.some.inj e7
        obtain rfl : k' = 1 := by omega
        exact absurd e5 (hext _)
theorem Wt.more (h : Wt n0 w0 s p n bL aX aY ext kk X Y w) : Wt n0 w0 s p n bL aX aY ext (kk + 1) X Y w := by
  obtain ⟨zs, M, C, rnd, h1, h2, h3, h4⟩ := h.ps
  exact ⟨⟨zs, M, C, rnd, h1.more (Nat.le_succ _), h2, h3, by omega⟩, h.xa, h.ya, h.xq, h.yq, h.xd, h.yd, h.xb, h.cb⟩
/-- A Step of the Put, whether it is over or not. -/
theorem wt_a (h : Wt n0 w0 s p n bL aX aY ext kk X Y w) (hn : 1 ≤ n ∧ n ≤ 8) (hkk : kk ≤ 5000) (hext : ∀ q, ext q ≠ some 0) :
    Calls Try.prog 13 #[.pointer (some ⟨aX, 0, none⟩)] w fun e w' => (∃ b, e = .returned (.bool b)) ∧ ∃ X', Wt n0 w0 s p n bL aX aY ext (kk + 1) X' Y w' ∧
      (X' = X ∧ X.j = 4 * X.m + 1 ∨ X' = X ∧ X.j < X.m ∧ (∃ q, X.Q[X.j]? = some q ∧ ((∃ k', ext q = some k') ∨ holds Y q)) ∨ X'.j = X.j + 1 ∧ X.j < 4 * X.m + 1 ∧ (X.j < X.m → ∀ q, X.Q[X.j]? = some q → ext q = none)) := by
  obtain ⟨t1, t2, _, t4, _, _, _, _, _, _, t11, _⟩ := h.tells
  by_cases hend : X.j < 4 * X.m + 1
  · refine (wt_stepX h hn hkk hend hext).mono ?_
    rintro e w' ⟨he, X', hw, hc⟩
    exact ⟨he, X', hw, .inr (hc.imp id fun hc => ⟨hc.1, hend, hc.2⟩)⟩
  · rw [t4.2 (by omega)] at t2
    refine (plstep_end t1 t2).mono ?_
    rintro e w' ⟨rfl, rfl⟩
    exact ⟨⟨_, rfl⟩, X, h.more, .inl ⟨rfl, by omega⟩⟩
/-- .. of the Drain. -/
theorem wt_d (h : Wt n0 w0 s p n bL aX aY ext kk X Y w) (hn : 1 ≤ n ∧ n ≤ 8) (hkk : kk ≤ 5000) (hext : ∀ q, ext q ≠ some 1) :
    Calls Try.prog 13 #[.pointer (some ⟨aY, 0, none⟩)] w fun e w' => (∃ b, e = .returned (.bool b) ∧ (Y.j < n → b = false)) ∧ ∃ Y', Wt n0 w0 s p n bL aX aY ext (kk + 1) X Y' w' ∧
      (Y' = Y ∧ Y.j = 4 * n + 2 ∨ Y' = Y ∧ Y.j < n ∧ ((∃ k', ext Y.j = some k') ∨ holds X Y.j) ∨ Y'.j = Y.j + 1 ∧ Y.j < 4 * n + 2 ∧ (Y.j < n → ext Y.j = none)) := by
  obtain ⟨_, _, _, _, t1, t2, _, t4, _, _, _, t11⟩ := h.tells
  by_cases hend : Y.j < 4 * n + 2
  · refine (wt_stepY h hn hkk hend hext).mono ?_
    rintro e w' ⟨⟨b, he, hb⟩, Y', hw, hc⟩
    refine ⟨⟨b, he, fun hlt => ?_⟩, Y', hw, .inr (hc.imp id fun hc => ⟨hc.1, hend, hc.2⟩)⟩
    cases b with
    | false => rfl
    | true => have := hb rfl; omega
  · rw [t4.2 (by omega)] at t2
    refine (plstep_end t1 t2).mono ?_
    rintro e w' ⟨rfl, rfl⟩
    exact ⟨⟨_, rfl, fun hlt => by omega⟩, Y, h.more, .inl ⟨rfl, by omega⟩⟩
theorem hold_on {X : Ax} {q : Nat} (h : holds X q) : X.j < 4 * X.m + X.e := by
  obtain ⟨x, h1, h2, h3⟩ := h
  have := ActOk.xlt h1
  omega
/-- Both can't wait for one another. -/
theorem wt_both (h : Wt n0 w0 s p n bL aX aY ext kk X Y w) {q : Nat} (hx : X.j < X.m) (hq : X.Q[X.j]? = some q) (hy : Y.j < n) (h1 : holds Y q) (h2 : holds X Y.j) : False := by
  obtain ⟨x, a1, a2, _⟩ := h1
  obtain ⟨y, b1, b2, _⟩ := h2
  rw [h.yq] at a1
  have hxl := (List.getElem?_eq_some_iff.1 a1).1
  rw [List.getElem?_range (by simpa using hxl)] at a1
  obtain rfl : x = q := by simpa using a1
  rw [h.xq] at b1 hq
  have := sorted_at (shQ_sorted n bL) b2 b1 hq
  omega
end
end Go.Proofs.Ytmggnalobfihnaa.Pl
