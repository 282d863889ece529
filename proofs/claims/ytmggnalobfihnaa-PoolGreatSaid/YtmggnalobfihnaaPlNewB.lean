/-
  PACKAGE pool: New, begin; a Put and a Drain begin beside others; Batch, Round, Holder; a whole act, alone.
-/
import Derived.Test.YtmggnalobfihnaaPlPtB
import Derived.Test.YtmggnalobfihnaaPlNew
import Derived.Test.YtmggnalobfihnaaPlPut
import Derived.Test.YtmggnalobfihnaaPlDrain
import Derived.Test.YtmggnalobfihnaaJoined5
namespace Go.Proofs.Ytmggnalobfihnaa.PlB
open Pl
open Go.RowKit Rw Pk Go.Maps Mm
open Batch (Ch tot sumsE sumsR)
set_option linter.unusedVariables false
/-- All of it at one moment. -/
def Ps (n0 : Nat) (w0 : World) (s p n kk : Nat) (zs xs : List Nat) (f : Nat → Option Ax) (ext : Nat → Option Nat) (C : List Ch) (rnd : Int) (M : Mm.St) (w : World) : Prop :=
  Pt n0 w0 s p n zs xs f M w ∧ ∃ Bx hl, Iv n kk f ext C rnd Bx hl M
theorem iv_init (n : Nat) : Iv n 0 (fun _ => none) (fun _ => none) [] 0 (fun _ => []) (fun _ => none) (initS (n + 3) (n + 1) (n + 1)) :=
  ⟨wp_init n, (fun k X h => by cases h), (fun q _ z h => by cases h), (fun k X q h => by cases h), (fun q k _ h => by cases h), fun q _ _ => (shB_nil n q).symm, (fun k X q h => by cases h)⟩
set_option maxRecDepth 1000000 in
set_option maxHeartbeats 8000000 in
theorem plbegin_any (n : Nat) (h : 1 ≤ n ∧ n ≤ 8) (w : World) :
    Calls Try.prog 5 #[.int .i64 (n : Int)] w fun e w' => ∃ p s zs, e = .returned (.tuple #[.pointer (some ⟨p, 0, none⟩), .pointer (some ⟨s, 0, none⟩)]) ∧ Ps w.heap.size w s p n 0 zs [] (fun _ => none) (fun _ => none) [] 0 (initS (n + 3) (n + 1) (n + 1)) w' := by
  have HW := Lib.hid (plwords_any n h w)
  have HH := Lib.hid h
  have hw3 : IntKind.i64.wrap ((n : Int) + 1 + 2) = ((n + 3 : Nat) : Int) := by rw [w_id ⟨by omega, by omega⟩]; omega
  have hw1 : IntKind.i64.wrap ((n : Int) + 1) = ((n + 1 : Nat) : Int) := by rw [w_id ⟨by omega, by omega⟩]; omega
  clear h
  go_enter Try.func5, Try.ntmps5
  go_wp2_with fail
  go_at_call 25
  refine HW.out.mono ?_
  rintro e w1 ⟨rfl, rfl⟩
  go_wp2_with fail
  go_at_call 24
  try rw [hw3]
  try rw [hw1]
  refine (memNew_any (n + 3) (n + 1) (n + 1) (by have := HH.out; omega) (by have := HH.out; omega) (by have := HH.out; omega) _).mono ?_
  rintro e w1 ⟨p, τ, rfl, hm, htt, hb⟩
  have HZ := Lib.hid (memz_start (a := 0) (b := 0) (c := 0) hm htt hb)
  clear hm htt hb
  go_wp2_with fail
  go_at_call 26
  refine (plnew_any n HH.out p w1).mono ?_
  rintro e w2 ⟨g, rfl, hg, hr, hb⟩
  have HQ := Lib.hid (show Pq w.heap.size w w2 _ _ g ⟨p, 2, 1, 1, n⟩ (initS (n + 3) (n + 1) (n + 1)) w2 from
    ⟨blk_all HZ.out hb, hr, blk_mem hg hr.lt, fun j hj => hj, fun _ _ => rfl, Nat.le_refl _⟩)
  clear hr hb hg
  go_wp2_with fail
  go_ret2
  exact ⟨p, g, _, rfl, ⟨HQ.out, (fun k X h => by cases h), (fun k k' X X' h => by cases h), (by simp), (by simp)⟩, _, _, iv_init n⟩
/-! ### one more act, one less -/
section
variable {n0 s p n kk k : Nat} {w0 w w' : World} {zs xs : List Nat} {f : Nat → Option Ax} {ext : Nat → Option Nat} {C b : List Ch} {rnd : Int} {Bx : Nat → List Ch} {hl : Nat → Option Int} {M M' : Mm.St} {X : Ax} {KC : Int} {NC : Nat}
theorem Iv.add (h : Iv n kk f ext C rnd Bx hl M) (hf : f k = none) (hX : ActOk n k C rnd X) (hj : X.j = 0) : Iv n kk (updF f k (some X)) ext C rnd Bx hl M := by
  have hne : ∀ k' Y, f k' = some Y → k' ≠ k := fun k' Y hk' e => by subst e; rw [hf] at hk'; cases hk'
  have hh : ∀ q, ¬ holds X q := fun q ⟨x, _, h2, _⟩ => by omega
  refine ⟨h.wp, fun k' Y hk' => ?_, fun q hq z hz => ?_, fun k' Y q hk' hq => ?_, h.h3, fun q hq hno => ?_, fun k' Y q hk' hd => ?_⟩
  · rcases updF_inv hk' with ⟨rfl, rfl⟩ | ⟨_, hk'⟩
    · exact hX
    · exact h.ok k' Y hk'
  · rcases h.h1 q hq z hz with e | ⟨k', Y, e1, e2, e3⟩
    · exact .inl e
    · exact .inr ⟨k', Y, e1, by rw [updF_other (hne k' Y e2)]; exact e2, e3⟩
  · rcases updF_inv hk' with ⟨rfl, rfl⟩ | ⟨_, hk'⟩
    · exact absurd hq (hh q)
    · exact h.h2 k' Y q hk' hq
  · exact h.b1 q hq fun k' Y hk' hd => hno k' Y (by rw [updF_other (hne k' Y hk')]; exact hk') hd
  · rcases updF_inv hk' with ⟨rfl, rfl⟩ | ⟨_, hk'⟩
    · exact absurd hd.holds (hh q)
    · exact h.b2 k' Y q hk' hd
theorem Iv.drop (h : Iv n kk f ext C rnd Bx hl M) (hf : f k = some X) (hj : X.j = 4 * X.m + X.e) : Iv n kk (updF f k none) ext C rnd Bx hl M := by
  have hin : ∀ k' Y, updF f k none k' = some Y → k' ≠ k ∧ f k' = some Y := fun k' Y hk' => by
    by_cases e : k' = k
    · subst e; rw [updF_same] at hk'; cases hk'
    · rw [updF_other e] at hk'; exact ⟨e, hk'⟩
  have hh : ∀ q, ¬ holds X q := fun q ⟨x, h1, h2, h3⟩ => by have := ActOk.xlt h1; omega
  refine ⟨h.wp, fun k' Y hk' => h.ok k' Y (hin k' Y hk').2, fun q hq z hz => ?_, fun k' Y q hk' hq => h.h2 k' Y q (hin k' Y hk').2 hq, h.h3, fun q hq hno => ?_, fun k' Y q hk' hd => h.b2 k' Y q (hin k' Y hk').2 hd⟩
  · rcases h.h1 q hq z hz with e | ⟨k', Y, e1, e2, e3⟩
    · exact .inl e
    · by_cases ek : k' = k
      · subst ek
        rw [hf] at e2
        obtain rfl : X = Y := by simpa using e2
        exact absurd e3 (hh q)
      · exact .inr ⟨k', Y, e1, by rw [updF_other ek]; exact e2, e3⟩
  · refine h.b1 q hq fun k' Y hk' hd => ?_
    by_cases ek : k' = k
    · subst ek
      rw [hf] at hk'
      obtain rfl : X = Y := by simpa using hk'
      exact absurd hd.holds (hh q)
    · exact hno k' Y (by rw [updF_other ek]; exact hk') hd
theorem Ps.drop (h : Ps n0 w0 s p n kk zs xs f ext C rnd M w) (hf : f k = some X) (hj : X.j = 4 * X.m + X.e) : Ps n0 w0 s p n kk zs xs (updF f k none) ext C rnd M w := by
  obtain ⟨h1, Bx, hl, h2⟩ := h
  exact ⟨h1.drop k, Bx, hl, h2.drop hf hj⟩
theorem Ps.below (h : Ps n0 w0 s p n kk zs xs f ext C rnd M w) (hb : Below w.heap.size w w') : Ps n0 w0 s p n kk zs xs f ext C rnd M w' := ⟨h.1.below hb, h.2⟩
theorem Ps.kept (h : Ps n0 w0 s p n kk zs xs f ext C rnd M w) : Below n0 w0 w := h.1.pq.mz.kept
/-- The shards of a batch. -/
def shQ (n : Nat) (b : List Ch) : List Nat := (List.range 8).filter fun j => !(shB n b j).isEmpty
theorem shQ_P (n : Nat) (b : List Ch) : castN (shQ n b) = shP (shB n b) 8 := rfl
theorem shQ_nd (n : Nat) (b : List Ch) : (shQ n b).Nodup := List.nodup_range.filter _
theorem shQ_mem {q : Nat} : q ∈ shQ n b ↔ q < 8 ∧ shB n b q ≠ [] := by unfold shQ; simp
theorem shQ_lt (hn : 1 ≤ n) {q : Nat} (h : q ∈ shQ n b) : q < n := by
  obtain ⟨h1, h2⟩ := shQ_mem.1 h
  obtain ⟨c, hc⟩ := List.exists_mem_of_ne_nil _ h2
  have h3 := (shB_mem hc).2
  have h4 := Int.emod_lt_of_pos c.p (show (0 : Int) < (n : Int) by omega)
  omega
theorem shQ_len (n : Nat) (b : List Ch) : (shQ n b).length ≤ 8 := by
  unfold shQ
  exact Nat.le_trans (List.length_filter_le _ _) (by simp)
/-- A Put that has made no access. -/
structure Fresh (dr : Bool) (k n : Nat) (b : List Ch) (X : Ax) : Prop where
  hdr : X.A.dr = dr
  hb : X.b = b
  hj : X.j = 0
  hmk : X.A.mk' = 0
  hq : X.Q = if dr then List.range n else shQ n b
  hT : X.T = []
theorem ps_put (h : Ps n0 w0 s p n kk zs xs f ext C rnd M w) (hf : f k = none) (hn : 1 ≤ n ∧ n ≤ 8) {v : Value} (hv : Batch.Sl w v b) (hb : Cg 576460752303423488 12 b) :
    Calls Try.prog 9 #[.pointer (some ⟨s, 0, none⟩), .int .i64 (k : Int), v] w fun e w' => ∃ X zs', e = .returned (.pointer (some ⟨X.a, 0, none⟩)) ∧ w.heap.size ≤ X.a ∧ Fresh false k n b X ∧ (∀ j ∈ zs, j ∈ zs') ∧ (∀ j ∈ zs', j ∈ zs ∨ w.heap.size ≤ j) ∧ KeepX xs w w' ∧ Ps n0 w0 s p n kk zs' xs (updF f k (some X)) ext C rnd M w' := by
  obtain ⟨H, Bx, hl, I⟩ := h
  refine (plput_any (fs := zs) H.pq rfl hn.1 hn.2 hv (by have := hb.len; omega) (fun c hc => by have := hb.right.fit c hc; exact ⟨this.1, this.2.1⟩) (k : Int) (by omega)).mono ?_
  rintro e w' ⟨a, rfl, ha, sv, bx, dv, zs', z1, z2, z3, hp⟩
  have hX : ActOk n k C rnd ⟨a, ⟨s, (k : Int), false, sv, bx, dv, .slice none 0 0, 0, true, 0⟩, shB n b, [], shQ n b, b, 0⟩ :=
    ⟨rfl, rfl, shQ_nd n b, fun q hq => shQ_lt hn.1 hq, Nat.zero_le _, (fun h => by cases h), fun _ q hq hno => (by
      by_cases e : shB n b q = []
      · exact e
      · exact absurd (shQ_mem.2 ⟨by omega, e⟩) hno), hb, fun _ => rfl, (fun h => absurd (show 3 * _ + 1 ≤ 0 from h) (by omega)), fun _ _ x q _ => (by rw [if_neg (by show ¬ x + _ < 0; omega)]), (fun h => by cases h), (fun h => by cases h), (fun h => by cases h)⟩
  refine ⟨⟨a, ⟨s, (k : Int), false, sv, bx, dv, .slice none 0 0, 0, true, 0⟩, shB n b, [], shQ n b, b, 0⟩, zs', rfl, ha, ⟨rfl, rfl, rfl, rfl, rfl, rfl⟩, z1, z2, ⟨hp.sz, fun j hj => hp.fr j (H.x j hj).1 (fun e => by have := H.lt j (H.x j hj).1; omega)⟩, ?_, Bx, hl, I.add hf hX rfl⟩
  exact H.add hf hp ha z1 z3
theorem ps_drain (h : Ps n0 w0 s p n kk zs xs f ext C rnd M w) (hf : f k = none) (hn : 1 ≤ n ∧ n ≤ 8) :
    Calls Try.prog 7 #[.pointer (some ⟨s, 0, none⟩), .int .i64 (k : Int)] w fun e w' => ∃ X zs', e = .returned (.pointer (some ⟨X.a, 0, none⟩)) ∧ w.heap.size ≤ X.a ∧ Fresh true k n [] X ∧ (∀ j ∈ zs, j ∈ zs') ∧ (∀ j ∈ zs', j ∈ zs ∨ w.heap.size ≤ j) ∧ KeepX xs w w' ∧ Ps n0 w0 s p n kk zs' xs (updF f k (some X)) ext C rnd M w' := by
  obtain ⟨H, Bx, hl, I⟩ := h
  refine (pldrain_any (fs := zs) H.pq rfl hn.1 hn.2 (k : Int) (by omega)).mono ?_
  rintro e w' ⟨a, rfl, ha, sv, dv, zs', z1, z2, z3, hp⟩
  have hX : ActOk n k C rnd ⟨a, ⟨s, (k : Int), true, sv, fun _ => .slice none 0 0, dv, .slice none 0 0, 0, true, 0⟩, fun _ => [], [], List.range n, [], 0⟩ :=
    ⟨rfl, rfl, List.nodup_range, fun q hq => List.mem_range.1 hq, Nat.zero_le _, fun _ => rfl, (fun h => by cases h), cg_nil (by decide), fun _ => rfl, (fun h => absurd (show 3 * _ + 2 ≤ 0 from h) (by omega)), (fun h => by cases h), fun _ _ => rfl, fun _ _ => (by
      show ([] : List Ch) = belS n C (min (0 - _) n)
      rw [Nat.zero_sub, Nat.zero_min]
      exact (belS_zero hn.1).symm), fun _ h => (by
      have h' : (0 : Nat) = 3 * _ + 1 := h
      omega)⟩
  refine ⟨⟨a, ⟨s, (k : Int), true, sv, fun _ => .slice none 0 0, dv, .slice none 0 0, 0, true, 0⟩, fun _ => [], [], List.range n, [], 0⟩, zs', rfl, ha, ⟨rfl, rfl, rfl, rfl, rfl, rfl⟩, z1, z2, ⟨hp.sz, fun j hj => hp.fr j (H.x j hj).1 (fun e => by have := H.lt j (H.x j hj).1; omega)⟩, ?_, Bx, hl, I.add hf hX rfl⟩
  exact H.add hf hp ha z1 z3
/-- An act of them that is over. -/
theorem Ps.over (h : Ps n0 w0 s p n kk zs xs f ext C rnd M w) (hf : f k = some X) :
    PaAt w X.a X.A ∧ Rr accK w X.A.dv X.D ∧ Batch.Sl w X.A.tk X.T ∧ X.A.ok = true ∧ (X.D = [] ↔ 4 * X.m + X.e ≤ X.j) := by
  obtain ⟨H, Bx, hl, I⟩ := h
  have g := H.g k X hf
  exact ⟨g.pa, g.tod, g.tk, (I.ok k X hf).ok, drop_end _⟩
theorem updF_upd (f : Nat → Option Ax) (k : Nat) (x y : Option Ax) : updF (updF f k x) k y = updF f k y := by
  funext i
  by_cases e : i = k
  · subst e; rw [updF_same, updF_same]
  · rw [updF_other e, updF_other e, updF_other e]
theorem updF_none {f : Nat → Option Ax} {k : Nat} (hf : f k = none) (x : Option Ax) : updF (updF f k x) k none = f := by
  funext i
  by_cases e : i = k
  · subst e; rw [updF_same, hf]
  · rw [updF_other e, updF_other e]
/-- What there is then. -/
def aftC (X : Ax) (C : List Ch) : List Ch := if X.A.dr then [] else sumsR (C ++ X.b)
def aftR (X : Ax) (rnd : Int) : Int := if X.A.dr then rnd + 1 else rnd
/-- An act that has made j accesses, alone. -/
def AloS (n0 : Nat) (w0 : World) (s p n kk : Nat) (zs xs : List Nat) (f : Nat → Option Ax) (ext : Nat → Option Nat) (C : List Ch) (rnd : Int) (k : Nat) (X : Ax) (w : World) (j : Nat) (w' : World) : Prop :=
  ∃ X' zs' M' C' rnd', X'.a = X.a ∧ X'.Q = X.Q ∧ X'.b = X.b ∧ X'.A.dr = X.A.dr ∧ X'.j = j ∧ (X.A.dr = false → X'.T = X.T) ∧ f k = none ∧
    (j < 3 * X.m + X.e ∧ C' = C ∧ rnd' = rnd ∨ 3 * X.m + X.e ≤ j ∧ C' = aftC X C ∧ rnd' = aftR X rnd ∧ X'.A.rd = rnd' ∧ (X.A.dr = true → X'.T = C)) ∧
    (∀ j ∈ zs, j ∈ zs') ∧ (∀ j ∈ zs', j ∈ zs ∨ w.heap.size ≤ j) ∧ KeepX xs w w' ∧ Ps n0 w0 s p n (kk + j) zs' xs (updF f k (some X')) ext C' rnd' M' w'
theorem alo_step {j : Nat} {w1 : World} (hone : ∀ k', f k' = none) (hext : ∀ q, ext q = none) (hn : 1 ≤ n ∧ n ≤ 8) (hk : k ≤ 1000) (hkk : kk ≤ 80000) (hc : Cg KC NC C) (hb : Cg 576460752303423488 12 X.b) (h0 : 0 ≤ KC) (hK : KC ≤ 576460752303423488) (hKp : X.A.dr = false → KC ≤ 0) (hN : NC ≤ 14000) (hr : 0 ≤ rnd ∧ rnd ≤ 800000) (hj : j < 4 * X.m + X.e) (hm8 : X.m ≤ 8)
    (h : AloS n0 w0 s p n kk zs xs f ext C rnd k X w j w1) :
    Calls Try.prog 13 #[.pointer (some ⟨X.a, 0, none⟩)] w1 fun e w' => e = .returned (.bool (decide (j + 1 = 4 * X.m + X.e))) ∧ AloS n0 w0 s p n kk zs xs f ext C rnd k X w (j + 1) w' := by
  obtain ⟨X', zs', M', C', rnd', ea, eq, eb, ed, ej, etp, hfk, hph, z1, z2, hkx, H, Bx, hl, I⟩ := h
  have em : X'.m = X.m := by unfold Ax.m; rw [eq]
  have ee : X'.e = X.e := by unfold Ax.e; rw [ed]
  have hee : 1 ≤ X.e ∧ X.e ≤ 2 := by unfold Ax.e eN; split <;> omega
  obtain ⟨KC', hc', h0', hK', hKp'⟩ : ∃ KC', Cg KC' (NC + 12) C' ∧ 0 ≤ KC' ∧ KC' ≤ 576460752303423488 ∧ (X'.A.dr = false → X'.j < 3 * X'.m + X'.e → KC' ≤ 0) := by
    rcases hph with ⟨_, rfl, _⟩ | ⟨_, rfl, _⟩
    · exact ⟨KC, hc.more (Int.le_refl _) (by omega), h0, hK, fun hd hjj => hKp (ed.symm.trans hd)⟩
    · unfold aftC
      cases hd : X.A.dr
      · simp only [Bool.false_eq_true, if_false]
        have hk0 := hKp hd
        exact ⟨576460752303423488, ((hc.merge hb (by omega)).2.1).more (by omega) (Nat.le_refl _), by decide, Int.le_refl _, fun _ hjj => by omega⟩
      · simp only [if_true]
        exact ⟨0, cg_nil (by decide), by decide, by decide, fun _ _ => Int.le_refl _⟩
  have hr' : 0 ≤ rnd' ∧ rnd' ≤ 900000 := by
    rcases hph with ⟨_, _, rfl⟩ | ⟨_, _, rfl, _⟩
    · omega
    · unfold aftR; split <;> omega
  have hfX : updF f k (some X') k = some X' := updF_same _ _ _
  rw [← ea]
  refine (pt_step H I hfX hn hk (by omega) hc' h0' hK' hKp' (by omega) hr' (fun q e => by rw [hext] at e; cases e) (by rw [em, ee, ej]; exact hj)).mono ?_
  rintro e w' ⟨zs2, M2, y1, y2, y3, hq⟩
  rcases hq with ⟨_, hlt, ⟨q, z, hq1, hq2, _⟩, _⟩ | ⟨rfl, X2, C2, rnd2, Bx2, hl2, ev, had, _, hlg, H2, I2⟩
  · exfalso
    rcases I.h1 q ((I.ok k X' hfX).qlt hq1) z hq2 with ⟨k', _, e2⟩ | ⟨k', Y, _, e2, e3⟩
    · rw [hext] at e2; cases e2
    · rcases updF_inv e2 with ⟨rfl, rfl⟩ | ⟨_, e2⟩
      · obtain ⟨x, e4, e5, _⟩ := e3
        have := nodup_at (I.ok _ _ hfX).nd hq1 e4
        omega
      · rw [hone] at e2; cases e2
  · refine ⟨by rw [em, ee, ej], X2, zs2, M2, C2, rnd2, had.a.trans ea, had.s.q.trans eq, had.s.b.trans eb, had.s.dr.trans ed, by rw [had.s.j, ej], (fun hd => (had.tp (ed.trans hd)).trans (etp hd)), hfk, ?_, fun i hi => y1 i (z1 i hi), fun i hi => (y2 i hi).elim (z2 i) (fun e => .inr (by have := hkx.1; omega)), hkx.trans y3, by rw [updF_upd] at H2; exact H2, Bx2, hl2, by rw [updF_upd] at I2; exact I2⟩
    by_cases hmk : j + 1 = 3 * X.m + X.e
    · obtain ⟨t1, t2, t3, t4⟩ := had.tk (by rw [em, ee, ej]; exact hmk)
      rcases hph with ⟨_, rfl, rfl⟩ | ⟨q1, _⟩
      · refine .inr ⟨by omega, ?_, ?_, t2, fun hd => (t4 (ed.trans hd)).2.2⟩
        · unfold aftC
          cases hd : X.A.dr
          · rw [(t3 (ed.trans hd)).1, eb]; rfl
          · rw [(t4 (ed.trans hd)).1]; rfl
        · unfold aftR
          cases hd : X.A.dr
          · rw [(t3 (ed.trans hd)).2]; rfl
          · rw [(t4 (ed.trans hd)).2.1]; rfl
      · omega
    · obtain ⟨t1, t2, t3⟩ := had.no (by rw [em, ee, ej]; exact hmk)
      subst t1 t2
      rcases hph with ⟨q1, q2, q3⟩ | ⟨q1, q2, q3, q4, q5⟩
      · exact .inl ⟨by omega, q2, q3⟩
      · obtain ⟨t4, t5⟩ := had.af (by rw [em, ee, ej]; exact q1)
        exact .inr ⟨by omega, q2, q3, t5.trans q4, fun hd => t4.trans (q5 hd)⟩
/-- A whole act, alone. -/
theorem ps_finish (h : Ps n0 w0 s p n kk zs xs (updF f k (some X)) ext C rnd M w) (hone : ∀ k', f k' = none) (hext : ∀ q, ext q = none) (hn : 1 ≤ n ∧ n ≤ 8) (hk : k ≤ 1000) (hkk : kk ≤ 80000) (hc : Cg KC NC C) (hb : Cg 576460752303423488 12 X.b) (h0 : 0 ≤ KC) (hK : KC ≤ 576460752303423488) (hKp : X.A.dr = false → KC ≤ 0) (hN : NC ≤ 14000) (hr : 0 ≤ rnd ∧ rnd ≤ 800000) (hj : X.j = 0) (hm8 : X.m ≤ 8) :
    Calls Try.prog 23 #[.pointer (some ⟨X.a, 0, none⟩)] w fun e w' => e = .returned (.bool true) ∧ ∃ X' zs' M', X'.a = X.a ∧ X'.A.ok = true ∧ X'.A.rd = aftR X rnd ∧ 0 < X'.A.mk' ∧ (X.A.dr = true → X'.T = C) ∧ (X.A.dr = false → X'.T = X.T) ∧ X'.D = [] ∧ X'.j = 4 * X'.m + X'.e ∧
      (∀ j ∈ zs, j ∈ zs') ∧ (∀ j ∈ zs', j ∈ zs ∨ w.heap.size ≤ j) ∧ KeepX xs w w' ∧ Ps n0 w0 s p n (kk + 34) zs' xs (updF f k (some X')) ext (aftC X C) (aftR X rnd) M' w' := by
  have hee : 1 ≤ X.e ∧ X.e ≤ 2 := by unfold Ax.e eN; split <;> omega
  refine (plfinish_any (K := 4 * X.m + X.e) (by omega) (by omega) (S := AloS n0 w0 s p n kk zs xs f ext C rnd k X w) ⟨X, zs, M, C, rnd, rfl, rfl, rfl, rfl, hj, fun _ => rfl, hone k, .inl ⟨by omega, rfl, rfl⟩, fun _ h => h, fun _ h => .inl h, KeepX.refl _ _, h⟩ (fun j hj w1 hs => alo_step hone hext hn hk hkk hc hb h0 hK hKp hN hr hj hm8 hs) (fun w1 hs => ?_)).mono ?_
  · obtain ⟨X', zs', M', C', rnd', ea, eq, eb, ed, ej, etp, hfk, hph, z1, z2, hkx, hps⟩ := hs
    have em : X'.m = X.m := by unfold Ax.m; rw [eq]
    have ee : X'.e = X.e := by unfold Ax.e; rw [ed]
    obtain ⟨o1, o2, _, _, o5⟩ := hps.over (updF_same _ _ _)
    have hD := o5.2 (by omega)
    have := plover_any o1 o2
    rw [decide_eq_true hD] at this
    rw [← ea]
    exact this
  · rintro e w1 ⟨rfl, X', zs', M', C', rnd', ea, eq, eb, ed, ej, etp, hfk, hph, z1, z2, hkx, hps⟩
    have em : X'.m = X.m := by unfold Ax.m; rw [eq]
    have ee : X'.e = X.e := by unfold Ax.e; rw [ed]
    rcases hph with ⟨q1, _⟩ | ⟨q1, rfl, rfl, q4, q5⟩
    · omega
    · obtain ⟨o1, o2, o3, o4, o5⟩ := hps.over (updF_same _ _ _)
      have hmk : 0 < X'.A.mk' := by
        obtain ⟨_, Bx, hl, I⟩ := hps
        exact (I.ok k X' (updF_same _ _ _)).m1 (by omega)
      refine ⟨rfl, X', zs', M', ea, o4, q4, hmk, q5, etp, o5.2 (by omega), by omega, z1, z2, hkx, hps.1, ?_⟩
      obtain ⟨_, Bx, hl, I⟩ := hps
      exact ⟨Bx, hl, I.wp.more (by omega), I.ok, I.h1, I.h2, I.h3, I.b1, I.b2⟩
end
end Go.Proofs.Ytmggnalobfihnaa.PlB
