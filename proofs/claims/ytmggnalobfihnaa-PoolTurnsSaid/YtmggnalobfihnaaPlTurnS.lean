/-
  THE LAW PoolTurns: a Step at a round; a Put, a Drain that begin.
-/
import Derived.Test.YtmggnalobfihnaaPlTurnM
namespace Go.Proofs.Ytmggnalobfihnaa.Pl
open Go.RowKit Rw Pk Go.Maps Mm
open Batch (Ch tot sumsE sumsR)
set_option linter.unusedVariables false
/-- What a Step leaves. -/
inductive StK (n0 : Nat) (w0 : World) (s p n r nw wt st P i k b c : Nat) (bl : List Nat) (vB : Value) (f : Nat → Option Ax) (wv : Nat → Value) (wl : Nat → List Ch) (ai : Nat → Nat) (C : List Ch) (rnd : Int) (M : Mm.St) (X : Ax) (e : Ending) (w' : World) : Prop
  | no (zs : List Nat) (Bx : Nat → List Ch) (hl : Nat → Option Int) (M' : Mm.St) (he : e = .returned (.bool false)) (hmk : X.A.mk' = 0) (hlg : M'.lg.length = M.lg.length + 1)
      (tc : Tc n0 w0 s p n r nw wt st (i + 1) zs bl vB f (fun j => ptA (f j)) wv wl ai C C rnd rnd Bx hl M' w') (tp : Tp n P (i + 1) b c f wl ai C rnd hl M'.lg)
  | go (zs : List Nat) (Bx : Nat → List Ch) (hl : Nat → Option Int) (M' : Mm.St) (X' : Ax) (c' : Nat) (he : e = .returned (.bool false)) (ha : X'.a = X.a) (hmk : X'.A.mk' = X.A.mk') (hlg : M'.lg.length = M.lg.length + 1)
      (tc : Tc n0 w0 s p n r nw wt st (i + 1) zs bl vB (updF f k (some X')) (fun j => ptA (updF f k (some X') j)) wv wl ai C C rnd rnd Bx hl M' w') (tp : Tp n P (i + 1) b c' (updF f k (some X')) wl ai C rnd hl M'.lg)
  | over (zs : List Nat) (Bx : Nat → List Ch) (hl : Nat → Option Int) (M' : Mm.St) (X' : Ax) (c' : Nat) (he : e = .returned (.bool true)) (ha : X'.a = X.a) (hmk : X'.A.mk' = X.A.mk') (hm0 : 0 < X.A.mk') (hlg : M'.lg.length = M.lg.length + 1) (hj : X'.j = 4 * X'.m + X'.e) (hT : k = 3 → X'.T = wl 3)
      (tc : Tc n0 w0 s p n r nw wt st (i + 1) zs bl vB (updF f k (some X')) (fun j => ptA (updF f k (some X') j)) wv wl ai C C rnd rnd Bx hl M' w') (tp : Tp n P (i + 1) b c' (updF f k none) wl ai C rnd hl M'.lg)
  | put (zs : List Nat) (Bx : Nat → List Ch) (hl : Nat → Option Int) (M' : Mm.St) (X' : Ax) (c' : Nat) (C' : List Ch) (ov : Bool) (hk : k < 3) (he : e = .returned (.bool ov)) (ha : X'.a = X.a) (hmk : X.A.mk' = 0) (hlg : M'.lg.length = M.lg.length + 1) (hmk' : X'.A.mk' = (M'.lg.length : Int)) (hrd : X'.A.rd = rnd) (hC : C' = sumsR (C ++ wl k)) (hE : sumsE (C ++ wl k) = 0) (hlen : C.length + (wl k).length ≤ 100000) (hwf : ∀ x ∈ C', x.Wf) (hj : ov = true → X'.j = 4 * X'.m + X'.e)
      (tc : Tc n0 w0 s p n r nw wt st (i + 1) zs bl vB (updF f k (some X')) (fun j => ptA (updF f k (some X') j)) wv wl ai C' C rnd rnd Bx hl M' w') (tp : Tp n P (i + 1) b c' (updF f k (if ov then none else some X')) wl ai C' rnd hl M'.lg)
  | drain (zs : List Nat) (Bx : Nat → List Ch) (hl : Nat → Option Int) (M' : Mm.St) (X' : Ax) (c' : Nat) (hk : k = 3) (he : e = .returned (.bool false)) (ha : X'.a = X.a) (hmk : X.A.mk' = 0) (hlg : M'.lg.length = M.lg.length + 1) (hmk' : X'.A.mk' = (M'.lg.length : Int)) (hrd : X'.A.rd = rnd + 1)
      (tc : Tc n0 w0 s p n r nw wt st (i + 1) zs bl vB (updF f k (some X')) (fun j => ptA (updF f k (some X') j)) wv wl ai [] C (rnd + 1) rnd Bx hl M' w') (tp : Tp n P (i + 1) b c' (updF f k (some X')) (upV wl 3 C) ai [] (rnd + 1) hl M'.lg)
section
variable {n0 s p n r nw wt st k P i b c : Nat} {w0 w w' w1 : World} {zs zs' bl : List Nat} {vB v : Value} {f f' : Nat → Option Ax} {nv wv : Nat → Value} {wl : Nat → List Ch} {ai : Nat → Nat} {C C' Cr C1 l : List Ch} {rnd rnd' rr : Int} {Bx Bx' : Nat → List Ch} {hl hl' : Nat → Option Int} {M M' : Mm.St} {X : Ax}
theorem tc_step (h : Tc n0 w0 s p n r nw wt st i zs bl vB f (fun j => ptA (f j)) wv wl ai C C rnd rnd Bx hl M w) (t : Tp n P i b c f wl ai C rnd hl M.lg) (hf : f k = some X) (hn : 1 ≤ n ∧ n ≤ 8) (hi : i ≤ 3000) (hP : P ≤ i → k = i % 4) :
    Calls Try.prog 13 #[.pointer (some ⟨X.a, 0, none⟩)] w (StK n0 w0 s p n r nw wt st P i k b c bl vB f wv wl ai C rnd M X) := by
  obtain ⟨hk4, hjl, hm8, _⟩ := t.fk k X hf
  have hc9 := t.cle
  have hrd := t.rd
  have o := h.iv.ok k X hf
  refine (pt_step h.pt h.iv hf hn (by omega) (by omega) t.cg (by omega) (by omega) (by omega) (by omega) (fun q e => by cases e) hjl).mono ?_
  rintro e w' ⟨zs', M', _, _, hkx, hq⟩
  rcases hq with ⟨rfl, hlt, ⟨q, z, hq1, hq2, hlg⟩, hp, hi'⟩ | ⟨rfl, X', C', rnd', Bx', hl', ev, had, hev, hlg, hp, hi'⟩
  · refine .no zs' Bx hl M' rfl (o.m0 (by omega)) (by rw [hlg]; simp) (h.keep (fun j hj => hkx.2 j hj) hp hi') ?_
    rw [hlg]
    exact t.vain h.iv hP hf ⟨hlt, q, z, hq1, hq2⟩ (by show ¬ ((4 : Int) = 2 ∨ (4 : Int) = 3); decide)
  · obtain ⟨c', tp⟩ := t.adv hf o.cb had hev
    have htc : Tc n0 w0 s p n r nw wt st (i + 1) zs' bl vB (updF f k (some X')) (fun j => ptA (updF f k (some X') j)) wv wl ai C' C rnd' rnd Bx' hl' M' w' := (h.keep (fun j hj => hkx.2 j hj) hp hi').nveq (ptA_same hf had.a)
    have hlen : M'.lg.length = M.lg.length + 1 := by rw [hlg]; simp
    rw [← hlg] at tp
    have sm := had.s.m
    have se := had.s.e
    have sj := had.s.j
    have hee : 1 ≤ X.e ∧ X.e ≤ 2 := by unfold Ax.e eN; split <;> omega
    by_cases hmk : X.j + 1 = 3 * X.m + X.e
    · obtain ⟨t1, t2, t3, t4⟩ := had.tk hmk
      by_cases hk3 : k = 3
      · subst hk3
        obtain ⟨hd, _⟩ := t.fd X hf
        obtain ⟨rfl, rfl, hT⟩ := t4 hd
        have hqr := o.qd hd
        have hmn : X.m = n := by unfold Ax.m; rw [hqr]; simp
        have hne : ¬ X.j + 1 = 4 * X.m + X.e := by omega
        rw [if_pos (show 3 = 3 ∧ X.j + 1 = 3 * X.m + X.e from ⟨rfl, hmk⟩), if_neg hne] at tp
        rw [decide_eq_false hne]
        exact .drain zs' Bx' hl' M' X' c' rfl rfl had.a (o.m0 (by omega)) hlen (by rw [hlen]; exact t1) t2 htc tp
      · obtain ⟨hd, hb⟩ := t.fp k X hf (by omega)
        obtain ⟨rfl, rfl⟩ := t3 hd
        rw [if_neg (show ¬ (k = 3 ∧ X.j + 1 = 3 * X.m + X.e) from fun e => hk3 e.1)] at tp
        have hmg := t.cg.merge o.cb (by omega)
        rw [hb] at hmg tp htc
        refine .put zs' Bx' hl' M' X' c' _ (decide (X.j + 1 = 4 * X.m + X.e)) (by omega) rfl had.a (o.m0 (by omega)) hlen (by rw [hlen]; exact t1) t2 rfl hmg.1 ?_ hmg.2.1.wf (fun hov => ?_) htc ?_
        · have := t.cg.len
          have := o.cb.len
          rw [hb] at this
          omega
        · have := of_decide_eq_true hov
          omega
        · by_cases hov : X.j + 1 = 4 * X.m + X.e
          · rw [if_pos hov] at tp
            rw [decide_eq_true hov]
            exact tp
          · rw [if_neg hov] at tp
            rw [decide_eq_false hov]
            exact tp
    · obtain ⟨rfl, rfl, hmk'⟩ := had.no hmk
      rw [if_neg (show ¬ (k = 3 ∧ X.j + 1 = 3 * X.m + X.e) from fun e => hmk e.2)] at tp
      by_cases hov : X.j + 1 = 4 * X.m + X.e
      · rw [if_pos hov] at tp
        rw [decide_eq_true hov]
        refine .over zs' Bx' hl' M' X' c' rfl had.a hmk' (o.m1 (by omega)) hlen (by omega) (fun hk3 => ?_) htc tp
        subst hk3
        exact (had.af (by omega)).1.trans ((t.fd X hf).2 (by omega))
      · rw [if_neg hov] at tp
        rw [decide_eq_false hov]
        exact .go zs' Bx' hl' M' X' c' rfl had.a hmk' hlen htc tp
/-- A Put begins. -/
theorem tc_put (h : Tc n0 w0 s p n r nw wt st i zs bl vB f nv wv wl ai C C rnd rnd Bx hl M w) (hf : f k = none) (hn : 1 ≤ n ∧ n ≤ 8) (hv : Batch.Sl w v l) (hb : Cg 12000 12 l) :
    Calls Try.prog 9 #[.pointer (some ⟨s, 0, none⟩), .int .i64 (k : Int), v] w fun e w' => ∃ X zs', e = .returned (.pointer (some ⟨X.a, 0, none⟩)) ∧ Fresh false k n l X ∧ Tc n0 w0 s p n r nw wt st i zs' bl vB (updF f k (some X)) nv wv wl ai C C rnd rnd Bx hl M w' := by
  have H := h.pt
  refine (plput_any (fs := zs) H.pq rfl hn.1 hn.2 hv (by have := hb.len; omega) (fun c hc => by have := hb.right.fit c hc; exact ⟨this.1, this.2.1⟩) (k : Int) (by omega)).mono ?_
  rintro e w' ⟨a, rfl, ha, sv, bx, dv, zs', z1, z2, z3, hp⟩
  have hX : ActOk n k C rnd ⟨a, ⟨s, (k : Int), false, sv, bx, dv, .slice none 0 0, 0, true, 0⟩, shB n l, [], shQ n l, l, 0⟩ :=
    ⟨rfl, rfl, shQ_nd n l, fun q hq => shQ_lt hn.1 hq, Nat.zero_le _, (fun h => by cases h), fun _ q hq hno => (by
      by_cases e : shB n l q = []
      · exact e
      · exact absurd (shQ_mem.2 ⟨by omega, e⟩) hno), hb, fun _ => rfl, (fun h => absurd (show 3 * _ + 1 ≤ 0 from h) (by omega)), fun _ _ x q _ => (by rw [if_neg (by show ¬ x + _ < 0; omega)]), (fun h => by cases h), (fun h => by cases h), (fun h => by cases h)⟩
  refine ⟨⟨a, ⟨s, (k : Int), false, sv, bx, dv, .slice none 0 0, 0, true, 0⟩, shB n l, [], shQ n l, l, 0⟩, zs', rfl, ⟨rfl, rfl, rfl, rfl, rfl, rfl⟩, h.keep (fun j hj => hp.fr j (H.x j hj).1 (fun e => by have := H.lt j (H.x j hj).1; omega)) (H.add hf hp ha z1 z3) (h.iv.add hf hX rfl)⟩
/-- A Drain begins. -/
theorem tc_drain (h : Tc n0 w0 s p n r nw wt st i zs bl vB f nv wv wl ai C C rnd rnd Bx hl M w) (hf : f k = none) (hn : 1 ≤ n ∧ n ≤ 8) :
    Calls Try.prog 7 #[.pointer (some ⟨s, 0, none⟩), .int .i64 (k : Int)] w fun e w' => ∃ X zs', e = .returned (.pointer (some ⟨X.a, 0, none⟩)) ∧ Fresh true k n [] X ∧ Tc n0 w0 s p n r nw wt st i zs' bl vB (updF f k (some X)) nv wv wl ai C C rnd rnd Bx hl M w' := by
  have H := h.pt
  refine (pldrain_any (fs := zs) H.pq rfl hn.1 hn.2 (k : Int) (by omega)).mono ?_
  rintro e w' ⟨a, rfl, ha, sv, dv, zs', z1, z2, z3, hp⟩
  have hX : ActOk n k C rnd ⟨a, ⟨s, (k : Int), true, sv, fun _ => .slice none 0 0, dv, .slice none 0 0, 0, true, 0⟩, fun _ => [], [], List.range n, [], 0⟩ :=
    ⟨rfl, rfl, List.nodup_range, fun q hq => List.mem_range.1 hq, Nat.zero_le _, fun _ => rfl, (fun h => by cases h), cg_nil (by decide), fun _ => rfl, (fun h => absurd (show 3 * _ + 2 ≤ 0 from h) (by omega)), (fun h => by cases h), fun _ _ => rfl, fun _ _ => (by
      show ([] : List Ch) = belS n C (min (0 - _) n)
      rw [Nat.zero_sub, Nat.zero_min]
      exact (belS_zero hn.1).symm), fun _ h => (by
      have h' : (0 : Nat) = 3 * _ + 1 := h
      omega)⟩
  refine ⟨⟨a, ⟨s, (k : Int), true, sv, fun _ => .slice none 0 0, dv, .slice none 0 0, 0, true, 0⟩, fun _ => [], [], List.range n, [], 0⟩, zs', rfl, ⟨rfl, rfl, rfl, rfl, rfl, rfl⟩, h.keep (fun j hj => hp.fr j (H.x j hj).1 (fun e => by have := H.lt j (H.x j hj).1; omega)) (H.add hf hp ha z1 z3) (h.iv.add hf hX rfl)⟩
/-- It is over. -/
theorem Tc.fin {X' : Ax} (h : Tc n0 w0 s p n r nw wt st i zs bl vB (updF f k (some X')) (fun j => ptA (updF f k (some X') j)) wv wl ai C C rnd rnd Bx hl M w) (hk : k < 4) (hj : X'.j = 4 * X'.m + X'.e) : Tc n0 w0 s p n r nw wt st i zs bl vB (updF f k none) (fun j => ptA (updF f k none j)) wv wl ai C C rnd rnd Bx hl M (w.setCell ⟨nw, k, none⟩ (.pointer none)) := by
  have h2 := (h.drop (updF_same _ _ _) hj).setN hk (.pointer none)
  rw [updF_upd] at h2
  refine h2.nveq fun j => ?_
  by_cases e : j = k
  · subst e; rw [upV_same, updF_same]; rfl
  · rw [upV_other e, updF_other e, updF_other e]
theorem tmod4n (i : Nat) : ((i : Int)).tmod 4 = ((i % 4 : Nat) : Int) := by rw [Int.tmod_eq_emod_of_nonneg (by omega)]; omega
/-- A new one is laid into its place. -/
theorem Tc.laid {X' : Ax} (h : Tc n0 w0 s p n r nw wt st i zs bl vB (updF f k (some X')) (fun j => ptA (f j)) wv wl ai C Cr rnd rr Bx hl M w) (hk : k < 4) : Tc n0 w0 s p n r nw wt st i zs bl vB (updF f k (some X')) (fun j => ptA (updF f k (some X') j)) wv wl ai C Cr rnd rr Bx hl M (w.setCell ⟨nw, k, none⟩ (.pointer (some ⟨X'.a, 0, none⟩))) :=
  (h.setN hk _).nveq fun j => ptA_upd f k (some X') j
theorem Tc.nowAt (h : Tc n0 w0 s p n r nw wt st i zs bl vB f (fun j => ptA (f j)) wv wl ai C Cr rnd rr Bx hl M w) (hk : k < 4) (hf : f k = some X) : w.cell? ⟨nw, k, none⟩ = some (.pointer (some ⟨X.a, 0, none⟩)) := by
  have h1 := h.cn.cell hk
  simp only [hf] at h1
  exact h1
theorem Tc.nowNone (h : Tc n0 w0 s p n r nw wt st i zs bl vB f (fun j => ptA (f j)) wv wl ai C Cr rnd rr Bx hl M w) (hk : k < 4) (hf : f k = none) : w.cell? ⟨nw, k, none⟩ = some (.pointer none) := by
  have h1 := h.cn.cell hk
  simp only [hf] at h1
  exact h1
theorem Tc.argAt {b o : Nat} {u : Value} (h : Tc n0 w0 s p n r nw wt st i zs bl vB f nv wv wl ai C Cr rnd rr Bx hl M w) (hu : w0.cell? ⟨b, o, none⟩ = some u) (h0 : n0 = w0.heap.size) : w.cell? ⟨b, o, none⟩ = some u := by
  subst h0
  exact (h.kept.cell (p := ⟨b, o, none⟩) (Lib.lt_of_cell hu)).trans hu
/-- What an act tells. -/
theorem Tc.tells (h : Tc n0 w0 s p n r nw wt st i zs bl vB f nv wv wl ai C Cr rnd rr Bx hl M w) (hf : f k = some X) : PaAt w X.a X.A ∧ Rr accK w X.A.dv X.D ∧ Batch.Sl w X.A.tk X.T ∧ X.A.ok = true ∧ (X.D = [] ↔ 4 * X.m + X.e ≤ X.j) :=
  (show Ps n0 w0 s p n i zs _ f (fun _ => none) C rnd M w from ⟨h.pt, _, _, h.iv⟩).over hf
theorem Tc.time (h : Tc n0 w0 s p n r nw wt st i zs bl vB f nv wv wl ai C Cr rnd rr Bx hl M w) :
    Calls Try.prog 12 #[.pointer (some ⟨p, 0, none⟩)] w fun e w' => e = .returned (.int .i64 (M.lg.length : Int)) ∧ w = w' := mz_time h.pt.pq.mz
end
end Go.Proofs.Ytmggnalobfihnaa.Pl
