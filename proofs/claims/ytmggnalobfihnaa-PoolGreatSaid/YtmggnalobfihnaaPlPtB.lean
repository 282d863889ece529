/-
  PACKAGE pool: acts of many beside one Pool, in the memory; a Step of one of them.
-/
import Derived.Test.YtmggnalobfihnaaPlIvB
import Derived.Test.YtmggnalobfihnaaPlPt
namespace Go.Proofs.Ytmggnalobfihnaa.PlB
open Pl
open Go.RowKit Rw Pk Go.Maps Mm
open Batch (Ch tot sumsE sumsR)
set_option linter.unusedVariables false
structure Pt (n0 : Nat) (w0 : World) (s p n : Nat) (zs xs : List Nat) (f : Nat → Option Ax) (M : Mm.St) (w : World) : Prop where
  pq : Pq n0 w0 w zs zs s ⟨p, 2, 1, 1, n⟩ M w
  g : ∀ k X, f k = some X → Pg n0 w0 w zs zs X.a s ⟨p, 2, 1, 1, n⟩ X.A X.P X.D X.B X.T M w
  d : ∀ k k' X X', f k = some X → f k' = some X' → k ≠ k' → X.a ≠ X'.a ∧ ∀ g, Blk X'.A g → g ≠ X.a
  x : ∀ j ∈ xs, j ∈ zs ∧ j ≠ s ∧ n0 ≤ j
  xa : ∀ j ∈ xs, ∀ k X, f k = some X → X.a ≠ j ∧ ¬ Blk X.A j
section
variable {n0 s p n a a' k k' : Nat} {w0 wr w w' : World} {zs zs' xs fs : List Nat} {f : Nat → Option Ax} {M M' : Mm.St} {X X' : Ax} {S : Pi} {A A' : Pa} {P : List Int} {D : List (Int × Int)} {B B' : Nat → List Ch} {T T' : List Ch}
theorem Pt.lt (h : Pt n0 w0 s p n zs xs f M w) : ∀ j ∈ zs, j < w.heap.size := blk_lt h.pq.mz
theorem Pt.below (h : Pt n0 w0 s p n zs xs f M w) (hb : Below w.heap.size w w') : Pt n0 w0 s p n zs xs f M w' :=
  ⟨(h.pq.below hb).rebase (fun j hj => hj), fun k X hf => ((h.g k X hf).below hb).base, h.d, h.x, h.xa⟩
/-- Behind a Step of one. -/
theorem Pt.upd (h : Pt n0 w0 s p n zs xs f M w) (hf : f k = some X) (hp : Pg n0 w0 w zs zs' X.a s ⟨p, 2, 1, 1, n⟩ X'.A X'.P X'.D X'.B X'.T M' w') (ha : X'.a = X.a) (z1 : ∀ j ∈ zs, j ∈ zs') (hb : ∀ g, Blk X'.A g → Blk X.A g ∨ w.heap.size ≤ g) : Pt n0 w0 s p n zs' xs (updF f k (some X')) M' w' := by
  have hX := h.g k X hf
  have hlt := h.lt
  have hk := hp.fr
  have hsz := hp.sz
  refine ⟨⟨hp.mz, hp.pi, hp.sm, fun j hj => hj, fun _ _ => rfl, Nat.le_refl _⟩, fun k' Y hk' => ?_, fun k1 k2 Y1 Y2 h1 h2 hne => ?_, fun j hj => ⟨z1 j (h.x j hj).1, (h.x j hj).2⟩, fun j hj k' Y hk' => ?_⟩
  · rcases updF_inv hk' with ⟨rfl, rfl⟩ | ⟨hne, hk'⟩
    · rw [ha]; exact hp.base
    · obtain ⟨d1, d2⟩ := h.d k k' X Y hf hk' (Ne.symm hne)
      exact (h.g k' Y hk').aside hp.mz hk (Ne.symm d1) (Ne.symm hX.ne) d2 z1 hsz
  · rcases updF_inv h1 with ⟨rfl, rfl⟩ | ⟨n1, h1'⟩
    · rcases updF_inv h2 with ⟨rfl, rfl⟩ | ⟨n2, h2'⟩
      · exact absurd rfl hne
      · obtain ⟨d1, d2⟩ := h.d _ k2 X Y2 hf h2' hne
        rw [ha]
        exact ⟨d1, d2⟩
    · rcases updF_inv h2 with ⟨rfl, rfl⟩ | ⟨n2, h2'⟩
      · obtain ⟨d1, d2⟩ := h.d k1 _ Y1 X h1' hf hne
        rw [ha]
        refine ⟨d1, fun g hg => ?_⟩
        rcases hb g hg with e | e
        · exact d2 g e
        · have := (h.g k1 Y1 h1').pa.lt
          omega
      · exact h.d k1 k2 Y1 Y2 h1' h2' hne
  · rcases updF_inv hk' with ⟨rfl, rfl⟩ | ⟨hne, hk'⟩
    · obtain ⟨e1, e2⟩ := h.xa j hj _ X hf
      rw [ha]
      refine ⟨e1, fun hg => ?_⟩
      rcases hb j hg with e | e
      · exact e2 e
      · have := hlt j (h.x j hj).1
        omega
    · exact h.xa j hj k' Y hk'
/-- A new act. -/
theorem Pt.add (h : Pt n0 w0 s p n zs xs f M w) (hf : f k = none) (hp : Pg n0 w0 w zs zs' X.a s ⟨p, 2, 1, 1, n⟩ X.A X.P X.D X.B X.T M' w') (ha : w.heap.size ≤ X.a) (z1 : ∀ j ∈ zs, j ∈ zs') (hb : ∀ g, Blk X.A g → w.heap.size ≤ g) : Pt n0 w0 s p n zs' xs (updF f k (some X)) M' w' := by
  have hlt := h.lt
  have hk := hp.fr
  have hsz := hp.sz
  have hne : ∀ k' Y, f k' = some Y → k' ≠ k := fun k' Y hk' e => by subst e; rw [hf] at hk'; cases hk'
  refine ⟨⟨hp.mz, hp.pi, hp.sm, fun j hj => hj, fun _ _ => rfl, Nat.le_refl _⟩, fun k' Y hk' => ?_, fun k1 k2 Y1 Y2 h1 h2 hnk => ?_, fun j hj => ⟨z1 j (h.x j hj).1, (h.x j hj).2⟩, fun j hj k' Y hk' => ?_⟩
  · rcases updF_inv hk' with ⟨rfl, rfl⟩ | ⟨hne, hk'⟩
    · exact hp.base
    · have hY := h.g k' Y hk'
      have := hY.pa.lt
      have := hY.pi.lt
      exact hY.aside hp.mz hk (by omega) (by omega) (fun g hg => by have := hlt g (hY.bl g hg).1; omega) z1 hsz
  · rcases updF_inv h1 with ⟨rfl, rfl⟩ | ⟨n1, h1'⟩
    · rcases updF_inv h2 with ⟨rfl, rfl⟩ | ⟨n2, h2'⟩
      · exact absurd rfl hnk
      · have hY := h.g k2 Y2 h2'
        have := hY.pa.lt
        exact ⟨by omega, fun g hg => by have := hlt g (hY.bl g hg).1; omega⟩
    · rcases updF_inv h2 with ⟨rfl, rfl⟩ | ⟨n2, h2'⟩
      · have hY := h.g k1 Y1 h1'
        have := hY.pa.lt
        exact ⟨by omega, fun g hg => by have := hb g hg; omega⟩
      · exact h.d k1 k2 Y1 Y2 h1' h2' hnk
  · rcases updF_inv hk' with ⟨rfl, rfl⟩ | ⟨hne, hk'⟩
    · have := hlt j (h.x j hj).1
      exact ⟨by omega, fun hg => by have := hb j hg; omega⟩
    · exact h.xa j hj k' Y hk'
/-- One is gone. -/
theorem Pt.drop (h : Pt n0 w0 s p n zs xs f M w) (k : Nat) : Pt n0 w0 s p n zs xs (updF f k none) M w := by
  have hin : ∀ k' Y, updF f k none k' = some Y → f k' = some Y := fun k' Y hk' => by
    by_cases e : k' = k
    · subst e; rw [updF_same] at hk'; cases hk'
    · rwa [updF_other e] at hk'
  exact ⟨h.pq, fun k' Y hk' => h.g k' Y (hin k' Y hk'), fun k1 k2 Y1 Y2 h1 h2 hne => h.d k1 k2 Y1 Y2 (hin _ _ h1) (hin _ _ h2) hne, h.x, fun j hj k' Y hk' => h.xa j hj k' Y (hin k' Y hk')⟩
/-- A store to one of the blocks beside them. -/
theorem Pt.store (h : Pt n0 w0 s p n zs xs f M w) {g : Nat} (hg : g ∈ xs) (o : Nat) (u : Value) : Pt n0 w0 s p n zs xs f M (w.setCell ⟨g, o, none⟩ u) := by
  obtain ⟨e1, e2, e3⟩ := h.x g hg
  have hk : ∀ j, j ≠ g → (w.setCell ⟨g, o, none⟩ u).heap[j]? = w.heap[j]? := fun j hj => Below.heap_setCell _ _ _ _ hj
  have hm := h.pq.mz.store e1 e3 o u
  have hz : w.heap.size ≤ (w.setCell ⟨g, o, none⟩ u).heap.size := Nat.le_of_eq (Mm.size_setCell _ _ _).symm
  refine ⟨⟨hm, h.pq.pi.of_block (hk s (Ne.symm e2)), h.pq.sm, fun j hj => hj, fun _ _ => rfl, Nat.le_refl _⟩, fun k X hf => ?_, h.d, h.x, h.xa⟩
  obtain ⟨x1, x2⟩ := h.xa g hg k X hf
  exact (h.g k X hf).aside hm (fun j _ hj => hk j hj) x1 (Ne.symm e2) (fun b hb e => x2 (e ▸ hb)) (fun j hj => hj) hz
/-- More blocks beside them. -/
theorem Pt.all (h : Pt n0 w0 s p n zs xs f M w) (hb : Below w.heap.size w w') : Pt n0 w0 s p n (List.range' w.heap.size (w'.heap.size - w.heap.size) ++ zs) xs f M w' :=
  ⟨(h.pq.all hb).rebase (fun j hj => hj), fun k X hf => ((h.g k X hf).all hb).base, h.d, fun j hj => ⟨blk_old j (h.x j hj).1, (h.x j hj).2⟩, h.xa⟩
theorem Pt.more (h : Pt n0 w0 s p n zs xs f M w) {g : Nat} (hz : g ∈ zs) (hs : g ≠ s) (hn : n0 ≤ g) (ha : ∀ k X, f k = some X → X.a ≠ g ∧ ¬ Blk X.A g) : Pt n0 w0 s p n zs (g :: xs) f M w :=
  ⟨h.pq, h.g, h.d, fun j hj => (List.mem_cons.1 hj).elim (fun e => e ▸ ⟨hz, hs, hn⟩) (h.x j), fun j hj k X hf => (List.mem_cons.1 hj).elim (fun e => e ▸ ha k X hf) (fun hj => h.xa j hj k X hf)⟩
end
theorem mk_before {A : Pa} {dr : Bool} {Q : List Nat} {j : Nat} {t : Int} (ho : A.ok = true) (h : j < 3 * Q.length + eN dr) : mkP A ((fullD dr Q).drop j) t = A := by
  unfold mkP
  rw [ho, te_before dr h, if_neg (by simp)]
theorem mk_at {A : Pa} {dr : Bool} {Q : List Nat} {j : Nat} {t : Int} (ho : A.ok = true) (hm : A.mk' = 0) (h : 3 * Q.length + eN dr ≤ j) : mkP A ((fullD dr Q).drop j) t = { A with mk' := t } := by
  unfold mkP
  rw [ho, te_at dr h, if_pos ⟨hm, rfl⟩]
theorem mk_after {A : Pa} {D : List (Int × Int)} {t : Int} (hm : 0 < A.mk') : mkP A D t = A := by
  unfold mkP
  rw [if_neg (fun h => by have := h.1; omega)]
/-- An access that was made. -/
structure Adv (X X' : Ax) (C : List Ch) (rnd : Int) (C' : List Ch) (rnd' t : Int) : Prop where
  a : X'.a = X.a
  s : Same X X'
  no : X.j + 1 ≠ 3 * X.m + X.e → C' = C ∧ rnd' = rnd ∧ X'.A.mk' = X.A.mk'
  tk : X.j + 1 = 3 * X.m + X.e → X'.A.mk' = t ∧ X'.A.rd = rnd' ∧ (X.A.dr = false → C' = sumsR (C ++ X.b) ∧ rnd' = rnd) ∧ (X.A.dr = true → C' = [] ∧ rnd' = rnd + 1 ∧ X'.T = C)
  af : 3 * X.m + X.e ≤ X.j → X'.T = X.T ∧ X'.A.rd = X.A.rd
  tp : X.A.dr = false → X'.T = X.T
/-- Which access it is. -/
def EvF (k : Nat) (hl hl' : Nat → Option Int) (ev : Ev) : Prop :=
  ev.w = (k : Int) ∧ ev.ok = true ∧
  ((ev.k = 4 ∧ ∃ q : Nat, ev.a = 1 + (q : Int) ∧ hl q = none ∧ hl' = updH hl q (some (k : Int))) ∨
   (ev.k = 5 ∧ ∃ q : Nat, ev.a = 1 + (q : Int) ∧ hl q = some (k : Int) ∧ hl' = updH hl q none) ∨
   ((ev.k = 2 ∨ ev.k = 3) ∧ ∃ q : Nat, ev.a = 1 + (q : Int) ∧ hl q = some (k : Int) ∧ hl' = hl) ∨
   ((ev.k = 0 ∨ ev.k = 1) ∧ hl' = hl))
/-- What the law has beside is as it was. -/
def KeepX (xs : List Nat) (w w' : World) : Prop := w.heap.size ≤ w'.heap.size ∧ ∀ j ∈ xs, w'.heap[j]? = w.heap[j]?
theorem KeepX.refl (xs : List Nat) (w : World) : KeepX xs w w := ⟨Nat.le_refl _, fun _ _ => rfl⟩
theorem KeepX.trans {xs : List Nat} {w w' w'' : World} (h : KeepX xs w w') (g : KeepX xs w' w'') : KeepX xs w w'' := ⟨Nat.le_trans h.1 g.1, fun j hj => (g.2 j hj).trans (h.2 j hj)⟩
/-- Behind a Step of one. -/
def PtQ (n0 : Nat) (w0 : World) (s p n kk : Nat) (zs xs : List Nat) (f : Nat → Option Ax) (ext : Nat → Option Nat) (C : List Ch) (rnd : Int) (Bx : Nat → List Ch) (hl : Nat → Option Int) (M : Mm.St) (k : Nat) (X : Ax) (w : World) (e : Ending) (w' : World) : Prop :=
  ∃ zs' M', (∀ j ∈ zs, j ∈ zs') ∧ (∀ j ∈ zs', j ∈ zs ∨ w.heap.size ≤ j) ∧ KeepX xs w w' ∧
   ((e = .returned (.bool false) ∧ X.j < X.m ∧ (∃ (q : Nat) (z : Int), X.Q[X.j]? = some q ∧ hl q = some z ∧ M'.lg = M.lg ++ [⟨(k : Int), 4, 1 + (q : Int), false⟩]) ∧ Pt n0 w0 s p n zs' xs f M' w' ∧ Iv n (kk + 1) f ext C rnd Bx hl M') ∨
    (e = .returned (.bool (decide (X.j + 1 = 4 * X.m + X.e))) ∧ ∃ X' C' rnd' Bx' hl' ev, Adv X X' C rnd C' rnd' ((M.lg.length + 1 : Nat) : Int) ∧ EvF k hl hl' ev ∧ M'.lg = M.lg ++ [ev] ∧ Pt n0 w0 s p n zs' xs (updF f k (some X')) M' w' ∧ Iv n (kk + 1) (updF f k (some X')) ext C' rnd' Bx' hl' M'))
section
variable {n0 s p n kk k : Nat} {w0 w : World} {zs xs : List Nat} {f : Nat → Option Ax} {ext : Nat → Option Nat} {C : List Ch} {rnd : Int} {Bx : Nat → List Ch} {hl : Nat → Option Int} {M : Mm.St} {X : Ax} {KC : Int} {NC : Nat}
theorem dec_end (dr : Bool) (Q : List Nat) (j : Nat) : decide ((fullD dr Q).drop j = []) = decide (4 * Q.length + eN dr ≤ j) := by
  by_cases h : 4 * Q.length + eN dr ≤ j
  · rw [decide_eq_true h, decide_eq_true (drop_end dr |>.2 h)]
  · rw [decide_eq_false h, decide_eq_false (fun e => h (drop_end dr |>.1 e))]
theorem pt_take (H : Pt n0 w0 s p n zs xs f M w) (I : Iv n kk f ext C rnd Bx hl M) (hf : f k = some X) (hn : 1 ≤ n ∧ n ≤ 8) (hk : k ≤ 1000) (hkk : kk ≤ 90000) (hc : Cg KC NC C) (h0 : 0 ≤ KC) (hK : KC ≤ 576460752303423488) (hKp : X.A.dr = false → X.j < 3 * X.m + X.e → KC ≤ 0) (hN : NC ≤ 15000) (hr : 0 ≤ rnd ∧ rnd ≤ 900000) (hext : ∀ q, ext q ≠ some k) (hend : X.j < 4 * X.m + X.e) (hj : X.j < X.m) {q : Nat} (hq : X.Q[X.j]? = some q) (hfree : hl q = none) :
    Calls Try.prog 13 #[.pointer (some ⟨X.a, 0, none⟩)] w (PtQ n0 w0 s p n kk zs xs f ext C rnd Bx hl M k X w) := by
  have o := I.ok k X hf
  have G := H.g k X hf
  have hwho : 0 ≤ X.A.who ∧ X.A.who ≤ 1000 := by rw [o.who]; omega
  have hee : 1 ≤ X.e ∧ X.e ≤ 2 := by unfold Ax.e eN; split <;> omega
  have hqn := o.qlt hq
  have hD : X.D = (4, (q : Int)) :: (fullD X.A.dr X.Q).drop (X.j + 1) := drop_of (full_4 X.A.dr hq)
  rw [hD] at G
  refine (ps_take G I.wp hwho hqn hn.2 hkk hfree).mono ?_
  rintro e w' ⟨rfl, M', zs', bx, tk, dv, hW, hlg, z1, z2, hb, hp⟩
  have hdec := dec_end X.A.dr X.Q (X.j + 1)
  rw [mk_before (by exact o.ok) (by show X.j + 1 < 3 * X.m + X.e; omega)] at hp
  rw [o.who] at hW hlg
  have hS : Same X ⟨X.a, { X.A with bx := bx, tk := tk, rd := X.A.rd, dv := dv }, X.B, X.T, X.Q, X.b, X.j + 1⟩ := ⟨rfl, rfl, rfl, rfl, rfl, rfl⟩
  have hP := H.upd hf (X' := ⟨X.a, { X.A with bx := bx, tk := tk, rd := X.A.rd, dv := dv }, X.B, X.T, X.Q, X.b, X.j + 1⟩) hp rfl z1 hb
  refine ⟨zs', M', z1, z2, ⟨hp.sz, fun j hj => hp.fr j (H.x j hj).1 (fun e => (H.xa j hj k X hf).1 e.symm)⟩, .inr ⟨?_, ⟨X.a, { X.A with bx := bx, tk := tk, rd := X.A.rd, dv := dv }, X.B, X.T, X.Q, X.b, X.j + 1⟩, C, rnd, Bx, (updH hl q (some (k : Int))), _, ⟨rfl, hS, fun _ => ⟨rfl, rfl, rfl⟩, (fun hh => by omega), (fun hh => by omega), fun _ => rfl⟩, ⟨rfl, rfl, .inl ⟨rfl, q, rfl, hfree, rfl⟩⟩, hlg, hP, I.take hf hS hq hfree rfl rfl rfl rfl hW⟩⟩
  rw [hdec]
  congr 2
  have : 4 * X.Q.length + eN X.A.dr = 4 * X.m + X.e := rfl
  have h2 := hend
  by_cases q : X.j + 1 = 4 * X.m + X.e
  · rw [decide_eq_true q, decide_eq_true (by omega)]
  · rw [decide_eq_false q, decide_eq_false (by omega)]
theorem pt_no (H : Pt n0 w0 s p n zs xs f M w) (I : Iv n kk f ext C rnd Bx hl M) (hf : f k = some X) (hn : 1 ≤ n ∧ n ≤ 8) (hk : k ≤ 1000) (hkk : kk ≤ 90000) (hc : Cg KC NC C) (h0 : 0 ≤ KC) (hK : KC ≤ 576460752303423488) (hKp : X.A.dr = false → X.j < 3 * X.m + X.e → KC ≤ 0) (hN : NC ≤ 15000) (hr : 0 ≤ rnd ∧ rnd ≤ 900000) (hext : ∀ q, ext q ≠ some k) (hend : X.j < 4 * X.m + X.e) (hj : X.j < X.m) {q : Nat} {z : Int} (hq : X.Q[X.j]? = some q) (hfree : hl q = some z) (hz : 0 ≤ z) :
    Calls Try.prog 13 #[.pointer (some ⟨X.a, 0, none⟩)] w (PtQ n0 w0 s p n kk zs xs f ext C rnd Bx hl M k X w) := by
  have o := I.ok k X hf
  have G := H.g k X hf
  have hwho : 0 ≤ X.A.who ∧ X.A.who ≤ 1000 := by rw [o.who]; omega
  have hee : 1 ≤ X.e ∧ X.e ≤ 2 := by unfold Ax.e eN; split <;> omega
  have hqn := o.qlt hq
  have hD : X.D = (4, (q : Int)) :: (fullD X.A.dr X.Q).drop (X.j + 1) := drop_of (full_4 X.A.dr hq)
  rw [hD] at G
  refine (ps_takeno G I.wp hwho hqn hn.2 hkk hfree hz).mono ?_
  rintro e w' ⟨rfl, zs', z1, z2, hW, hp⟩
  rw [← hD] at hp
  rw [o.who] at hW hp
  have hP := H.upd hf hp rfl z1 (fun g hg => .inl hg)
  have e1 : updF f k (some X) = f := by
    funext i
    by_cases e : i = k
    · subst e; rw [updF_same, hf]
    · rw [updF_other e]
  rw [e1] at hP
  exact ⟨zs', _, z1, z2, ⟨hp.sz, fun j hj => hp.fr j (H.x j hj).1 (fun e => (H.xa j hj k X hf).1 e.symm)⟩, .inl ⟨rfl, hj, ⟨q, z, hq, hfree, rfl⟩, hP, I.no hW⟩⟩
theorem pt_getp (H : Pt n0 w0 s p n zs xs f M w) (I : Iv n kk f ext C rnd Bx hl M) (hf : f k = some X) (hn : 1 ≤ n ∧ n ≤ 8) (hk : k ≤ 1000) (hkk : kk ≤ 90000) (hc : Cg KC NC C) (h0 : 0 ≤ KC) (hK : KC ≤ 576460752303423488) (hKp : X.A.dr = false → X.j < 3 * X.m + X.e → KC ≤ 0) (hN : NC ≤ 15000) (hr : 0 ≤ rnd ∧ rnd ≤ 900000) (hext : ∀ q, ext q ≠ some k) (hend : X.j < 4 * X.m + X.e) (hdr : X.A.dr = false) {x q : Nat} (hj : X.j = X.m + x) (hq : X.Q[x]? = some q) :
    Calls Try.prog 13 #[.pointer (some ⟨X.a, 0, none⟩)] w (PtQ n0 w0 s p n kk zs xs f ext C rnd Bx hl M k X w) := by
  have hxm0 := ActOk.xlt hq
  have hee0 : 1 ≤ X.e := by unfold Ax.e eN; split <;> omega
  have hK0 := hKp hdr (by omega)
  have o := I.ok k X hf
  have G := H.g k X hf
  have hwho : 0 ≤ X.A.who ∧ X.A.who ≤ 1000 := by rw [o.who]; omega
  have hee : 1 ≤ X.e ∧ X.e ≤ 2 := by unfold Ax.e eN; split <;> omega
  have hqn := o.qlt hq
  have hxm := ActOk.xlt hq
  have he1 : X.e = 1 := by unfold Ax.e eN; rw [hdr]; rfl
  have hbx : Bx q = shB n C q := I.boxC hf ⟨x, hq, by omega, by omega⟩ (by rintro ⟨y, e1, e2, e3⟩; omega) hqn
  have hbq : X.B q = shB n X.b q := by rw [o.bp hdr (by omega) x q hq, if_neg (by omega)]
  have g1 := hc.sh (n := n) h0 q
  have g2 := o.cb.sh (n := n) (by decide) q
  have g3 := g1.merge g2 (by omega)
  have hat := full_2 X.A.dr hq
  rw [show X.Q.length + x = X.j from hj.symm] at hat
  have hD : X.D = (2, (q : Int)) :: (fullD X.A.dr X.Q).drop (X.j + 1) := drop_of hat
  rw [hD] at G
  refine (ps_getp G I.wp hwho hqn hn.2 hkk hdr (by rw [hbq]; exact g2.sorted) (by rw [hbx]; exact g1.sorted) (by rw [hbq]; have := g2.len; omega) (by rw [hbq, hbx]; exact g3.1)).mono ?_
  rintro e w' ⟨rfl, M', zs', bx, tk, dv, hW, hlg, z1, z2, hb, hp⟩
  have hdec := dec_end X.A.dr X.Q (X.j + 1)
  rw [mk_before (by exact o.ok) (by show X.j + 1 < 3 * X.m + X.e; omega)] at hp
  rw [o.who] at hlg
  have hS : Same X ⟨X.a, { X.A with bx := bx, tk := tk, rd := X.A.rd, dv := dv }, (boxB X.B q (sumsR (Bx q ++ X.B q))), X.T, X.Q, X.b, X.j + 1⟩ := ⟨rfl, rfl, rfl, rfl, rfl, rfl⟩
  have hP := H.upd hf (X' := ⟨X.a, { X.A with bx := bx, tk := tk, rd := X.A.rd, dv := dv }, (boxB X.B q (sumsR (Bx q ++ X.B q))), X.T, X.Q, X.b, X.j + 1⟩) hp rfl z1 hb
  refine ⟨zs', M', z1, z2, ⟨hp.sz, fun j hj => hp.fr j (H.x j hj).1 (fun e => (H.xa j hj k X hf).1 e.symm)⟩, .inr ⟨?_, ⟨X.a, { X.A with bx := bx, tk := tk, rd := X.A.rd, dv := dv }, (boxB X.B q (sumsR (Bx q ++ X.B q))), X.T, X.Q, X.b, X.j + 1⟩, C, rnd, Bx, hl, _, ⟨rfl, hS, fun _ => ⟨rfl, rfl, rfl⟩, (fun hh => by omega), (fun hh => by omega), fun _ => rfl⟩, ⟨rfl, rfl, .inr (.inr (.inl ⟨.inl rfl, q, rfl, I.h2 k X q hf ⟨x, hq, by omega, by omega⟩, rfl⟩))⟩, hlg, hP, I.getp hf hS hdr hj hq rfl rfl rfl hW⟩⟩
  rw [hdec]
  congr 2
  have : 4 * X.Q.length + eN X.A.dr = 4 * X.m + X.e := rfl
  have h2 := hend
  by_cases q : X.j + 1 = 4 * X.m + X.e
  · rw [decide_eq_true q, decide_eq_true (by omega)]
  · rw [decide_eq_false q, decide_eq_false (by omega)]
theorem pt_getd (H : Pt n0 w0 s p n zs xs f M w) (I : Iv n kk f ext C rnd Bx hl M) (hf : f k = some X) (hn : 1 ≤ n ∧ n ≤ 8) (hk : k ≤ 1000) (hkk : kk ≤ 90000) (hc : Cg KC NC C) (h0 : 0 ≤ KC) (hK : KC ≤ 576460752303423488) (hKp : X.A.dr = false → X.j < 3 * X.m + X.e → KC ≤ 0) (hN : NC ≤ 15000) (hr : 0 ≤ rnd ∧ rnd ≤ 900000) (hext : ∀ q, ext q ≠ some k) (hend : X.j < 4 * X.m + X.e) (hdr : X.A.dr = true) {x q : Nat} (hj : X.j = X.m + x) (hq : X.Q[x]? = some q) :
    Calls Try.prog 13 #[.pointer (some ⟨X.a, 0, none⟩)] w (PtQ n0 w0 s p n kk zs xs f ext C rnd Bx hl M k X w) := by
  have o := I.ok k X hf
  have G := H.g k X hf
  have hwho : 0 ≤ X.A.who ∧ X.A.who ≤ 1000 := by rw [o.who]; omega
  have hee : 1 ≤ X.e ∧ X.e ≤ 2 := by unfold Ax.e eN; split <;> omega
  have hqn := o.qlt hq
  have hxm := ActOk.xlt hq
  have he2 : X.e = 2 := by unfold Ax.e eN; rw [hdr]; rfl
  have hbx : Bx q = shB n C q := I.boxC hf ⟨x, hq, by omega, by omega⟩ (by rintro ⟨y, e1, e2, e3⟩; omega) hqn
  have g1 := hc.sh (n := n) h0 q
  have g2 := belS_cg (n := n) hc h0 (min (X.j - X.m) n)
  have hT := o.td hdr (by omega)
  have hat := full_2 X.A.dr hq
  rw [show X.Q.length + x = X.j from hj.symm] at hat
  have hD : X.D = (2, (q : Int)) :: (fullD X.A.dr X.Q).drop (X.j + 1) := drop_of hat
  rw [hD] at G
  refine (ps_getd G I.wp hwho hqn hn.2 hkk hdr (by rw [hT]; exact g2.sorted) (by rw [hbx]; exact g1.sorted) (by rw [hT]; have := g2.len; omega)).mono ?_
  rintro e w' ⟨rfl, M', zs', bx, tk, dv, hW, hlg, z1, z2, hb, hp⟩
  have hdec := dec_end X.A.dr X.Q (X.j + 1)
  rw [mk_before (by exact o.ok) (by show X.j + 1 < 3 * X.m + X.e; omega)] at hp
  rw [o.who] at hlg
  have hS : Same X ⟨X.a, { X.A with bx := bx, tk := tk, rd := X.A.rd, dv := dv }, X.B, (sumsR (X.T ++ Bx q)), X.Q, X.b, X.j + 1⟩ := ⟨rfl, rfl, rfl, rfl, rfl, rfl⟩
  have hP := H.upd hf (X' := ⟨X.a, { X.A with bx := bx, tk := tk, rd := X.A.rd, dv := dv }, X.B, (sumsR (X.T ++ Bx q)), X.Q, X.b, X.j + 1⟩) hp rfl z1 hb
  refine ⟨zs', M', z1, z2, ⟨hp.sz, fun j hj => hp.fr j (H.x j hj).1 (fun e => (H.xa j hj k X hf).1 e.symm)⟩, .inr ⟨?_, ⟨X.a, { X.A with bx := bx, tk := tk, rd := X.A.rd, dv := dv }, X.B, (sumsR (X.T ++ Bx q)), X.Q, X.b, X.j + 1⟩, C, rnd, Bx, hl, _, ⟨rfl, hS, fun _ => ⟨rfl, rfl, rfl⟩, (fun hh => by omega), (fun hh => by omega), (fun hh => by rw [hdr] at hh; cases hh)⟩, ⟨rfl, rfl, .inr (.inr (.inl ⟨.inl rfl, q, rfl, I.h2 k X q hf ⟨x, hq, by omega, by omega⟩, rfl⟩))⟩, hlg, hP, I.getd hf hS hdr hj hq hc h0 (by omega) rfl rfl rfl hW⟩⟩
  rw [hdec]
  congr 2
  have : 4 * X.Q.length + eN X.A.dr = 4 * X.m + X.e := rfl
  have h2 := hend
  by_cases q : X.j + 1 = 4 * X.m + X.e
  · rw [decide_eq_true q, decide_eq_true (by omega)]
  · rw [decide_eq_false q, decide_eq_false (by omega)]
theorem pt_set (H : Pt n0 w0 s p n zs xs f M w) (I : Iv n kk f ext C rnd Bx hl M) (hf : f k = some X) (hn : 1 ≤ n ∧ n ≤ 8) (hk : k ≤ 1000) (hkk : kk ≤ 90000) (hc : Cg KC NC C) (h0 : 0 ≤ KC) (hK : KC ≤ 576460752303423488) (hKp : X.A.dr = false → X.j < 3 * X.m + X.e → KC ≤ 0) (hN : NC ≤ 15000) (hr : 0 ≤ rnd ∧ rnd ≤ 900000) (hext : ∀ q, ext q ≠ some k) (hend : X.j < 4 * X.m + X.e) {x q : Nat} (hj : X.j = 2 * X.m + x) (hq : X.Q[x]? = some q) :
    Calls Try.prog 13 #[.pointer (some ⟨X.a, 0, none⟩)] w (PtQ n0 w0 s p n kk zs xs f ext C rnd Bx hl M k X w) := by
  have o := I.ok k X hf
  have G := H.g k X hf
  have hwho : 0 ≤ X.A.who ∧ X.A.who ≤ 1000 := by rw [o.who]; omega
  have hee : 1 ≤ X.e ∧ X.e ≤ 2 := by unfold Ax.e eN; split <;> omega
  have hqn := o.qlt hq
  have hxm := ActOk.xlt hq
  have hlen : (X.B q).length ≤ 20000 := by
    cases e : X.A.dr
    · have he1 : X.e = 1 := by unfold Ax.e eN; rw [e]; rfl
      rw [o.bp e (by omega) x q hq, if_pos (by omega)]
      have hK0 := hKp e (by omega)
      have := ((hc.sh (n := n) h0 q).merge (o.cb.sh (n := n) (by decide) q) (by omega)).2.1.len
      omega
    · rw [o.bd e q]; simp
  have hat := full_3 X.A.dr hq
  rw [show 2 * X.Q.length + x = X.j from hj.symm] at hat
  have hD : X.D = (3, (q : Int)) :: (fullD X.A.dr X.Q).drop (X.j + 1) := drop_of hat
  rw [hD] at G
  refine (ps_set G I.wp hwho hqn hn.2 hkk hlen).mono ?_
  rintro e w' ⟨rfl, M', zs', bx, tk, dv, hW, hlg, z1, z2, hb, hp⟩
  have hdec := dec_end X.A.dr X.Q (X.j + 1)
  rw [mk_before (by exact o.ok) (by show X.j + 1 < 3 * X.m + X.e; omega)] at hp
  rw [o.who] at hlg
  have hS : Same X ⟨X.a, { X.A with bx := bx, tk := tk, rd := X.A.rd, dv := dv }, X.B, X.T, X.Q, X.b, X.j + 1⟩ := ⟨rfl, rfl, rfl, rfl, rfl, rfl⟩
  have hP := H.upd hf (X' := ⟨X.a, { X.A with bx := bx, tk := tk, rd := X.A.rd, dv := dv }, X.B, X.T, X.Q, X.b, X.j + 1⟩) hp rfl z1 hb
  refine ⟨zs', M', z1, z2, ⟨hp.sz, fun j hj => hp.fr j (H.x j hj).1 (fun e => (H.xa j hj k X hf).1 e.symm)⟩, .inr ⟨?_, ⟨X.a, { X.A with bx := bx, tk := tk, rd := X.A.rd, dv := dv }, X.B, X.T, X.Q, X.b, X.j + 1⟩, C, rnd, (boxB Bx q (X.B q)), hl, _, ⟨rfl, hS, fun _ => ⟨rfl, rfl, rfl⟩, (fun hh => by omega), (fun hh => by omega), fun _ => rfl⟩, ⟨rfl, rfl, .inr (.inr (.inl ⟨.inr rfl, q, rfl, I.h2 k X q hf ⟨x, hq, by omega, by omega⟩, rfl⟩))⟩, hlg, hP, I.set hf hS hj hq rfl rfl rfl hW⟩⟩
  rw [hdec]
  congr 2
  have : 4 * X.Q.length + eN X.A.dr = 4 * X.m + X.e := rfl
  have h2 := hend
  by_cases q : X.j + 1 = 4 * X.m + X.e
  · rw [decide_eq_true q, decide_eq_true (by omega)]
  · rw [decide_eq_false q, decide_eq_false (by omega)]
theorem pt_loadd (H : Pt n0 w0 s p n zs xs f M w) (I : Iv n kk f ext C rnd Bx hl M) (hf : f k = some X) (hn : 1 ≤ n ∧ n ≤ 8) (hk : k ≤ 1000) (hkk : kk ≤ 90000) (hc : Cg KC NC C) (h0 : 0 ≤ KC) (hK : KC ≤ 576460752303423488) (hKp : X.A.dr = false → X.j < 3 * X.m + X.e → KC ≤ 0) (hN : NC ≤ 15000) (hr : 0 ≤ rnd ∧ rnd ≤ 900000) (hext : ∀ q, ext q ≠ some k) (hend : X.j < 4 * X.m + X.e) (hdr : X.A.dr = true) (hj : X.j = 3 * X.m) :
    Calls Try.prog 13 #[.pointer (some ⟨X.a, 0, none⟩)] w (PtQ n0 w0 s p n kk zs xs f ext C rnd Bx hl M k X w) := by
  have o := I.ok k X hf
  have G := H.g k X hf
  have hwho : 0 ≤ X.A.who ∧ X.A.who ≤ 1000 := by rw [o.who]; omega
  have hee : 1 ≤ X.e ∧ X.e ≤ 2 := by unfold Ax.e eN; split <;> omega
  have he2 : X.e = 2 := by unfold Ax.e eN; rw [hdr]; rfl
  have hat := full_0 (Q := X.Q) X.A.dr
  rw [show 3 * X.Q.length = X.j from hj.symm] at hat
  have hD : X.D = (0, 0) :: (fullD X.A.dr X.Q).drop (X.j + 1) := drop_of hat
  rw [hD] at G
  refine (ps_load G I.wp hwho hn.2 hkk).mono ?_
  rintro e w' ⟨rfl, M', zs', bx, tk, dv, hW, hlg, z1, z2, hb, hp⟩
  have hdec := dec_end X.A.dr X.Q (X.j + 1)
  rw [mk_before (by exact o.ok) (by show X.j + 1 < 3 * X.m + X.e; omega)] at hp
  rw [o.who] at hlg
  have hS : Same X ⟨X.a, { X.A with bx := bx, tk := tk, rd := rnd, dv := dv }, X.B, X.T, X.Q, X.b, X.j + 1⟩ := ⟨rfl, rfl, rfl, rfl, rfl, rfl⟩
  have hP := H.upd hf (X' := ⟨X.a, { X.A with bx := bx, tk := tk, rd := rnd, dv := dv }, X.B, X.T, X.Q, X.b, X.j + 1⟩) hp rfl z1 hb
  refine ⟨zs', M', z1, z2, ⟨hp.sz, fun j hj => hp.fr j (H.x j hj).1 (fun e => (H.xa j hj k X hf).1 e.symm)⟩, .inr ⟨?_, ⟨X.a, { X.A with bx := bx, tk := tk, rd := rnd, dv := dv }, X.B, X.T, X.Q, X.b, X.j + 1⟩, C, rnd, Bx, hl, _, ⟨rfl, hS, fun _ => ⟨rfl, rfl, rfl⟩, (fun hh => by omega), (fun hh => by omega), fun _ => rfl⟩, ⟨rfl, rfl, .inr (.inr (.inr ⟨.inl rfl, rfl⟩))⟩, hlg, hP, I.loadd hf hS hdr hj rfl rfl rfl rfl hW⟩⟩
  rw [hdec]
  congr 2
  have : 4 * X.Q.length + eN X.A.dr = 4 * X.m + X.e := rfl
  have h2 := hend
  by_cases q : X.j + 1 = 4 * X.m + X.e
  · rw [decide_eq_true q, decide_eq_true (by omega)]
  · rw [decide_eq_false q, decide_eq_false (by omega)]
theorem pt_loadp (H : Pt n0 w0 s p n zs xs f M w) (I : Iv n kk f ext C rnd Bx hl M) (hf : f k = some X) (hn : 1 ≤ n ∧ n ≤ 8) (hk : k ≤ 1000) (hkk : kk ≤ 90000) (hc : Cg KC NC C) (h0 : 0 ≤ KC) (hK : KC ≤ 576460752303423488) (hKp : X.A.dr = false → X.j < 3 * X.m + X.e → KC ≤ 0) (hN : NC ≤ 15000) (hr : 0 ≤ rnd ∧ rnd ≤ 900000) (hext : ∀ q, ext q ≠ some k) (hend : X.j < 4 * X.m + X.e) (hdr : X.A.dr = false) (hj : X.j = 3 * X.m) :
    Calls Try.prog 13 #[.pointer (some ⟨X.a, 0, none⟩)] w (PtQ n0 w0 s p n kk zs xs f ext C rnd Bx hl M k X w) := by
  have hee0 : 1 ≤ X.e := by unfold Ax.e eN; split <;> omega
  have hK0 := hKp hdr (by omega)
  have o := I.ok k X hf
  have G := H.g k X hf
  have hwho : 0 ≤ X.A.who ∧ X.A.who ≤ 1000 := by rw [o.who]; omega
  have hee : 1 ≤ X.e ∧ X.e ≤ 2 := by unfold Ax.e eN; split <;> omega
  have he1 : X.e = 1 := by unfold Ax.e eN; rw [hdr]; rfl
  have hat := full_0 (Q := X.Q) X.A.dr
  rw [show 3 * X.Q.length = X.j from hj.symm] at hat
  have hD : X.D = (0, 0) :: (fullD X.A.dr X.Q).drop (X.j + 1) := drop_of hat
  rw [hD] at G
  refine (ps_load G I.wp hwho hn.2 hkk).mono ?_
  rintro e w' ⟨rfl, M', zs', bx, tk, dv, hW, hlg, z1, z2, hb, hp⟩
  have hdec := dec_end X.A.dr X.Q (X.j + 1)
  rw [mk_at (by exact o.ok) (by exact o.m0 (by omega)) (by show 3 * X.m + X.e ≤ X.j + 1; omega)] at hp
  rw [o.who] at hlg
  have hS : Same X ⟨X.a, { X.A with bx := bx, tk := tk, rd := rnd, dv := dv, mk' := ((M.lg.length + 1 : Nat) : Int) }, X.B, X.T, X.Q, X.b, X.j + 1⟩ := ⟨rfl, rfl, rfl, rfl, rfl, rfl⟩
  have hP := H.upd hf (X' := ⟨X.a, { X.A with bx := bx, tk := tk, rd := rnd, dv := dv, mk' := ((M.lg.length + 1 : Nat) : Int) }, X.B, X.T, X.Q, X.b, X.j + 1⟩) hp rfl z1 hb
  refine ⟨zs', M', z1, z2, ⟨hp.sz, fun j hj => hp.fr j (H.x j hj).1 (fun e => (H.xa j hj k X hf).1 e.symm)⟩, .inr ⟨?_, ⟨X.a, { X.A with bx := bx, tk := tk, rd := rnd, dv := dv, mk' := ((M.lg.length + 1 : Nat) : Int) }, X.B, X.T, X.Q, X.b, X.j + 1⟩, (sumsR (C ++ X.b)), rnd, Bx, hl, _, ⟨rfl, hS, fun hh => absurd (by omega) hh, fun _ => ⟨rfl, rfl, fun _ => ⟨rfl, rfl⟩, (fun hh => by rw [hdr] at hh; cases hh)⟩, (fun hh => by omega), fun _ => rfl⟩, ⟨rfl, rfl, .inr (.inr (.inr ⟨.inl rfl, rfl⟩))⟩, hlg, hP, I.markp hf hS hn.1 hdr hj hc h0 (by omega) rfl (by show (0 : Int) < ((M.lg.length + 1 : Nat) : Int); omega) hW⟩⟩
  rw [hdec]
  congr 2
  have : 4 * X.Q.length + eN X.A.dr = 4 * X.m + X.e := rfl
  have h2 := hend
  by_cases q : X.j + 1 = 4 * X.m + X.e
  · rw [decide_eq_true q, decide_eq_true (by omega)]
  · rw [decide_eq_false q, decide_eq_false (by omega)]
theorem pt_store (H : Pt n0 w0 s p n zs xs f M w) (I : Iv n kk f ext C rnd Bx hl M) (hf : f k = some X) (hn : 1 ≤ n ∧ n ≤ 8) (hk : k ≤ 1000) (hkk : kk ≤ 90000) (hc : Cg KC NC C) (h0 : 0 ≤ KC) (hK : KC ≤ 576460752303423488) (hKp : X.A.dr = false → X.j < 3 * X.m + X.e → KC ≤ 0) (hN : NC ≤ 15000) (hr : 0 ≤ rnd ∧ rnd ≤ 900000) (hext : ∀ q, ext q ≠ some k) (hend : X.j < 4 * X.m + X.e) (hdr : X.A.dr = true) (hj : X.j = 3 * X.m + 1) :
    Calls Try.prog 13 #[.pointer (some ⟨X.a, 0, none⟩)] w (PtQ n0 w0 s p n kk zs xs f ext C rnd Bx hl M k X w) := by
  have o := I.ok k X hf
  have G := H.g k X hf
  have hwho : 0 ≤ X.A.who ∧ X.A.who ≤ 1000 := by rw [o.who]; omega
  have hee : 1 ≤ X.e ∧ X.e ≤ 2 := by unfold Ax.e eN; split <;> omega
  have he2 : X.e = 2 := by unfold Ax.e eN; rw [hdr]; rfl
  have hrl := o.rl hdr hj
  have hT := o.td hdr (by omega)
  have hmn : X.m = n := by unfold Ax.m; rw [o.qd hdr]; simp
  rw [show min (X.j - X.m) n = n by omega, belS_all hn.1] at hT
  have hat := full_1 (Q := X.Q)
  rw [show 3 * X.Q.length + 1 = X.j from hj.symm, ← hdr] at hat
  have hD : X.D = (1, 0) :: (fullD X.A.dr X.Q).drop (X.j + 1) := drop_of hat
  rw [hD] at G
  refine (ps_store G I.wp hwho hn.2 hkk (by rw [hrl]; omega)).mono ?_
  rintro e w' ⟨rfl, M', zs', bx, tk, dv, hW, hlg, z1, z2, hb, hp⟩
  have hdec := dec_end X.A.dr X.Q (X.j + 1)
  rw [mk_at (by exact o.ok) (by exact o.m0 (by omega)) (by show 3 * X.m + X.e ≤ X.j + 1; omega)] at hp
  rw [hrl] at hW hp hb
  rw [o.who] at hlg
  have hS : Same X ⟨X.a, { X.A with bx := bx, tk := tk, rd := (rnd + 1), dv := dv, mk' := ((M.lg.length + 1 : Nat) : Int) }, X.B, X.T, X.Q, X.b, X.j + 1⟩ := ⟨rfl, rfl, rfl, rfl, rfl, rfl⟩
  have hP := H.upd hf (X' := ⟨X.a, { X.A with bx := bx, tk := tk, rd := (rnd + 1), dv := dv, mk' := ((M.lg.length + 1 : Nat) : Int) }, X.B, X.T, X.Q, X.b, X.j + 1⟩) hp rfl z1 hb
  refine ⟨zs', M', z1, z2, ⟨hp.sz, fun j hj => hp.fr j (H.x j hj).1 (fun e => (H.xa j hj k X hf).1 e.symm)⟩, .inr ⟨?_, ⟨X.a, { X.A with bx := bx, tk := tk, rd := (rnd + 1), dv := dv, mk' := ((M.lg.length + 1 : Nat) : Int) }, X.B, X.T, X.Q, X.b, X.j + 1⟩, [], (rnd + 1), Bx, hl, _, ⟨rfl, hS, fun hh => absurd (by omega) hh, fun _ => ⟨rfl, rfl, (fun hh => by rw [hdr] at hh; cases hh), fun _ => ⟨rfl, rfl, hT⟩⟩, (fun hh => by omega), fun _ => rfl⟩, ⟨rfl, rfl, .inr (.inr (.inr ⟨.inr rfl, rfl⟩))⟩, hlg, hP, I.markd hf hS hn.1 hdr hj hc h0 (by omega) rfl (by show (0 : Int) < ((M.lg.length + 1 : Nat) : Int); omega) hW⟩⟩
  rw [hdec]
  congr 2
  have : 4 * X.Q.length + eN X.A.dr = 4 * X.m + X.e := rfl
  have h2 := hend
  by_cases q : X.j + 1 = 4 * X.m + X.e
  · rw [decide_eq_true q, decide_eq_true (by omega)]
  · rw [decide_eq_false q, decide_eq_false (by omega)]
theorem pt_free (H : Pt n0 w0 s p n zs xs f M w) (I : Iv n kk f ext C rnd Bx hl M) (hf : f k = some X) (hn : 1 ≤ n ∧ n ≤ 8) (hk : k ≤ 1000) (hkk : kk ≤ 90000) (hc : Cg KC NC C) (h0 : 0 ≤ KC) (hK : KC ≤ 576460752303423488) (hKp : X.A.dr = false → X.j < 3 * X.m + X.e → KC ≤ 0) (hN : NC ≤ 15000) (hr : 0 ≤ rnd ∧ rnd ≤ 900000) (hext : ∀ q, ext q ≠ some k) (hend : X.j < 4 * X.m + X.e) {x q : Nat} (hj : X.j = 3 * X.m + X.e + x) (hq : X.Q[x]? = some q) :
    Calls Try.prog 13 #[.pointer (some ⟨X.a, 0, none⟩)] w (PtQ n0 w0 s p n kk zs xs f ext C rnd Bx hl M k X w) := by
  have o := I.ok k X hf
  have G := H.g k X hf
  have hwho : 0 ≤ X.A.who ∧ X.A.who ≤ 1000 := by rw [o.who]; omega
  have hee : 1 ≤ X.e ∧ X.e ≤ 2 := by unfold Ax.e eN; split <;> omega
  have hqn := o.qlt hq
  have hxm := ActOk.xlt hq
  have hat := full_5 X.A.dr hq
  rw [show 3 * X.Q.length + eN X.A.dr + x = X.j from hj.symm] at hat
  have hh := I.h2 k X q hf ⟨x, hq, by omega, by omega⟩
  have hexq : ext q = none := by
    cases e : ext q with
    | none => rfl
    | some k' =>
      have := I.h3 q k' hqn e
      rw [hh] at this
      obtain rfl : k = k' := by have := Option.some.inj this; omega
      exact absurd e (hext q)
  have hD : X.D = (5, (q : Int)) :: (fullD X.A.dr X.Q).drop (X.j + 1) := drop_of hat
  rw [hD] at G
  refine (ps_free G I.wp hwho hqn hn.2 hkk (by rw [o.who]; exact hh)).mono ?_
  rintro e w' ⟨rfl, M', zs', bx, tk, dv, hW, hlg, z1, z2, hb, hp⟩
  have hdec := dec_end X.A.dr X.Q (X.j + 1)
  rw [mk_after (by exact o.m1 (by omega))] at hp
  rw [o.who] at hlg
  have hS : Same X ⟨X.a, { X.A with bx := bx, tk := tk, rd := X.A.rd, dv := dv }, X.B, X.T, X.Q, X.b, X.j + 1⟩ := ⟨rfl, rfl, rfl, rfl, rfl, rfl⟩
  have hP := H.upd hf (X' := ⟨X.a, { X.A with bx := bx, tk := tk, rd := X.A.rd, dv := dv }, X.B, X.T, X.Q, X.b, X.j + 1⟩) hp rfl z1 hb
  refine ⟨zs', M', z1, z2, ⟨hp.sz, fun j hj => hp.fr j (H.x j hj).1 (fun e => (H.xa j hj k X hf).1 e.symm)⟩, .inr ⟨?_, ⟨X.a, { X.A with bx := bx, tk := tk, rd := X.A.rd, dv := dv }, X.B, X.T, X.Q, X.b, X.j + 1⟩, C, rnd, Bx, (updH hl q none), _, ⟨rfl, hS, fun _ => ⟨rfl, rfl, rfl⟩, (fun hh => by omega), fun _ => ⟨rfl, rfl⟩, fun _ => rfl⟩, ⟨rfl, rfl, .inr (.inl ⟨rfl, q, rfl, hh, rfl⟩)⟩, hlg, hP, I.free hf hS hj hq rfl rfl hW hexq⟩⟩
  rw [hdec]
  congr 2
  have : 4 * X.Q.length + eN X.A.dr = 4 * X.m + X.e := rfl
  have h2 := hend
  by_cases q : X.j + 1 = 4 * X.m + X.e
  · rw [decide_eq_true q, decide_eq_true (by omega)]
  · rw [decide_eq_false q, decide_eq_false (by omega)]
theorem pt_step (H : Pt n0 w0 s p n zs xs f M w) (I : Iv n kk f ext C rnd Bx hl M) (hf : f k = some X) (hn : 1 ≤ n ∧ n ≤ 8) (hk : k ≤ 1000) (hkk : kk ≤ 90000) (hc : Cg KC NC C) (h0 : 0 ≤ KC) (hK : KC ≤ 576460752303423488) (hKp : X.A.dr = false → X.j < 3 * X.m + X.e → KC ≤ 0) (hN : NC ≤ 15000) (hr : 0 ≤ rnd ∧ rnd ≤ 900000) (hext : ∀ q, ext q ≠ some k) (hend : X.j < 4 * X.m + X.e) :
    Calls Try.prog 13 #[.pointer (some ⟨X.a, 0, none⟩)] w (PtQ n0 w0 s p n kk zs xs f ext C rnd Bx hl M k X w) := by
  have o := I.ok k X hf
  have G := H.g k X hf
  have hwho : 0 ≤ X.A.who ∧ X.A.who ≤ 1000 := by rw [o.who]; omega
  have hee : 1 ≤ X.e ∧ X.e ≤ 2 := by unfold Ax.e eN; split <;> omega
  by_cases h1 : X.j < X.m
  · obtain ⟨q, hq⟩ := at_lt (Q := X.Q) h1
    cases e : hl q with
    | none => exact pt_take H I hf hn hk hkk hc h0 hK hKp hN hr hext hend h1 hq e
    | some z =>
      refine pt_no H I hf hn hk hkk hc h0 hK hKp hN hr hext hend h1 hq e ?_
      rcases I.h1 q (o.qlt hq) z e with ⟨k', rfl, _⟩ | ⟨k', _, rfl, _⟩ <;> omega
  by_cases h2 : X.j < 2 * X.m
  · obtain ⟨q, hq⟩ := at_lt (Q := X.Q) (x := X.j - X.m) (by show _ < X.m; omega)
    rcases Bool.eq_false_or_eq_true X.A.dr with hd | hd
    · exact pt_getd H I hf hn hk hkk hc h0 hK hKp hN hr hext hend hd (x := X.j - X.m) (by omega) hq
    · exact pt_getp H I hf hn hk hkk hc h0 hK hKp hN hr hext hend hd (x := X.j - X.m) (by omega) hq
  by_cases h3 : X.j < 3 * X.m
  · obtain ⟨q, hq⟩ := at_lt (Q := X.Q) (x := X.j - 2 * X.m) (by show _ < X.m; omega)
    exact pt_set H I hf hn hk hkk hc h0 hK hKp hN hr hext hend (x := X.j - 2 * X.m) (by omega) hq
  by_cases h4 : X.j < 3 * X.m + X.e
  · rcases Bool.eq_false_or_eq_true X.A.dr with hd | hd
    · have he2 : X.e = 2 := by unfold Ax.e eN; rw [hd]; rfl
      by_cases h5 : X.j = 3 * X.m
      · exact pt_loadd H I hf hn hk hkk hc h0 hK hKp hN hr hext hend hd h5
      · exact pt_store H I hf hn hk hkk hc h0 hK hKp hN hr hext hend hd (by omega)
    · have he1 : X.e = 1 := by unfold Ax.e eN; rw [hd]; rfl
      exact pt_loadp H I hf hn hk hkk hc h0 hK hKp hN hr hext hend hd (by omega)
  · obtain ⟨q, hq⟩ := at_lt (Q := X.Q) (x := X.j - (3 * X.m + X.e)) (by show _ < X.m; omega)
    exact pt_free H I hf hn hk hkk hc h0 hK hKp hN hr hext hend (x := X.j - (3 * X.m + X.e)) (by omega) hq
end
end Go.Proofs.Ytmggnalobfihnaa.PlB
