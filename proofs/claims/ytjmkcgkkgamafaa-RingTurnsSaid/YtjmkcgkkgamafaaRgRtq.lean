/-
  A RING, an act of each end, the document's queue, the law's arrays: the beginning; what the queue does; each step of an act.
-/
import Derived.Test.YtjmkcgkkgamafaaRgRt
import Derived.Test.YtjmkcgkkgamafaaRgRc
import Derived.Test.YtjmkcgkkgamafaaRgAlone
namespace Go.Proofs.Ytjmkcgkkgamafaa.Rg
open Go.RowKit Rw Pk Go.Maps Mm
set_option linter.unusedVariables false
section
variable {n r nw st q N a p : Nat} {w0 w w' w1 : World} {zs zs' fs fs' fq : List Nat} {L L' Lq : List (List Batch.Ch)} {R R' : Ri} {M M' : Mm.St} {v v' : Value} {ss ss' : List Sv} {p0 p1 : Option Nat} {A A0 A1 A' : Ac} {l l0 l1 l' b c : List Batch.Ch} {s0 s1 : Int} {T T1 : TypeId} {m : Nat} {s : Sv}
theorem rt_start (h : Rq n w0 w1 [] zs r R M w) (hb : Below w.heap.size w w') (h0 : w.heap.size ≤ nw) (h1 : nw < st) (h2 : st < q) (cn : w'.heap[nw]? = some (.cells #[pt none, pt none] T (0, 0))) (cs : w'.heap[st]? = some (.cells #[.int .i64 0, .int .i64 0] T1 (0, 0))) (cq : QAt w' q N (.slice none 0 0)) :
    ∃ zs', Rt n w0 r nw st q N zs' [nw, st, q] [q] [] R M w' (.slice none 0 0) [] none none A A l l 0 0 := by
  have hq := h.all hb
  have hql := (Array.getElem?_eq_some_iff.1 cq).1
  have hr := h.ri.lt
  have hn := h.mz.nl
  refine ⟨_, hq.rebase (fun j hj => ?_), fun hj => ?_, fun j hj => ?_, ⟨cq, ⟨none, 0, rfl, .inl ⟨rfl, rfl⟩, by decide, by decide⟩, rfl, by simp, by simp, by simp [Value.ownBlock], by simp⟩, fun j hj => .inl (by simpa using hj), ⟨T, cn⟩, ⟨T1, cs⟩, ?_, fun j hj => by simpa [wl] using hj, fun a e => (by cases e), fun a e => by cases e⟩
  · simp at hj
    exact all_mem (by omega) (by omega)
  · simp at hj; omega
  · simp at hj; omega
  · simp [wl]; omega
/-- What a call made itself is among what the queue has. -/
theorem Rt.with (h : Rt n w0 r nw st q N zs fs fq L R M w v ss p0 p1 A0 A1 l0 l1 s0 s1) (hb : Below w.heap.size w w') {u : Value} (hu : ∀ g, u.ownBlock = some g → w.heap.size ≤ g ∧ g < w'.heap.size) :
    ∃ zs', Rt n w0 r nw st q N zs' (u.ownBlock.toList ++ fs) (u.ownBlock.toList ++ fq) L R M w' v ss p0 p1 A0 A1 l0 l1 s0 s1 ∧ ∀ g, u.ownBlock = some g → g ∈ u.ownBlock.toList ++ fq ∧ g ≠ q := by
  have h' := h.below hb
  have hq := h.hq.all hb
  have hr := h.hq.ri.lt
  have hn := h.hq.mz.nl
  have hlt := h.lt
  have hnew : ∀ g, u.ownBlock = some g → g ∉ fs := fun g hg hf => by have := hlt g hf; have := (hu g hg).1; omega
  have hi : ∀ j ∈ fs, j ∈ u.ownBlock.toList ++ fs := fun j hj => List.mem_append.2 (.inr hj)
  have ho : ∀ j ∈ u.ownBlock.toList ++ fs, j ∈ fs ∨ w.heap.size ≤ j := fun j hj => (List.mem_append.1 hj).elim (fun e => .inr (hu j (by simpa using e)).1) .inl
  refine ⟨_, ⟨hq.rebase (fun j hj => ?_), fun hj => (ho r hj).elim h.nr (fun e => by omega), fun j hj => (ho j hj).elim (h.nf j) (fun e => by omega), h'.qs.more (fun j hj => List.mem_append.2 (.inr hj)), fun j hj => ?_, h'.cn, h'.cs, h.nd, fun j hj => hi j (h.wf j hj), fun a e => (h'.a0 a e).keep hi (fun _ _ h => h) rfl (fun _ _ _ => rfl), fun a e => (h'.a1 a e).keep hi (fun _ _ h => h) rfl (fun _ _ _ => rfl)⟩, fun g hg => ⟨by simp [hg], fun e => hnew g hg (e ▸ h.wf q mem_q)⟩⟩
  · rcases List.mem_append.1 hj with hj | hj
    · have := hu j (by simpa using hj)
      exact all_mem this.1 this.2
    · exact all_old _ (h.hq.fz j hj)
  · rcases List.mem_append.1 hj with hj | hj
    · have hj' : u.ownBlock = some j := by simpa using hj
      exact .inr ⟨by simp [hj'], fun e => hnew j hj' (h.wf j e)⟩
    · exact (h.qf j hj).imp id (fun e => ⟨hi j e.1, e.2⟩)
/-- The queue's slice is another one. -/
theorem Rt.qset (h : Rt n w0 r nw st q N zs fs fq L R M w v ss p0 p1 A0 A1 l0 l1 s0 s1) (hb : Below w.heap.size w w1) (ho : w1.ownsRow w.heap.size T 1 v' m (ss'.map Sv.val)) (hl : ss'.length = L'.length)
    (he : ∀ (i : Nat) (s : Sv) (c : List Batch.Ch), ss'[i]? = some s → L'[i]? = some c → Batch.Rd w s.val c) (hm : ∀ s ∈ ss', ∀ g, s.val.ownBlock = some g → g ∈ fq ∧ g ≠ q) :
    ∃ zs', Rt n w0 r nw st q N zs' (v'.ownBlock.toList ++ fs) (v'.ownBlock.toList ++ fq) L' R M (w1.setCell ⟨q, 0, none⟩ v') v' ss' p0 p1 A0 A1 l0 l1 s0 s1 := by
  have hlt := h.lt
  have hq := h.hq.all hb
  have hr := h.hq.ri.lt
  have hn := h.hq.mz.nl
  have hqf := h.wf q mem_q
  have hqr := h.nwr mem_q
  have hv : ∀ g, v'.ownBlock = some g → w.heap.size ≤ g ∧ g < w1.heap.size := fun g hg => World.ownsRow.lt ho g hg
  have hqlt : ∀ j ∈ fq, j < w.heap.size := fun j hj => (h.qf j hj).elim (fun e => e ▸ hlt q hqf) (fun e => hlt j e.1)
  have hs := hq.store (all_old _ (h.hq.fz q hqf)) (h.nf q hqf) hqr 0 v'
  have hk : ∀ j ∈ fs, j ≠ q → (w1.setCell ⟨q, 0, none⟩ v').heap[j]? = w.heap[j]? := fun j hj hjq => (Below.heap_setCell _ _ _ _ hjq).trans (hb.block j (hlt j hj))
  have hi : ∀ j ∈ fs, j ∈ v'.ownBlock.toList ++ fs := fun j hj => List.mem_append.2 (.inr hj)
  have hoo : ∀ j ∈ v'.ownBlock.toList ++ fs, j ∈ fs ∨ w.heap.size ≤ j := fun j hj => (List.mem_append.1 hj).elim (fun e => .inr (hv j (by simpa using e)).1) .inl
  obtain ⟨e1, e2, e3⟩ := h.ne3
  refine ⟨_, hs.rebase (fun j hj => ?_), fun hj => (hoo r hj).elim h.nr (fun e => by omega), fun j hj => (hoo j hj).elim (h.nf j) (fun e => by omega), h.qs.set hqlt hb ho hl he hm, fun j hj => ?_, ?_, ?_, h.nd, fun j hj => hi j (h.wf j hj), fun a e => (h.a0 a e).keep hi (fun _ _ h => h) (hk a (h.wf a (mem_0 e)) (h.ne0 e).2.2.1) (fun g hg hx => hk g hg (fun e => hx (e ▸ mem_q))), fun a e => (h.a1 a e).keep hi (fun _ _ h => h) (hk a (h.wf a (mem_1 e)) (h.ne1 e).2.2.1) (fun g hg hx => hk g hg (fun e => hx (e ▸ mem_q)))⟩
  · rcases List.mem_append.1 hj with hj | hj
    · have := hv j (by simpa using hj)
      exact all_mem this.1 this.2
    · exact all_old _ (h.hq.fz j hj)
  · rcases List.mem_append.1 hj with hj | hj
    · have hj' : v'.ownBlock = some j := by simpa using hj
      refine .inr ⟨by simp [hj'], fun e => ?_⟩
      have h1 := hlt j (h.wf j e)
      have h2 := (hv j hj').1
      omega
    · exact (h.qf j hj).imp id (fun e => ⟨hi j e.1, e.2⟩)
  · obtain ⟨T, hT⟩ := h.cn; exact ⟨T, (hk nw (h.wf nw mem_nw) e2).trans hT⟩
  · obtain ⟨T, hT⟩ := h.cs; exact ⟨T, (hk st (h.wf st mem_st) e3).trans hT⟩
theorem Rt.qpush (h : Rt n w0 r nw st q N zs fs fq L R M w v ss p0 p1 A0 A1 l0 l1 s0 s1) (hb : Below w.heap.size w w1) (ho : w1.ownsRow w.heap.size T 1 v' m (ss.map Sv.val ++ [s.val])) (hr : Batch.Rd w s.val c) (hs : ∀ g, s.val.ownBlock = some g → g ∈ fq ∧ g ≠ q) :
    ∃ zs', Rt n w0 r nw st q N zs' (v'.ownBlock.toList ++ fs) (v'.ownBlock.toList ++ fq) (L ++ [c]) R M (w1.setCell ⟨q, 0, none⟩ v') v' (ss ++ [s]) p0 p1 A0 A1 l0 l1 s0 s1 := by
  refine h.qset hb (by simpa using ho) (by simp [h.qs.len]) (fun i s' c' h1 h2 => ?_) (fun s' hs' g hg => ?_)
  · have hl := h.qs.len
    by_cases hi : i < ss.length
    · rw [List.getElem?_append_left hi] at h1
      rw [List.getElem?_append_left (by omega)] at h2
      exact h.qs.el i s' c' h1 h2
    · rw [List.getElem?_append_right (by omega)] at h1 h2
      have e1 : s' = s := by simpa using List.mem_of_getElem? h1
      have e2 : c' = c := by simpa using List.mem_of_getElem? h2
      subst e1 e2
      exact hr
  · rcases List.mem_append.1 hs' with h1 | h1
    · exact h.qs.ms s' h1 g hg
    · obtain rfl := List.mem_singleton.1 h1
      exact hs g hg
theorem Rt.qpop (h : Rt n w0 r nw st q N zs fs fq (c :: L') R M w v (s :: ss') p0 p1 A0 A1 l0 l1 s0 s1) (hb : Below w.heap.size w w1) (ho : w1.ownsRow w.heap.size T 1 v' m (ss'.map Sv.val)) :
    ∃ zs', Rt n w0 r nw st q N zs' (v'.ownBlock.toList ++ fs) (v'.ownBlock.toList ++ fq) L' R M (w1.setCell ⟨q, 0, none⟩ v') v' ss' p0 p1 A0 A1 l0 l1 s0 s1 :=
  h.qset hb ho (by have := h.qs.len; simpa using this) (fun i s' c' h1 h2 => h.qs.el (i + 1) s' c' (by simpa using h1) (by simpa using h2)) (fun s' hs' g hg => h.qs.ms s' (List.mem_cons_of_mem _ hs') g hg)
/-- The first one still reads so behind it. -/
theorem Rt.first (h : Rt n w0 r nw st q N zs fs fq (c :: L') R M w v (s :: ss') p0 p1 A0 A1 l0 l1 s0 s1) (hb : Below w.heap.size w w1) (u : Value) : Batch.Rd (w1.setCell ⟨q, 0, none⟩ u) s.val c := by
  refine rdb_block (h.qs.el 0 s c rfl rfl) (fun g hg => ?_)
  obtain ⟨m1, m2⟩ := h.qs.ms s (List.mem_cons_self ..) g hg
  have hlt : g < w.heap.size := (h.qf g m1).elim (fun e => absurd e m2) (fun e => h.lt g e.1)
  exact (Below.heap_setCell _ _ _ _ m2).trans (hb.block g hlt)
/-! ### each step -/
variable {pu po s' t x k : Nat} {bv : Value} {pu' po' : Int} {pp ps : Bool}
theorem Gi.lgL (h : Gi N L pu po s' t l x b k M) {who : Int} (hw : 0 ≤ who) {a : Int} (ha : 0 ≤ a ∧ a ≤ 3) : (lookS M who 0 a).lg = M.lg ++ [⟨who, 0, a, true⟩] := by
  unfold lookS
  rw [if_pos (h.mayW hw (.inl rfl) ha)]
  rfl
theorem Gi.lgG (h : Gi N L pu po s' t l x b k M) {who : Int} (hw : 0 ≤ who) (m : Nat) : (lookS M who 2 (1 + (m : Int) % (N : Int))).lg = M.lg ++ [⟨who, 2, 1 + (m : Int) % (N : Int), true⟩] := by
  have hlt : m % N < N := Nat.mod_lt _ h.N1
  unfold lookS
  rw [if_pos (h.mayB' hw (.inl rfl) (by rw [box_nat]; omega))]
  rfl
theorem Gi.lgS (h : Gi N L pu po s' t l x b k M) {who : Int} (hw : 0 ≤ who) (m : Nat) (l' : List Batch.Ch) : (setS M who (1 + (m : Int) % (N : Int)) l').lg = M.lg ++ [⟨who, 3, 1 + (m : Int) % (N : Int), true⟩] := by
  rw [h.setEq hw]
  rfl
theorem Gi.lgW (h : Gi N L pu po s' t l x b k M) {who : Int} (hw : 0 ≤ who) {a : Int} (ha : 0 ≤ a ∧ a ≤ 3) (v : Int) : (storeS M who a v).lg = M.lg ++ [⟨who, 1, a, true⟩] := by
  rw [h.storeEq hw ha]
  rfl
theorem get_len {a0 b0 c0 k : Nat} {M : Mm.St} (hG : Mm.Good a0 b0 c0 k M) (who x : Int) : (Mm.getV M who x).length ≤ 1000 := by
  unfold Mm.getV
  split
  · rw [List.getD_eq_getElem?_getD]
    cases e : M.bs[x.toNat]? with
    | none => simp
    | some q => exact (hG.bx q (List.mem_of_getElem? e)).1
  · simp
/-- A Step of the pusher's act: it goes on, or it is over. -/
def PushQ (n : Nat) (w0 : World) (r nw st q N p a : Nat) (zs fs fq : List Nat) (Lq L : List (List Batch.Ch)) (M : Mm.St) (v : Value) (ss : List Sv) (p1 : Option Nat) (bv : Value) (A1 : Ac) (l l1 b : List Batch.Ch) (s0 s1 : Int) (pu po s' t x k : Nat) (pp : Bool) (e : Ending) (w' : World) : Prop :=
  ∃ M', M'.lg.length = M.lg.length + 1 ∧
    ((e = .returned (.bool false) ∧ ∃ pu'' po'' x', Rt n w0 r nw st q N zs fs fq Lq ⟨p, 1, 1, N, true, pp⟩ M' w' v ss (some a) p1 ⟨r, 0, false, bv, ((s' + 1 : Nat) : Int), pu'', po'', false, false, 0⟩ A1 l l1 s0 s1 ∧ Gi N L pu po (s' + 1) t l x' b (k + 1) M' ∧ Rc N pu po (s' + 1) t x' M'.lg ∧ s' + 1 ≤ 3 ∧ (1 ≤ s' + 1 → pu'' = (pu : Int)) ∧ (2 ≤ s' + 1 → po'' = (x' : Int))) ∨
     (e = .returned (.bool true) ∧ ∃ ok acc pu'' po'', Rt n w0 r nw st q N zs fs fq Lq ⟨p, 1, 1, N, false, pp⟩ M' w' v ss (some a) p1 ⟨r, 0, false, .slice none 0 0, acc, pu'', po'', ok, true, (M'.lg.length : Int)⟩ A1 [] l1 s0 s1 ∧
       ((ok = false ∧ L.length = N ∧ Gi N L pu po 0 t l x b (k + 1) M' ∧ Rc N pu po 0 t x M'.lg) ∨ (ok = true ∧ L.length < N ∧ Gi N (L ++ [l]) (pu + 1) po 0 t l x b (k + 1) M' ∧ Rc N (pu + 1) po 0 t x M'.lg))))
theorem rtstep_push (h : Rt n w0 r nw st q N zs fs fq Lq ⟨p, 1, 1, N, true, pp⟩ M w v ss (some a) p1 ⟨r, 0, false, bv, (s' : Int), pu', po', false, false, 0⟩ A1 l l1 s0 s1) (g : Gi N L pu po s' t l x b k M) (c : Rc N pu po s' t x M.lg) (hs : s' ≤ 3) (h1 : 1 ≤ s' → pu' = (pu : Int)) (h2 : 2 ≤ s' → po' = (x : Int)) (hN : N ≤ 64) (hk : k ≤ 90000) (hpu : pu ≤ 100000) (hl : l.length ≤ 1000 ∧ ∀ z ∈ l, z.Wf) :
    Calls Try.prog 28 #[.pointer (some ⟨a, 0, none⟩)] w (PushQ n w0 r nw st q N p a zs fs fq Lq L M v ss p1 bv A1 l l1 b s0 s1 pu po s' t x k pp) := by
  have hwho : (0 : Int) ≤ 0 := by decide
  have hwi : I64 0 := ⟨by decide, by decide⟩
  have hwd1 : (0 : Int) ≤ 1 ∧ (1 : Int) ≤ 1000 := by decide
  have hln := g.ln
  have hlN := g.lN
  have hN1 := g.N1
  have hg := h.rg0 rfl
  have hbv : ∀ g, bv.ownBlock = some g → g ∈ fs ∧ g ∉ wl nw st q (some a) p1 := (h.a0 a rfl).bv
  have hnone : ∀ g, (Value.slice none 0 0).ownBlock = some g → g ∈ fs ∧ g ∉ wl nw st q (some a) p1 := fun g hg => by simp [Value.ownBlock] at hg
  rcases (show s' = 0 ∨ s' = 1 ∨ s' = 2 ∨ s' = 3 by omega) with rfl | rfl | rfl | rfl
  · have g1 := g.push1.look (who := 0) (q := 0) (a := 1) hwi (by decide) ⟨by decide, by decide⟩
    have l1' := g.lgL (a := 1) hwho (by decide)
    have e1 := g.load1 hwho
    have c1 := c.push1
    rw [← l1'] at c1
    refine (rgstep_push1 hg rfl rfl rfl rfl (g.sp _) g.good (by decide) (by omega) (by decide) (by omega) hwi hwd1 (by show (lookS M 0 0 1).lg.length = _; rw [l1']; simp)).mono ?_
    rintro e w2 ⟨rfl, hr⟩
    change Rg n w0 w fs zs a r ⟨p, 1, 1, N, true, pp⟩ ⟨r, 0, false, bv, 1, loadV M 0 1, po', false, false, 0⟩ l (lookS M 0 0 1) w2 at hr
    exact ⟨_, by rw [l1']; simp, .inl ⟨rfl, _, _, x, h.back0 rfl hr (fun _ h => h) h.hq.fz (fun _ h => .inl h) hbv, g1, c1, by omega, fun _ => e1, fun hh => by omega⟩⟩
  · obtain rfl := h1 (by omega)
    have l2 := g.lgL (a := 2) hwho (by decide)
    have e2 := g.load2 hwho
    by_cases hn : L.length < N
    · have g2 := (g.push2 hn).look (who := 0) (q := 0) (a := 2) hwi (by decide) ⟨by decide, by decide⟩
      have c2 := c.push2
      rw [← l2] at c2
      refine (rgstep_push2 hg rfl rfl rfl rfl (g.sp _) g.good (by decide) (by omega) (by decide) (by omega) hwi hwd1 (by show 0 ≤ loadV M 0 2 ∧ loadV M 0 2 ≤ (pu : Int) ∧ (pu : Int) ≤ 1000000; rw [e2]; omega) (by show (lookS M 0 0 2).lg.length = _; rw [l2]; simp)).mono ?_
      rintro e w2 ⟨rfl, hr⟩
      have hd : decide ((N : Int) ≤ (pu : Int) - loadV M 0 2) = false := decide_eq_false (by rw [e2]; omega)
      change Rg n w0 w fs zs a r (endR (decide ((N : Int) ≤ (pu : Int) - loadV M 0 2)) ⟨p, 1, 1, N, true, pp⟩ ⟨r, 0, false, bv, 2, pu, loadV M 0 2, false, false, 0⟩) (endA (decide ((N : Int) ≤ (pu : Int) - loadV M 0 2)) ⟨r, 0, false, bv, 2, pu, loadV M 0 2, false, false, 0⟩ ((lookS M 0 0 2).lg.length : Int)) (endL (decide ((N : Int) ≤ (pu : Int) - loadV M 0 2)) ⟨r, 0, false, bv, 2, pu, loadV M 0 2, false, false, 0⟩ l) (lookS M 0 0 2) w2 at hr
      rw [hd] at hr
      change Rg n w0 w fs zs a r ⟨p, 1, 1, N, true, pp⟩ ⟨r, 0, false, bv, 2, pu, loadV M 0 2, false, false, 0⟩ l (lookS M 0 0 2) w2 at hr
      exact ⟨_, by rw [l2]; simp, .inl ⟨by show Ending.returned (.bool (decide ((N : Int) ≤ (pu : Int) - loadV M 0 2))) = _; rw [hd], _, _, po, h.back0 rfl hr (fun _ h => h) h.hq.fz (fun _ h => .inl h) hbv, g2, c2, by omega, fun _ => rfl, fun _ => e2⟩⟩
    · have hn2 : L.length = N := by omega
      have g2 := (g.look (who := 0) (q := 0) (a := 2) hwi (by decide) ⟨by decide, by decide⟩).pushN l
      have c2 := (c.load (w := 0) (a := 2) (.inl rfl)).pushN (by decide)
      rw [← l2] at c2
      refine (rgstep_push2 hg rfl rfl rfl rfl (g.sp _) g.good (by decide) (by omega) (by decide) (by omega) hwi hwd1 (by show 0 ≤ loadV M 0 2 ∧ loadV M 0 2 ≤ (pu : Int) ∧ (pu : Int) ≤ 1000000; rw [e2]; omega) (by show (lookS M 0 0 2).lg.length = _; rw [l2]; simp)).mono ?_
      rintro e w2 ⟨rfl, hr⟩
      have hd : decide ((N : Int) ≤ (pu : Int) - loadV M 0 2) = true := decide_eq_true (by rw [e2]; omega)
      change Rg n w0 w fs zs a r (endR (decide ((N : Int) ≤ (pu : Int) - loadV M 0 2)) ⟨p, 1, 1, N, true, pp⟩ ⟨r, 0, false, bv, 2, pu, loadV M 0 2, false, false, 0⟩) (endA (decide ((N : Int) ≤ (pu : Int) - loadV M 0 2)) ⟨r, 0, false, bv, 2, pu, loadV M 0 2, false, false, 0⟩ ((lookS M 0 0 2).lg.length : Int)) (endL (decide ((N : Int) ≤ (pu : Int) - loadV M 0 2)) ⟨r, 0, false, bv, 2, pu, loadV M 0 2, false, false, 0⟩ l) (lookS M 0 0 2) w2 at hr
      rw [hd] at hr
      change Rg n w0 w fs zs a r ⟨p, 1, 1, N, false, pp⟩ ⟨r, 0, false, .slice none 0 0, 2, pu, loadV M 0 2, false, true, ((lookS M 0 0 2).lg.length : Int)⟩ [] (lookS M 0 0 2) w2 at hr
      exact ⟨_, by rw [l2]; simp, .inr ⟨by show Ending.returned (.bool (decide ((N : Int) ≤ (pu : Int) - loadV M 0 2))) = _; rw [hd], _, _, _, _, h.back0 rfl hr (fun _ h => h) h.hq.fz (fun _ h => .inl h) hnone, .inl ⟨rfl, hn2, g2, c2⟩⟩⟩
  · obtain rfl := h1 (by omega)
    obtain rfl := h2 (by omega)
    have g3 := g.push3 hN hwho hwi hl
    have l3 := g.lgS (who := 0) hwho pu l
    have c3 := c.push3 (g.s2 (by omega)) (by omega) g.t2
    rw [← l3] at c3
    refine (rgstep_push3 hg rfl rfl rfl rfl (g.sp _) g.good (by decide) (by omega) (by decide) (by omega) hwi hwd1 (by show 0 ≤ (pu : Int) ∧ 1 ≤ (N : Int) ∧ (N : Int) ≤ 64 ∧ (0 : Int) ≤ 1 ∧ (1 : Int) ≤ 1000; omega) hl.1 (by show (setS M 0 (1 + (pu : Int) % (N : Int)) l).lg.length = _; rw [l3]; simp)).mono ?_
    rintro e w2 ⟨rfl, hr⟩
    change Rg n w0 w fs zs a r ⟨p, 1, 1, N, true, pp⟩ ⟨r, 0, false, bv, 3, pu, x, false, false, 0⟩ l (setS M 0 (1 + (pu : Int) % (N : Int)) l) w2 at hr
    exact ⟨_, by rw [l3]; simp, .inl ⟨rfl, _, _, x, h.back0 rfl hr (fun _ h => h) h.hq.fz (fun _ h => .inl h) hbv, g3, c3, by omega, fun _ => rfl, fun _ => rfl⟩⟩
  · obtain rfl := h1 (by omega)
    obtain rfl := h2 (by omega)
    have g4 := g.push4 hwho hwi
    have l4 := g.lgW (who := 0) (a := 1) hwho (by decide) ((pu : Int) + 1)
    have c4 := c.push4
    rw [← l4] at c4
    have hn : L.length < N := by have := g.s2 (by omega); omega
    refine (rgstep_push4 hg rfl rfl rfl rfl (g.sp _) g.good (by decide) (by omega) (by decide) (by omega) hwi hwd1 (by show 0 ≤ (pu : Int) ∧ (pu : Int) ≤ 1000000; omega) (by show (storeS M 0 1 ((pu : Int) + 1)).lg.length = _; rw [l4]; simp)).mono ?_
    rintro e w2 ⟨rfl, hr⟩
    change Rg n w0 w fs zs a r ⟨p, 1, 1, N, false, pp⟩ ⟨r, 0, false, .slice none 0 0, 4, pu, x, true, true, ((storeS M 0 1 ((pu : Int) + 1)).lg.length : Int)⟩ [] (storeS M 0 1 ((pu : Int) + 1)) w2 at hr
    exact ⟨_, by rw [l4]; simp, .inr ⟨rfl, _, _, _, _, h.back0 rfl hr (fun _ h => h) h.hq.fz (fun _ h => .inl h) hnone, .inr ⟨rfl, hn, g4, c4⟩⟩⟩
def PopQ (n : Nat) (w0 : World) (r nw st q N p a : Nat) (fq : List Nat) (Lq L : List (List Batch.Ch)) (M : Mm.St) (v : Value) (ss : List Sv) (p0 : Option Nat) (A0 : Ac) (l l0 : List Batch.Ch) (s0 s1 : Int) (pu po s' t x k : Nat) (ps : Bool) (e : Ending) (w' : World) : Prop :=
  ∃ M' zs fs, M'.lg.length = M.lg.length + 1 ∧
    ((e = .returned (.bool false) ∧ ∃ bv pu'' po'' l1 b, Rt n w0 r nw st q N zs fs fq Lq ⟨p, 1, 1, N, ps, true⟩ M' w' v ss p0 (some a) A0 ⟨r, 1, true, bv, ((t + 1 : Nat) : Int), pu'', po'', false, false, 0⟩ l0 l1 s0 s1 ∧ Gi N L pu po s' (t + 1) l x b (k + 1) M' ∧ Rc N pu po s' (t + 1) x M'.lg ∧ t + 1 ≤ 4 ∧ (1 ≤ t + 1 → po'' = (po : Int)) ∧ (3 ≤ t + 1 → l1 = b) ∧ l1.length ≤ 1000) ∨
     (e = .returned (.bool true) ∧ ∃ ok bv acc pu'' po'' l1 b, l1.length ≤ 1000 ∧ Rt n w0 r nw st q N zs fs fq Lq ⟨p, 1, 1, N, ps, false⟩ M' w' v ss p0 (some a) A0 ⟨r, 1, true, bv, acc, pu'', po'', ok, true, (M'.lg.length : Int)⟩ l0 l1 s0 s1 ∧
       ((ok = false ∧ L = [] ∧ Gi N L pu po s' 0 l x b (k + 1) M' ∧ Rc N pu po s' 0 x M'.lg) ∨ (ok = true ∧ L = l1 :: L.tail ∧ Gi N L.tail pu (po + 1) s' 0 l x b (k + 1) M' ∧ Rc N pu (po + 1) s' 0 x M'.lg))))
theorem rtstep_pop (h : Rt n w0 r nw st q N zs fs fq Lq ⟨p, 1, 1, N, ps, true⟩ M w v ss p0 (some a) A0 ⟨r, 1, true, bv, (t : Int), pu', po', false, false, 0⟩ l0 l1 s0 s1) (g : Gi N L pu po s' t l x b k M) (c : Rc N pu po s' t x M.lg) (ht : t ≤ 4) (h1 : 1 ≤ t → po' = (po : Int)) (h3 : 3 ≤ t → l1 = b) (hl1 : l1.length ≤ 1000) (hN : N ≤ 64) (hk : k ≤ 90000) (hpu : pu ≤ 100000) :
    Calls Try.prog 28 #[.pointer (some ⟨a, 0, none⟩)] w (PopQ n w0 r nw st q N p a fq Lq L M v ss p0 A0 l l0 s0 s1 pu po s' t x k ps) := by
  have hwho : (0 : Int) ≤ 1 := by decide
  have hwi : I64 1 := ⟨by decide, by decide⟩
  have hwd1 : (0 : Int) ≤ 1 ∧ (1 : Int) ≤ 1000 := by decide
  have hln := g.ln
  have hlN := g.lN
  have hN1 := g.N1
  have hg := h.rg1 rfl
  have hbv : ∀ g, bv.ownBlock = some g → g ∈ fs ∧ g ∉ wl nw st q p0 (some a) := (h.a1 a rfl).bv
  rcases (show t = 0 ∨ t = 1 ∨ t = 2 ∨ t = 3 ∨ t = 4 by omega) with rfl | rfl | rfl | rfl | rfl
  · have g1 := g.pop1.look (who := 1) (q := 0) (a := 2) hwi (by decide) ⟨by decide, by decide⟩
    have l1' := g.lgL (who := 1) (a := 2) hwho (by decide)
    have e1 := g.load2 (who := 1) hwho
    have c1 := c.pop1
    rw [← l1'] at c1
    refine (rgstep_pop1 hg rfl rfl rfl rfl (g.sp _) g.good (by decide) (by omega) (by decide) (by omega) hwi hwd1 (by show (lookS M 1 0 2).lg.length = _; rw [l1']; simp)).mono ?_
    rintro e w2 ⟨rfl, hr⟩
    change Rg n w0 w fs zs a r ⟨p, 1, 1, N, ps, true⟩ ⟨r, 1, true, bv, 1, pu', loadV M 1 2, false, false, 0⟩ l1 (lookS M 1 0 2) w2 at hr
    exact ⟨_, _, _, by rw [l1']; simp, .inl ⟨rfl, _, _, _, _, b, h.back1 rfl hr (fun _ h => h) h.hq.fz (fun _ h => .inl h) hbv, g1, c1, by omega, fun _ => e1, fun hh => by omega, hl1⟩⟩
  · obtain rfl := h1 (by omega)
    have l2 := g.lgL (who := 1) (a := 1) hwho (by decide)
    have e2 := g.load1 (who := 1) hwho
    by_cases hn : po < pu
    · have g2 := (g.pop2 hn).look (who := 1) (q := 0) (a := 1) hwi (by decide) ⟨by decide, by decide⟩
      have c2 := c.pop2 hn
      rw [← l2] at c2
      refine (rgstep_pop2 hg rfl rfl rfl rfl (g.sp _) g.good (by decide) (by omega) (by decide) (by omega) hwi hwd1 (by show (lookS M 1 0 1).lg.length = _; rw [l2]; simp)).mono ?_
      rintro e w2 ⟨rfl, hr⟩
      have hd : decide (loadV M 1 1 = (po : Int)) = false := decide_eq_false (by rw [e2]; omega)
      change Rg n w0 w fs zs a r (endR (decide (loadV M 1 1 = (po : Int))) ⟨p, 1, 1, N, ps, true⟩ ⟨r, 1, true, bv, 2, loadV M 1 1, po, false, false, 0⟩) (endA (decide (loadV M 1 1 = (po : Int))) ⟨r, 1, true, bv, 2, loadV M 1 1, po, false, false, 0⟩ ((lookS M 1 0 1).lg.length : Int)) (endL (decide (loadV M 1 1 = (po : Int))) ⟨r, 1, true, bv, 2, loadV M 1 1, po, false, false, 0⟩ l1) (lookS M 1 0 1) w2 at hr
      rw [hd] at hr
      change Rg n w0 w fs zs a r ⟨p, 1, 1, N, ps, true⟩ ⟨r, 1, true, bv, 2, loadV M 1 1, po, false, false, 0⟩ l1 (lookS M 1 0 1) w2 at hr
      exact ⟨_, _, _, by rw [l2]; simp, .inl ⟨by show Ending.returned (.bool (decide (loadV M 1 1 = (po : Int)))) = _; rw [hd], _, _, _, _, b, h.back1 rfl hr (fun _ h => h) h.hq.fz (fun _ h => .inl h) hbv, g2, c2, by omega, fun _ => rfl, fun hh => by omega, hl1⟩⟩
    · have hL : L = [] := List.length_eq_zero_iff.1 (by omega)
      have g2 := (g.look (who := 1) (q := 0) (a := 1) hwi (by decide) ⟨by decide, by decide⟩).popN (by decide)
      have c2 := (c.load (w := 1) (a := 1) (.inr rfl)).popN (by decide)
      rw [← l2] at c2
      refine (rgstep_pop2 hg rfl rfl rfl rfl (g.sp _) g.good (by decide) (by omega) (by decide) (by omega) hwi hwd1 (by show (lookS M 1 0 1).lg.length = _; rw [l2]; simp)).mono ?_
      rintro e w2 ⟨rfl, hr⟩
      have hd : decide (loadV M 1 1 = (po : Int)) = true := decide_eq_true (by rw [e2]; omega)
      change Rg n w0 w fs zs a r (endR (decide (loadV M 1 1 = (po : Int))) ⟨p, 1, 1, N, ps, true⟩ ⟨r, 1, true, bv, 2, loadV M 1 1, po, false, false, 0⟩) (endA (decide (loadV M 1 1 = (po : Int))) ⟨r, 1, true, bv, 2, loadV M 1 1, po, false, false, 0⟩ ((lookS M 1 0 1).lg.length : Int)) (endL (decide (loadV M 1 1 = (po : Int))) ⟨r, 1, true, bv, 2, loadV M 1 1, po, false, false, 0⟩ l1) (lookS M 1 0 1) w2 at hr
      rw [hd] at hr
      change Rg n w0 w fs zs a r ⟨p, 1, 1, N, ps, false⟩ ⟨r, 1, true, bv, 2, loadV M 1 1, po, false, true, ((lookS M 1 0 1).lg.length : Int)⟩ l1 (lookS M 1 0 1) w2 at hr
      exact ⟨_, _, _, by rw [l2]; simp, .inr ⟨by show Ending.returned (.bool (decide (loadV M 1 1 = (po : Int)))) = _; rw [hd], _, _, _, _, _, _, b, hl1, h.back1 rfl hr (fun _ h => h) h.hq.fz (fun _ h => .inl h) hbv, .inl ⟨rfl, hL, g2, c2⟩⟩⟩
  · obtain rfl := h1 (by omega)
    have g3 := (g.pop3 (who := 1) hwho).look (who := 1) (q := 2) (a := 1 + (po : Int) % (N : Int)) hwi (by decide) (g.boxI hN po)
    have l3 := g.lgG (who := 1) hwho po
    have c3 := c.box (k := 2) (by decide) (g.t2 (by omega)) (by omega) g.s2 (.inl rfl) 3 (by decide)
    rw [← l3] at c3
    refine (rgstep_pop3f hg rfl rfl rfl rfl (g.sp _) g.good (by decide) (by omega) (by decide) (by omega) hwi hwd1 (by show 0 ≤ (po : Int) ∧ 1 ≤ (N : Int) ∧ (N : Int) ≤ 64 ∧ (0 : Int) ≤ 1 ∧ (1 : Int) ≤ 1000; omega) (by show (lookS M 1 2 (1 + (po : Int) % (N : Int))).lg.length = _; rw [l3]; simp)).mono ?_
    rintro e w2 ⟨rfl, v3, zs', z0, z1, z2, hr⟩
    change Rg n w0 w fs zs' a r ⟨p, 1, 1, N, ps, true⟩ ⟨r, 1, true, v3, 3, pu', po, false, false, 0⟩ (getV M 1 (1 + (po : Int) % (N : Int))) (lookS M 1 2 (1 + (po : Int) % (N : Int))) w2 at hr
    refine ⟨_, zs', v3.ownBlock.toList ++ fs, by rw [l3]; simp, .inl ⟨rfl, _, _, _, _, _, h.back1 rfl hr (fun _ h => List.mem_append.2 (.inr h)) (fun j hj => ?_) (fun j hj => ?_) (fun g hg => ⟨by have hg' : v3.ownBlock = some g := hg; simp [hg'], fun hw => ?_⟩), g3, c3, by omega, fun _ => rfl, fun _ => rfl, get_len g.good 1 _⟩⟩
    · rcases List.mem_append.1 hj with hj | hj
      · exact (hr.bv j (by simpa using hj)).1
      · exact z1 j (h.hq.fz j hj)
    · rcases List.mem_append.1 hj with hj | hj
      · exact .inr (z0 j (by simpa using hj))
      · exact .inl hj
    · have h5 := h.lt g (h.wf g hw)
      have h6 := z0 g hg
      omega
  · obtain rfl := h1 (by omega)
    obtain rfl := h3 (by omega)
    have g4 := g.pop4 (who := 1) hN hwho hwi
    have l4 := g.lgS (who := 1) hwho po []
    have c4 := c.box (k := 3) (by decide) (g.t2 (by omega)) (by omega) g.s2 (.inr rfl) 4 (by decide)
    rw [← l4] at c4
    refine (rgstep_pop4 hg rfl rfl rfl rfl (g.sp _) g.good (by decide) (by omega) (by decide) (by omega) hwi hwd1 (by show 0 ≤ (po : Int) ∧ 1 ≤ (N : Int) ∧ (N : Int) ≤ 64 ∧ (0 : Int) ≤ 1 ∧ (1 : Int) ≤ 1000; omega) (by show (setS M 1 (1 + (po : Int) % (N : Int)) []).lg.length = _; rw [l4]; simp)).mono ?_
    rintro e w2 ⟨rfl, hr⟩
    change Rg n w0 w fs zs a r ⟨p, 1, 1, N, ps, true⟩ ⟨r, 1, true, bv, 4, pu', po, false, false, 0⟩ l1 (setS M 1 (1 + (po : Int) % (N : Int)) []) w2 at hr
    exact ⟨_, _, _, by rw [l4]; simp, .inl ⟨rfl, _, _, _, _, _, h.back1 rfl hr (fun _ h => h) h.hq.fz (fun _ h => .inl h) hbv, g4, c4, by omega, fun _ => rfl, fun _ => rfl, hl1⟩⟩
  · obtain rfl := h1 (by omega)
    obtain rfl := h3 (by omega)
    obtain ⟨hL, g5⟩ := g.pop5 (who := 1) hwho hwi
    have l5 := g.lgW (who := 1) (a := 2) hwho (by decide) ((po : Int) + 1)
    have c5 := c.pop5
    rw [← l5] at c5
    have hpo : po ≤ 100000 := by omega
    refine (rgstep_pop5 hg rfl rfl rfl rfl (g.sp _) g.good (by decide) (by omega) (by decide) (by omega) hwi hwd1 (by show 0 ≤ (po : Int) ∧ (po : Int) ≤ 1000000; omega) (by show (storeS M 1 2 ((po : Int) + 1)).lg.length = _; rw [l5]; simp)).mono ?_
    rintro e w2 ⟨rfl, hr⟩
    change Rg n w0 w fs zs a r ⟨p, 1, 1, N, ps, false⟩ ⟨r, 1, true, bv, 5, pu', po, true, true, ((storeS M 1 2 ((po : Int) + 1)).lg.length : Int)⟩ l1 (storeS M 1 2 ((po : Int) + 1)) w2 at hr
    exact ⟨_, _, _, by rw [l5]; simp, .inr ⟨rfl, _, _, _, _, _, _, l1, hl1, h.back1 rfl hr (fun _ h => h) h.hq.fz (fun _ h => .inl h) hbv, .inr ⟨rfl, hL, g5, c5⟩⟩⟩
end
end Go.Proofs.Ytjmkcgkkgamafaa.Rg
