/-
  A RING AND THE DOCUMENT'S OWN QUEUE side by side: what is kept from round to round.
-/
import Derived.Test.YtjmkcgkkgamafaaRgQueueP
namespace Go.Proofs.Ytjmkcgkkgamafaa.Rg
open Go.RowKit Rw Pk Go.Maps Mm
set_option linter.unusedVariables false
theorem qrow_own {w : World} {base m : Nat} {T : TypeId} {v : Value} {ss : List Sv} (h : w.ownsRow base T 1 v m (ss.map Sv.val)) : QRow w v ss := by
  have h' := h
  obtain ⟨hl, h2⟩ := h
  rw [List.length_map, Nat.mul_one] at hl
  subst hl
  rcases h2 with ⟨rfl, h0⟩ | ⟨g, cap, cur, rfl, hb, hg, hn, hc, hs, ht⟩
  · have hss : ss = [] := List.length_eq_zero_iff.1 h0
    subst hss
    exact ⟨none, 0, rfl, .inl ⟨rfl, rfl⟩, by decide, by decide⟩
  · exact ⟨_, cap, rfl, .inr ⟨_, rfl, fun j x hx => by rw [← add_pl]; exact World.ownsRow.cells h' rfl j x.val (by rw [List.getElem?_map, hx]; rfl)⟩, hn, hc⟩
theorem rdb_block {w w' : World} {v : Value} {l : List Batch.Ch} (h : Batch.Rd w v l) (hs : ∀ g, v.ownBlock = some g → w'.heap[g]? = w.heap[g]?) : Batch.Rd w' v l := by
  obtain ⟨ao, cp, rfl, h1, h2, h3, h4⟩ := h
  refine ⟨ao, cp, rfl, h1, h2, h3, ?_⟩
  rcases h4 with h4 | ⟨b', off, rfl, h4⟩
  · exact .inl h4
  · refine .inr ⟨b', off, rfl, fun i x hx => ?_⟩
    obtain ⟨c0, c1, c2⟩ := h4 i x hx
    have e : ∀ o, w'.cell? ⟨b', o, none⟩ = w.cell? ⟨b', o, none⟩ := fun o => World.cell?_of_block (w := w) (hs b' rfl)
    exact ⟨(e _).trans c0, (e _).trans c1, (e _).trans c2⟩
/-- The queue, in blocks fs. -/
structure Qs (fs : List Nat) (q N : Nat) (L : List (List Batch.Ch)) (w : World) (v : Value) (ss : List Sv) : Prop where
  qa : QAt w q N v
  row : QRow w v ss
  len : ss.length = L.length
  el : ∀ (i : Nat) (s : Sv) (c : List Batch.Ch), ss[i]? = some s → L[i]? = some c → Batch.Rd w s.val c
  mq : q ∈ fs
  mv : ∀ g, v.ownBlock = some g → g ∈ fs ∧ g ≠ q
  ms : ∀ s ∈ ss, ∀ g, s.val.ownBlock = some g → g ∈ fs ∧ g ≠ q
section
variable {w w' w1 w2 : World} {fs fs' zs zs' : List Nat} {q N n r a m : Nat} {L : List (List Batch.Ch)} {v v' : Value} {ss : List Sv} {w0 : World} {R R' : Ri} {A : Ac} {M M' : Mm.St} {l c : List Batch.Ch} {T : TypeId} {s : Sv}
theorem QAt.of_block (h : QAt w q N v) (e : w'.heap[q]? = w.heap[q]?) : QAt w' q N v := e.trans h
theorem Qs.keep (h : Qs fs q N L w v ss) (hb : ∀ j ∈ fs, w'.heap[j]? = w.heap[j]?) : Qs fs q N L w' v ss :=
  ⟨h.qa.of_block (hb _ h.mq), h.row.block (fun g hg => hb g (h.mv g hg).1), h.len, fun i s c hs hc => rdb_block (h.el i s c hs hc) (fun g hg => hb g (h.ms s (List.mem_of_getElem? hs) g hg).1), h.mq, h.mv, h.ms⟩
theorem Qs.more (h : Qs fs q N L w v ss) (hf : ∀ j ∈ fs, j ∈ fs') : Qs fs' q N L w v ss :=
  ⟨h.qa, h.row, h.len, h.el, hf _ h.mq, fun g hg => ⟨hf _ (h.mv g hg).1, (h.mv g hg).2⟩, fun s hs g hg => ⟨hf _ (h.ms s hs g hg).1, (h.ms s hs g hg).2⟩⟩
theorem QAt.set (h : QAt w q N v) (v' : Value) : QAt (w.setCell ⟨q, 0, none⟩ v') q N v' := by
  unfold QAt at *
  exact heap_setCell_same w q 0 _ _ _ h
/-- The queue's slice is another one, made meanwhile; what was in it is there, or is one that is kept. -/
theorem Qs.set {L' : List (List Batch.Ch)} {ss' : List Sv} (h : Qs fs q N L w v ss) (hf : ∀ j ∈ fs, j < w.heap.size) (hb : Below w.heap.size w w1) (ho : w1.ownsRow w.heap.size T 1 v' m (ss'.map Sv.val)) (hl : ss'.length = L'.length)
    (he : ∀ (i : Nat) (s : Sv) (c : List Batch.Ch), ss'[i]? = some s → L'[i]? = some c → Batch.Rd w s.val c) (hm : ∀ s ∈ ss', ∀ g, s.val.ownBlock = some g → g ∈ fs ∧ g ≠ q) :
    Qs (v'.ownBlock.toList ++ fs) q N L' (w1.setCell ⟨q, 0, none⟩ v') v' ss' := by
  have hv : ∀ g, v'.ownBlock = some g → g ≠ q := fun g hg e => by have := (World.ownsRow.lt ho g hg).1; have := hf q h.mq; omega
  have hk : ∀ g, g ∈ fs → g ≠ q → (w1.setCell ⟨q, 0, none⟩ v').heap[g]? = w.heap[g]? := fun g hg hq => (Below.heap_setCell _ _ _ _ hq).trans (hb.block g (hf g hg))
  refine ⟨(h.qa.of_block (hb.block q (hf q h.mq))).set v', (qrow_own ho).block (fun g hg => Below.heap_setCell _ _ _ _ (hv g hg)), hl, fun i s c hs hc => rdb_block (he i s c hs hc) (fun g hg => ?_), by simp [h.mq], fun g hg => ⟨by simp [hg], hv g hg⟩, fun s hs g hg => ⟨by simp [(hm s hs g hg).1], (hm s hs g hg).2⟩⟩
  have := hm s (List.mem_of_getElem? hs) g hg
  exact hk g this.1 this.2
theorem Rq.store (h : Rq n w0 w1 fs zs r R M w) {g : Nat} (hg : g ∈ zs) (hn : n ≤ g) (hr : g ≠ r) (o : Nat) (u : Value) : Rq n w0 (w.setCell ⟨g, o, none⟩ u) [] zs r R M (w.setCell ⟨g, o, none⟩ u) :=
  ⟨h.mz.store hg hn o u, h.ri.setO (Ne.symm hr) u, h.rm, h.nr, by simp, by simp, Nat.le_refl _⟩
/-- The Ring, and the queue, at one moment. -/
structure Rl (n : Nat) (w0 : World) (r q N : Nat) (zs fs : List Nat) (L : List (List Batch.Ch)) (R : Ri) (M : Mm.St) (w : World) (v : Value) (ss : List Sv) : Prop where
  hq : Rq n w0 w fs zs r R M w
  qs : Qs fs q N L w v ss
  nr : r ∉ fs
  nf : ∀ j ∈ fs, n ≤ j
theorem Rq.flt (h : Rq n w0 w1 fs zs r R M w) : ∀ j ∈ zs, j < w.heap.size := by obtain ⟨_, _, _, h3, _⟩ := h.mz; exact h3
theorem Rl.below (h : Rl n w0 r q N zs fs L R M w v ss) (hb : Below w.heap.size w w') : Rl n w0 r q N zs fs L R M w' v ss :=
  ⟨(h.hq.below hb).rebase h.hq.fz, h.qs.keep (fun j hj => hb.block j (h.hq.flt j (h.hq.fz j hj))), h.nr, h.nf⟩
/-- What a call made is kept, too. -/
theorem Rl.with (h : Rl n w0 r q N zs fs L R M w v ss) (hb : Below w.heap.size w w') {u : Value} (hu : ∀ g, u.ownBlock = some g → w.heap.size ≤ g ∧ g < w'.heap.size) :
    ∃ zs', Rl n w0 r q N zs' (u.ownBlock.toList ++ fs) L R M w' v ss ∧ ∀ g, u.ownBlock = some g → g ≠ q := by
  have hq := h.hq.all hb
  refine ⟨_, ⟨hq.rebase (fun j hj => ?_), (h.qs.keep (fun j hj => hb.block j (h.hq.flt j (h.hq.fz j hj)))).more (fun j hj => by simp [hj]), fun hr => ?_, fun j hj => ?_⟩, fun g hg e => ?_⟩
  · rcases List.mem_append.1 hj with hj | hj
    · have := hu j (by simpa using hj)
      exact all_mem this.1 this.2
    · exact all_old _ (h.hq.fz j hj)
  · rcases List.mem_append.1 hr with hr | hr
    · have := (hu r (by simpa using hr)).1
      have := h.hq.ri.lt
      omega
    · exact h.nr hr
  · rcases List.mem_append.1 hj with hj | hj
    · have := (hu j (by simpa using hj)).1
      have := h.hq.mz.nl
      omega
    · exact h.nf j hj
  · have := (hu g hg).1
    have := h.hq.flt q (h.hq.fz q h.qs.mq)
    omega
/-- Back from an act. -/
theorem Rl.back (h : Rl n w0 r q N zs fs L R M w v ss) (hg : Rg n w0 w fs zs' a r R' A l M' w') (ha : w.heap.size ≤ a) : Rl n w0 r q N zs' fs L R' M' w' v ss := by
  have hlt : ∀ j ∈ fs, j < w.heap.size := fun j hj => h.hq.flt j (h.hq.fz j hj)
  have haf : a ∉ fs := fun hc => by have := hlt a hc; omega
  exact ⟨(hg.ring haf).rebase hg.fz, h.qs.keep (fun j hj => hg.fr j hj (fun e => haf (e ▸ hj)) (fun e => h.nr (e ▸ hj))), h.nr, h.nf⟩
theorem Rl.set {L' : List (List Batch.Ch)} {ss' : List Sv} (h : Rl n w0 r q N zs fs L R M w v ss) (hb : Below w.heap.size w w1) (ho : w1.ownsRow w.heap.size T 1 v' m (ss'.map Sv.val)) (hl : ss'.length = L'.length)
    (he : ∀ (i : Nat) (s : Sv) (c : List Batch.Ch), ss'[i]? = some s → L'[i]? = some c → Batch.Rd w s.val c) (hm : ∀ s ∈ ss', ∀ g, s.val.ownBlock = some g → g ∈ fs ∧ g ≠ q) :
    ∃ zs', Rl n w0 r q N zs' (v'.ownBlock.toList ++ fs) L' R M (w1.setCell ⟨q, 0, none⟩ v') v' ss' := by
  have hlt : ∀ j ∈ fs, j < w.heap.size := fun j hj => h.hq.flt j (h.hq.fz j hj)
  have hq := h.hq.all hb
  have hqr : q ≠ r := fun e => h.nr (e ▸ h.qs.mq)
  have hs := hq.store (all_old _ (h.hq.fz q h.qs.mq)) (h.nf q h.qs.mq) hqr 0 v'
  have hv : ∀ g, v'.ownBlock = some g → w.heap.size ≤ g ∧ g < w1.heap.size := fun g hg => World.ownsRow.lt ho g hg
  refine ⟨_, hs.rebase (fun j hj => ?_), h.qs.set hlt hb ho hl he hm, fun hr => ?_, fun j hj => ?_⟩
  · rcases List.mem_append.1 hj with hj | hj
    · have := hv j (by simpa using hj)
      exact all_mem this.1 this.2
    · exact all_old _ (h.hq.fz j hj)
  · rcases List.mem_append.1 hr with hr | hr
    · have := (hv r (by simpa using hr)).1
      have := h.hq.ri.lt
      omega
    · exact h.nr hr
  · rcases List.mem_append.1 hj with hj | hj
    · have := (hv j (by simpa using hj)).1
      have := h.hq.mz.nl
      omega
    · exact h.nf j hj
/-- One more. -/
theorem Rl.push (h : Rl n w0 r q N zs fs L R M w v ss) (hb : Below w.heap.size w w1) (ho : w1.ownsRow w.heap.size T 1 v' m (ss.map Sv.val ++ [s.val])) (hr : Batch.Rd w s.val c) (hs : ∀ g, s.val.ownBlock = some g → g ∈ fs ∧ g ≠ q) :
    ∃ zs', Rl n w0 r q N zs' (v'.ownBlock.toList ++ fs) (L ++ [c]) R M (w1.setCell ⟨q, 0, none⟩ v') v' (ss ++ [s]) := by
  refine h.set hb (by simpa using ho) (by simp [h.qs.len]) (fun i s' c' h1 h2 => ?_) (fun s' hs' g hg => ?_)
  · have hl := h.qs.len
    by_cases hi : i < ss.length
    · rw [List.getElem?_append_left hi] at h1
      rw [List.getElem?_append_left (by omega)] at h2
      exact h.qs.el i s' c' h1 h2
    · rw [List.getElem?_append_right (by omega)] at h1 h2
      have e1 : s' = s := by simpa using List.mem_of_getElem? h1
      have e2 : c' = c := by simpa using List.mem_of_getElem? h2
      subst e1 e2
      exact hr
  · rcases List.mem_append.1 hs' with h1 | h1
    · exact h.qs.ms s' h1 g hg
    · obtain rfl := List.mem_singleton.1 h1
      exact hs g hg
/-- The first one is gone. -/
theorem Rl.pop {L' : List (List Batch.Ch)} {ss' : List Sv} (h : Rl n w0 r q N zs fs (c :: L') R M w v (s :: ss')) (hb : Below w.heap.size w w1) (ho : w1.ownsRow w.heap.size T 1 v' m (ss'.map Sv.val)) :
    ∃ zs', Rl n w0 r q N zs' (v'.ownBlock.toList ++ fs) L' R M (w1.setCell ⟨q, 0, none⟩ v') v' ss' := by
  refine h.set hb ho (by have := h.qs.len; simpa using this) (fun i s' c' h1 h2 => h.qs.el (i + 1) s' c' (by simpa using h1) (by simpa using h2)) (fun s' hs' g hg => h.qs.ms s' (List.mem_cons_of_mem _ hs') g hg)
/-- What is kept of another block. -/
theorem Rl.old (h : Rl n w0 r q N zs fs L R M w v ss) (hb : Below w.heap.size w w1) {g : Nat} (hg : g < w.heap.size) (hq : g ≠ q) : (w1.setCell ⟨q, 0, none⟩ v').heap[g]? = w.heap[g]? := (Below.heap_setCell _ _ _ _ hq).trans (hb.block g hg)
theorem Rl.first (h : Rl n w0 r q N zs fs (c :: L) R M w v (s :: ss)) : Batch.Rd w s.val c ∧ ∀ g, s.val.ownBlock = some g → g ∈ fs ∧ g ≠ q := ⟨h.qs.el 0 s c rfl rfl, h.qs.ms s (List.mem_cons_self ..)⟩
end
end Go.Proofs.Ytjmkcgkkgamafaa.Rg
