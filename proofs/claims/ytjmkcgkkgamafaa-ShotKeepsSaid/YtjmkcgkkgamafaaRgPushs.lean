/-
  PACKAGE ring: a Push and a Pop begin; what was popped.
-/
import Derived.Test.YtjmkcgkkgamafaaRgStep
namespace Go.Proofs.Ytjmkcgkkgamafaa.Rg
open Go.RowKit Rw Pk Go.Maps Mm
set_option linter.unusedVariables false
section
variable {w w' : World} {R : Ri} {A : Ac} {n a r p : Nat} {w0 wr : World} {fs zs : List Nat} {l : List Batch.Ch} {M M' : Mm.St}
/-- All that was made meanwhile isn't the Mem's. -/
theorem memz_all (h : MemZ n w0 zs p M w) (hb : Below w.heap.size w w') : MemZ n w0 (List.range' w.heap.size (w'.heap.size - w.heap.size) ++ zs) p M w' := by
  obtain ⟨τ, h1, h2, h3, h4, h5⟩ := h
  have hz : ∀ g, w.heap.size ≤ g → τ g = 0 := by
    intro g hg
    obtain ⟨V, hV⟩ := h1
    by_cases e : τ g = 0
    · exact e
    · have := hV.tz g e; omega
  have hs := hb.size
  refine ⟨τ, h1.below hb, fun j hj => ?_, fun j hj => ?_, Nat.le_trans h4 hb.size, h5.trans (hb.mono h4)⟩
  · rcases hj with hj | hj
    · exact h2 j (.inl hj)
    · rcases List.mem_append.1 hj with hj | hj
      · exact hz j (by simp [List.mem_range'] at hj; omega)
      · exact h2 j (.inr hj)
  · rcases List.mem_append.1 hj with hj | hj
    · simp [List.mem_range'] at hj; omega
    · have := h3 j hj; omega
theorem all_mem {x y g : Nat} (h : x ≤ g) (h' : g < y) : g ∈ List.range' x (y - x) ++ zs := List.mem_append.2 (.inl (List.mem_range'_1.2 ⟨h, by omega⟩))
theorem all_old {x y : Nat} : ∀ j ∈ zs, j ∈ List.range' x (y - x) ++ zs := fun j hj => List.mem_append.2 (.inr hj)
theorem all_inv {x y : Nat} : ∀ j ∈ List.range' x (y - x) ++ zs, j ∈ zs ∨ x ≤ j := fun j hj => (List.mem_append.1 hj).elim (fun h => .inr (by simp [List.mem_range'] at h; omega)) .inl
/-- A Ring beside its Mem, and what else is kept. -/
structure Rq (n : Nat) (w0 wr : World) (fs zs : List Nat) (r : Nat) (R : Ri) (M : Mm.St) (w : World) : Prop where
  mz : Mm.MemZ n w0 zs R.p M w
  ri : RiAt w r R
  rm : r ∈ zs
  nr : n ≤ r
  fz : ∀ j ∈ fs, j ∈ zs
  fr : ∀ j ∈ fs, j ≠ r → w.heap[j]? = wr.heap[j]?
  sz : wr.heap.size ≤ w.heap.size
theorem Rg.ring (h : Rg n w0 wr fs zs a r R A l M w) (ha : a ∉ fs) : Rq n w0 wr fs zs r R M w := ⟨h.mz, h.ri, h.rm, h.nr, h.fz, fun j hj hr => h.fr j hj (fun e => ha (e ▸ hj)) hr, h.sz⟩
theorem Rq.below (h : Rq n w0 wr fs zs r R M w) (hb : Below w.heap.size w w') : Rq n w0 wr fs zs r R M w' :=
  ⟨h.mz.below hb, h.ri.of_block (hb.block _ h.ri.lt), h.rm, h.nr, h.fz, fun j hj hr => ((h.mz.keep hb).2 j (.inr (h.fz j hj))).trans (h.fr j hj hr), Nat.le_trans h.sz hb.size⟩
theorem Rq.setR (h : Rq n w0 wr fs zs r R M w) (o : Nat) (u : Value) {R' : Ri} (hR : RiAt (w.setCell ⟨r, o, none⟩ u) r R') (hp : R'.p = R.p) : Rq n w0 wr fs zs r R' M (w.setCell ⟨r, o, none⟩ u) :=
  ⟨by rw [hp]; exact h.mz.store h.rm h.nr o u, hR, h.rm, h.nr, h.fz, fun j hj hr => (Below.heap_setCell _ _ _ _ hr).trans (h.fr j hj hr), by rw [Mm.size_setCell]; exact h.sz⟩
/-- What a new act is. -/
theorem Rq.act (h : Rq n w0 wr fs zs r R M w) (hb : Below w.heap.size w w') (hA : AcAt w' a A) (ha : w.heap.size ≤ a) (hr : A.r = r) (hs : Batch.Sl w' A.bv l) (hv : ∀ g, A.bv.ownBlock = some g → w.heap.size ≤ g ∧ g < w'.heap.size ∧ g ≠ a) :
    ∃ zs', (∀ j ∈ zs, j ∈ zs') ∧ (∀ j ∈ zs', j ∈ zs ∨ w.heap.size ≤ j) ∧ Rg n w0 wr fs zs' a r R A l M w' := by
  have hq := h.below hb
  have h1 := h.ri.lt
  have h2 := h.mz.nl
  have h3 := hA.lt
  exact ⟨_, all_old, all_inv, memz_all h.mz hb, hq.ri, hA, all_mem ha h3, all_old _ h.rm, by omega, h.nr, by omega, hr, hs, fun g hg => ⟨all_mem (hv g hg).1 (hv g hg).2.1, (hv g hg).2.2, by have := (hv g hg).1; omega⟩, fun j hj => all_old _ (h.fz j hj), fun j hj _ hr => hq.fr j hj hr, hq.sz⟩
set_option maxRecDepth 1000000 in
set_option maxHeartbeats 8000000 in
theorem rgpush_no (h : RiAt w r R) (hps : R.ps = true) (who : Int) (v : Value) :
    Calls Try.prog 25 #[.pointer (some ⟨r, 0, none⟩), .int .i64 who, v] w fun e w' => e = .returned (.pointer none) ∧ w = w' := by
  have HN := Lib.hid (rgnone_any h)
  obtain ⟨_, _, _, _, r4, _, _⟩ := h.cells
  rw [hps] at r4
  clear h hps
  go_enter Try.func25, Try.ntmps25
  go_wp2_with fail
  go_at_call 63
  refine HN.out.mono ?_
  rintro e w1 ⟨rfl, rfl⟩
  go_wp2_with fail
  go_ret
  exact ⟨rfl, rfl⟩
set_option maxRecDepth 1000000 in
set_option maxHeartbeats 8000000 in
theorem rgpop_no (h : RiAt w r R) (hps : R.pp = true) (who : Int) :
    Calls Try.prog 15 #[.pointer (some ⟨r, 0, none⟩), .int .i64 who] w fun e w' => e = .returned (.pointer none) ∧ w = w' := by
  have HN := Lib.hid (rgnone_any h)
  obtain ⟨_, _, _, _, _, r5, _⟩ := h.cells
  rw [hps] at r5
  clear h hps
  go_enter Try.func15, Try.ntmps15
  go_wp2_with fail
  go_at_call 63
  refine HN.out.mono ?_
  rintro e w1 ⟨rfl, rfl⟩
  go_wp2_with fail
  go_ret
  exact ⟨rfl, rfl⟩
set_option maxRecDepth 1000000 in
set_option maxHeartbeats 8000000 in
theorem rgpop_yes (h : Rq n w0 wr fs zs r R M w) (hps : R.pp = false) (who : Int) :
    Calls Try.prog 15 #[.pointer (some ⟨r, 0, none⟩), .int .i64 who] w fun e w' => ∃ a, e = .returned (.pointer (some ⟨a, 0, none⟩)) ∧ w.heap.size ≤ a ∧ ∃ zs', (∀ j ∈ zs, j ∈ zs') ∧ (∀ j ∈ zs', j ∈ zs ∨ w.heap.size ≤ j) ∧
      Rg n w0 wr fs zs' a r { R with pp := true } ⟨r, who, true, .slice none 0 0, 0, 0, 0, false, false, 0⟩ [] M w' := by
  have HN := Lib.hid (rgnone_any h.ri)
  have HQ := Lib.hid (h.setR 5 (.bool true) (h.ri.set5 true) rfl)
  obtain ⟨_, _, _, _, _, r5, rf⟩ := h.ri.cells
  rw [hps] at r5
  clear h hps
  go_enter Try.func15, Try.ntmps15
  go_wp2_with fail
  go_at_call 63
  refine HN.out.mono ?_
  rintro e w1 ⟨rfl, rfl⟩
  go_wp2_with fail
  go_ret
  refine ⟨_, rfl, Nat.le_refl _, ?_⟩
  rw [← Mm.size_setCell w ⟨r, 5, none⟩ (.bool true)]
  exact HQ.out.act ((Below.refl _ _).alloc (Nat.le_refl _) _) (heap_alloc_new _ _) (Nat.le_refl _) rfl (Batch.Sl.nil _) (fun g hg => by simp [Value.ownBlock] at hg)
set_option maxRecDepth 1000000 in
set_option maxHeartbeats 8000000 in
theorem rgpush_yes (h : Rq n w0 wr fs zs r R M w) (hps : R.ps = false) (who : Int) {v : Value} (hs : Batch.Sl w v l) (hl : l.length ≤ 1000) (hv : ∀ g, v.ownBlock = some g → g ≠ r) :
    Calls Try.prog 25 #[.pointer (some ⟨r, 0, none⟩), .int .i64 who, v] w fun e w' => ∃ a, e = .returned (.pointer (some ⟨a, 0, none⟩)) ∧ w.heap.size ≤ a ∧ ∃ bv zs', (∀ j ∈ zs, j ∈ zs') ∧ (∀ j ∈ zs', j ∈ zs ∨ w.heap.size ≤ j) ∧
      Rg n w0 wr fs zs' a r { R with ps := true } ⟨r, who, false, bv, 0, 0, 0, false, false, 0⟩ l M w' := by
  have HN := Lib.hid (rgnone_any h.ri)
  have HQ := Lib.hid (h.setR 4 (.bool true) (h.ri.set4 true) rfl)
  have HC := Lib.hid (Batch.cloneB_any (w := w.setCell ⟨r, 4, none⟩ (.bool true)) (sl_block hs (fun g hg => Below.heap_setCell _ _ _ _ (hv g hg))) (by omega))
  have HW := Lib.hid hs.wf
  obtain ⟨_, _, _, _, r4, _, rf⟩ := h.ri.cells
  rw [hps] at r4
  clear h hps hs hl hv
  go_enter Try.func25, Try.ntmps25
  go_wp2_with fail
  go_at_call 63
  refine HN.out.mono ?_
  rintro e w1 ⟨rfl, rfl⟩
  go_wp2_with fail
  go_at_call 64
  refine HC.out.mono ?_
  rintro e w3 ⟨v', rfl, ho, hb⟩
  obtain ⟨ao, vn, cp, rfl⟩ : ∃ ao n c, v' = .slice ao n c := Mm.bown_form ho
  have HO := Lib.hid ho
  have HB := Lib.hid hb
  clear ho hb
  go_wp2_with fail
  go_ret
  have hz : (w.setCell ⟨r, 4, none⟩ (.bool true)).heap.size = w.heap.size := Mm.size_setCell _ _ _
  have hs3 := HB.out.size
  refine ⟨_, rfl, by omega, .slice ao vn cp, ?_⟩
  rw [← hz]
  refine HQ.out.act (HB.out.trans ((Below.refl _ _).alloc hs3 _)) (heap_alloc_new _ _) hs3 rfl ((Batch.Own.sl HO.out HW.out).below ((Below.refl _ _).alloc (Nat.le_refl _) _)) (fun g hg => ?_)
  rcases Batch.Own.form HO.out with ⟨_, hv⟩ | ⟨g', cap, hv, h6, h7, _⟩
  · rw [hv] at hg; simp [Value.ownBlock] at hg
  · have e : g' = g := by rw [hv] at hg; simpa [Value.ownBlock] using hg
    subst e
    exact ⟨h6, Nat.lt_of_lt_of_le h7 ((Below.refl w3.heap.size w3).alloc (Nat.le_refl _) _).size, by omega⟩
set_option maxRecDepth 1000000 in
set_option maxHeartbeats 8000000 in
theorem rgbatch_any (h : AcAt w a A) (hs : Batch.Sl w A.bv l) (hl : l.length ≤ 1000) :
    Calls Try.prog 22 #[.pointer (some ⟨a, 0, none⟩)] w fun e w' => ∃ v, e = .returned v ∧ Batch.Own w' w.heap.size 85 v (if A.okk then l else []) ∧ Below w.heap.size w w' := by
  have HK := Lib.hid (rgok_any h)
  have HC := Lib.hid (Batch.cloneB_any hs (by omega))
  obtain ⟨_, _, _, c3, _, _, _, c7, _, _, _⟩ := h.cells
  clear h hs hl
  cases hk : A.okk with
  | true =>
    rw [hk] at HK
    go_enter Try.func22, Try.ntmps22
    go_wp2_with fail
    go_at_call 19
    refine HK.out.mono ?_
    rintro e w1 ⟨rfl, rfl⟩
    go_wp2_with fail
    go_at_call 64
    refine HC.out.mono ?_
    rintro e w3 ⟨v', rfl, ho, hb⟩
    have HO := Lib.hid ho
    have HB := Lib.hid hb
    clear ho hb
    go_wp2_with fail
    go_ret
    exact ⟨_, rfl, HO.out, HB.out⟩
  | false =>
    rw [hk] at HK
    go_enter Try.func22, Try.ntmps22
    go_wp2_with fail
    go_at_call 19
    refine HK.out.mono ?_
    rintro e w1 ⟨rfl, rfl⟩
    go_wp2_with fail
    go_ret
    exact ⟨_, rfl, Batch.Own.nil _ _ _, Below.refl _ _⟩
end
end Go.Proofs.Ytjmkcgkkgamafaa.Rg
