/-
  PACKAGE mem: a Mem beside other memory: each call, and that blocks that aren't the Mem's are as they were.
  BLOCKS that are as they were: slices that lie there; what was made meanwhile (package mem's worlds).
-/
import Derived.Test.YtmggnalobfihnaaJoined7
import Derived.Test.YtmggnalobfihnaaJoined1
import Derived.Laws.Rows
namespace Go.Proofs.Ytmggnalobfihnaa.Mm
open Go.RowKit Rw Pk Go.Maps
set_option linter.unusedVariables false

/-- A Mem; zs: blocks that aren't its own. -/
def MemZ (n : Nat) (w0 : World) (zs : List Nat) (p : Nat) (M : St) (w : World) : Prop := ∃ τ, MemAt τ w p M ∧ (∀ j, j < n ∨ j ∈ zs → τ j = 0) ∧ (∀ j ∈ zs, j < w.heap.size) ∧ n ≤ w.heap.size ∧ Below n w0 w
def KeepB (n : Nat) (zs : List Nat) (w w' : World) : Prop := w.heap.size ≤ w'.heap.size ∧ ∀ j, j < n ∨ j ∈ zs → w'.heap[j]? = w.heap[j]?
section
variable {n p : Nat} {zs : List Nat} {w0 w w' w'' : World} {M M' : St}
theorem KeepB.refl (n : Nat) (zs : List Nat) (w : World) : KeepB n zs w w := ⟨Nat.le_refl _, fun _ _ => rfl⟩
theorem KeepB.trans (h : KeepB n zs w w') (k : KeepB n zs w' w'') : KeepB n zs w w'' := ⟨Nat.le_trans h.1 k.1, fun j hj => (k.2 j hj).trans (h.2 j hj)⟩
theorem KeepB.cell (h : KeepB n zs w w') {g : Nat} (hg : g ∈ zs) (o : Nat) : w'.cell? ⟨g, o, none⟩ = w.cell? ⟨g, o, none⟩ := World.cell?_of_block (w := w) (h.2 g (.inr hg))
theorem KeepB.frozen (h : KeepB n zs w w') {g : Nat} (hg : g ∈ zs) (o : Nat) : w'.frozen? ⟨g, o, none⟩ = w.frozen? ⟨g, o, none⟩ := World.frozen?_of_block (w := w) (h.2 g (.inr hg))
theorem KeepB.less {zs' : List Nat} (h : KeepB n zs w w') (hz : ∀ j ∈ zs', j ∈ zs) : KeepB n zs' w w' := ⟨h.1, fun j hj => h.2 j (hj.imp id (hz j))⟩
theorem MemZ.zero (h : MemZ n w0 zs p M w) : ∃ τ, MemAt τ w p M ∧ (∀ j, j < n ∨ j ∈ zs → τ j = 0) := by obtain ⟨τ, h1, h2, _⟩ := h; exact ⟨τ, h1, h2⟩
theorem MemZ.kept (h : MemZ n w0 zs p M w) : Below n w0 w := by obtain ⟨_, _, _, _, _, h⟩ := h; exact h
theorem MemZ.nl (h : MemZ n w0 zs p M w) : n ≤ w.heap.size := by obtain ⟨_, _, _, _, h, _⟩ := h; exact h
theorem memz_start {a b c : Nat} {τ : Nat → Nat} (hm : MemAt τ w p M) (ht : ∀ j, j < w0.heap.size → τ j = 0) (hb : Below w0.heap.size w0 w) : MemZ w0.heap.size w0 [] p M w := ⟨τ, hm, fun j hj => hj.elim (ht j) (fun h => by simp at h), by simp, hb.size, hb⟩
theorem MemZ.below (h : MemZ n w0 zs p M w) (hb : Below w.heap.size w w') : MemZ n w0 zs p M w' := by
  obtain ⟨τ, h1, h2, h3, h4, h5⟩ := h
  exact ⟨τ, h1.below hb, h2, fun j hj => Nat.lt_of_lt_of_le (h3 j hj) hb.size, Nat.le_trans h4 hb.size, h5.trans (hb.mono h4)⟩
theorem keepB_below (hn : n ≤ w.heap.size) (hz : ∀ j ∈ zs, j < w.heap.size) (hb : Below w.heap.size w w') : KeepB n zs w w' := ⟨hb.size, fun j hj => hb.block j (hj.elim (fun h => by omega) (hz j))⟩
theorem MemZ.keep (h : MemZ n w0 zs p M w) (hb : Below w.heap.size w w') : KeepB n zs w w' := by
  obtain ⟨τ, h1, h2, h3, h4, h5⟩ := h
  exact keepB_below h4 h3 hb
theorem MemZ.add (h : MemZ n w0 zs p M w) (hb : Below w.heap.size w w') {g : Nat} (hg : w.heap.size ≤ g) (hg' : g < w'.heap.size) : MemZ n w0 (g :: zs) p M w' := by
  obtain ⟨τ, h1, h2, h3, h4, h5⟩ := h
  have hz : τ g = 0 := by
    obtain ⟨V, hV⟩ := h1
    by_cases e : τ g = 0
    · exact e
    · have := hV.tz g e; omega
  exact ⟨τ, h1.below hb, fun j hj => by
    rcases hj with hj | hj
    · exact h2 j (.inl hj)
    · rcases List.mem_cons.1 hj with rfl | hj
      · exact hz
      · exact h2 j (.inr hj), fun j hj => by
    rcases List.mem_cons.1 hj with rfl | hj
    · exact hg'
    · exact Nat.lt_of_lt_of_le (h3 j hj) hb.size, Nat.le_trans h4 hb.size, h5.trans (hb.mono h4)⟩
theorem MemZ.drop {zs' : List Nat} (h : MemZ n w0 zs p M w) (hz : ∀ j ∈ zs', j ∈ zs) : MemZ n w0 zs' p M w := by
  obtain ⟨τ, h1, h2, h3, h4⟩ := h
  exact ⟨τ, h1, fun j hj => h2 j (hj.imp id (hz j)), fun j hj => h3 j (hz j hj), h4⟩
theorem MemZ.store (h : MemZ n w0 zs p M w) {g : Nat} (hg : g ∈ zs) (hn : n ≤ g) (o : Nat) (u : Value) : MemZ n w0 zs p M (w.setCell ⟨g, o, none⟩ u) := by
  obtain ⟨τ, ⟨V, h1⟩, h2, h3, h4, h5⟩ := h
  have hs : w.heap.size = (w.setCell ⟨g, o, none⟩ u).heap.size := (size_setCell _ _ _).symm
  have ht := h2 g (.inr hg)
  exact ⟨τ, ⟨V, h1.keep ⟨Nat.le_of_eq hs, fun i hi h0 _ => Below.heap_setCell _ _ _ _ (fun e => h0 (by rw [e]; exact ht))⟩ (fun _ _ => rfl) fun i hi => by rw [← hs]; exact h1.tz i hi⟩, h2, fun j hj => by rw [← hs]; exact h3 j hj, by rw [← hs]; exact h4, h5.setCell hn _⟩
theorem memz_of {τ : Nat → Nat} (h2 : ∀ j, j < n ∨ j ∈ zs → τ j = 0) (h3 : ∀ j ∈ zs, j < w.heap.size) (h4 : n ≤ w.heap.size) (h5 : Below n w0 w) (hp : MemP τ w p M' w') : MemZ n w0 zs p M' w' ∧ KeepB n zs w w' := by
  obtain ⟨τ', hm, hs⟩ := hp
  have hl : ∀ j, j < n ∨ j ∈ zs → j < w.heap.size := fun j hj => hj.elim (fun h => Nat.lt_of_lt_of_le h h4) (h3 j)
  exact ⟨⟨τ', hm, fun j hj => by rw [hs.ext j (hl j hj)]; exact h2 j hj, fun j hj => Nat.lt_of_lt_of_le (h3 j hj) hs.bel.size, Nat.le_trans h4 hs.bel.size, h5.trans (hs.below h4 fun j hj => h2 j (.inl hj))⟩, hs.bel.size, fun j hj => hs.out j (hl j hj) (h2 j hj)⟩
variable {A B C k : Nat}
theorem mz_load (h : MemZ n w0 zs p M w) (hG : Good A B C k M) (ha : A ≤ 65536) (hb : B ≤ 65536) (hc : C ≤ 65536) (hk : k ≤ 100000) (who a : Int) (hw : I64 who) (ha' : I64 a) :
    Calls Try.prog 43 #[.pointer (some ⟨p, 0, none⟩), .int .i64 who, .int .i64 a] w fun e w' => e = .returned (.int .u64 (loadV M who a)) ∧ MemZ n w0 zs p (lookS M who 0 a) w' ∧ KeepB n zs w w' := by
  obtain ⟨τ, h1, h2, h3, h4, h5⟩ := h
  exact (load_any h1 (hG.bnd ha hb hc (by omega)).1 who a hw ha').mono fun e w' ⟨he, hp⟩ => ⟨he, memz_of h2 h3 h4 h5 hp⟩
theorem mz_store (h : MemZ n w0 zs p M w) (hG : Good A B C k M) (ha : A ≤ 65536) (hb : B ≤ 65536) (hc : C ≤ 65536) (hk : k ≤ 100000) (who a v : Int) (hw : I64 who) (ha' : I64 a) :
    Calls Try.prog 52 #[.pointer (some ⟨p, 0, none⟩), .int .i64 who, .int .i64 a, .int .u64 v] w fun e w' => e = .returned (.tuple #[]) ∧ MemZ n w0 zs p (storeS M who a v) w' ∧ KeepB n zs w w' := by
  obtain ⟨τ, h1, h2, h3, h4, h5⟩ := h
  exact (store_any h1 (hG.bnd ha hb hc (by omega)).1 who a v hw ha').mono fun e w' ⟨he, hp⟩ => ⟨he, memz_of h2 h3 h4 h5 hp⟩
theorem mz_take (h : MemZ n w0 zs p M w) (hG : Good A B C k M) (ha : A ≤ 65536) (hb : B ≤ 65536) (hc : C ≤ 65536) (hk : k ≤ 100000) (who a : Int) (hw : I64 who) (ha' : I64 a) :
    Calls Try.prog 48 #[.pointer (some ⟨p, 0, none⟩), .int .i64 who, .int .i64 a] w fun e w' => e = .returned (.bool (takeV M who a)) ∧ MemZ n w0 zs p (takeS M who a) w' ∧ KeepB n zs w w' := by
  obtain ⟨τ, h1, h2, h3, h4, h5⟩ := h
  exact (take_any h1 (hG.bnd ha hb hc (by omega)).1 who a hw ha').mono fun e w' ⟨he, hp⟩ => ⟨he, memz_of h2 h3 h4 h5 hp⟩
theorem mz_free (h : MemZ n w0 zs p M w) (hG : Good A B C k M) (ha : A ≤ 65536) (hb : B ≤ 65536) (hc : C ≤ 65536) (hk : k ≤ 100000) (who a : Int) (hw : I64 who) (ha' : I64 a) :
    Calls Try.prog 53 #[.pointer (some ⟨p, 0, none⟩), .int .i64 who, .int .i64 a] w fun e w' => e = .returned (.bool (relV M who 5 a)) ∧ MemZ n w0 zs p (relS M who 5 a) w' ∧ KeepB n zs w w' := by
  obtain ⟨τ, h1, h2, h3, h4, h5⟩ := h
  exact (free_any h1 (hG.bnd ha hb hc (by omega)).1 who a hw ha').mono fun e w' ⟨he, hp⟩ => ⟨he, memz_of h2 h3 h4 h5 hp⟩
theorem mz_get (h : MemZ n w0 zs p M w) (hG : Good A B C k M) (ha : A ≤ 65536) (hb : B ≤ 65536) (hc : C ≤ 65536) (hk : k ≤ 100000) (who a : Int) (hw : I64 who) (ha' : I64 a) :
    Calls Try.prog 50 #[.pointer (some ⟨p, 0, none⟩), .int .i64 who, .int .i64 a] w fun e w' => ∃ v, e = .returned v ∧ Batch.Own w' w.heap.size 58 v (getV M who a) ∧ MemZ n w0 zs p (lookS M who 2 a) w' ∧ KeepB n zs w w' := by
  obtain ⟨τ, h1, h2, h3, h4, h5⟩ := h
  exact (get_any h1 (hG.bnd ha hb hc (by omega)).1 who a hw ha').mono fun e w' ⟨v, he, ho, hp⟩ => ⟨v, he, ho, memz_of h2 h3 h4 h5 hp⟩
theorem mz_set (h : MemZ n w0 zs p M w) (hG : Good A B C k M) (ha : A ≤ 65536) (hb : B ≤ 65536) (hc : C ≤ 65536) (hk : k ≤ 100000) (who a : Int) (hw : I64 who) (ha' : I64 a) {v : Value} {l : List Batch.Ch} (hv : Batch.Sl w v l) (hl : l.length ≤ 20000) (hv0 : ∀ g, v.ownBlock = some g → g < n ∨ g ∈ zs) :
    Calls Try.prog 51 #[.pointer (some ⟨p, 0, none⟩), .int .i64 who, .int .i64 a, v] w fun e w' => e = .returned (.tuple #[]) ∧ MemZ n w0 zs p (setS M who a l) w' ∧ KeepB n zs w w' := by
  obtain ⟨τ, h1, h2, h3, h4, h5⟩ := h
  exact (set_any h1 (hG.bnd ha hb hc (by omega)).1 who a hw ha' hv hl (fun g hg => h2 g (hv0 g hg))).mono fun e w' ⟨he, hp⟩ => ⟨he, memz_of h2 h3 h4 h5 hp⟩
theorem mz_asleep (h : MemZ n w0 zs p M w) (who : Int) (hw : I64 who) :
    Calls Try.prog 34 #[.pointer (some ⟨p, 0, none⟩), .int .i64 who] w fun e w' => e = .returned (.bool (M.sp who)) ∧ w = w' := by
  obtain ⟨τ, h1, _⟩ := h
  exact asleep_any h1 who hw
theorem mz_time (h : MemZ n w0 zs p M w) :
    Calls Try.prog 12 #[.pointer (some ⟨p, 0, none⟩)] w fun e w' => e = .returned (.int .i64 (M.lg.length : Int)) ∧ w = w' := by
  obtain ⟨τ, h1, _⟩ := h
  exact time_any h1
theorem mz_log (h : MemZ n w0 zs p M w) (hG : Good A B C k M) (ha : A ≤ 65536) (hb : B ≤ 65536) (hc : C ≤ 65536) (hk : k ≤ 100000) :
    Calls Try.prog 22 #[.pointer (some ⟨p, 0, none⟩)] w fun e w' => ∃ v, e = .returned v ∧ Rr evK w' v M.lg ∧ Below w.heap.size w w' := by
  obtain ⟨τ, h1, _⟩ := h
  exact (log_any h1 (hG.bnd ha hb hc (by omega)).1.1).mono fun e w' ⟨v, he, ho, hb⟩ => ⟨v, he, (ho.sl hG.ev).rr, hb⟩
end
end Go.Proofs.Ytmggnalobfihnaa.Mm
namespace Go.Proofs.Ytmggnalobfihnaa.Mm
open Go.RowKit Rw Pk Go.Maps
set_option linter.unusedVariables false
theorem blk_rr {α : Type} {S : Kd α} {w w' : World} {v : Value} {l : List α} (h : Rr S w v l) (hz : w.heap.size ≤ w'.heap.size) (hs : ∀ g, v.ownBlock = some g → w'.heap[g]? = w.heap[g]?) : Rr S w' v l := by
  obtain ⟨ao, cap, rfl, h1, h2⟩ := h
  refine ⟨ao, cap, rfl, ?_, h2⟩
  rcases h1 with h1 | ⟨b, off, hb, rfl, h1⟩
  · exact .inl h1
  · exact .inr ⟨b, off, by omega, rfl, fun i x hx c u hc hu => (World.cell?_of_block (w := w) (hs b rfl)).trans (h1 i x hx c u hc hu)⟩
theorem blk_own {w w' : World} {base : Nat} {T : TypeId} {size n : Nat} {v : Value} {xs : List Value} (h : w.ownsRow base T size v n xs) (hs : ∀ g, v.ownBlock = some g → w'.heap[g]? = w.heap[g]?) : w'.ownsRow base T size v n xs := by
  refine ⟨h.1, ?_⟩
  rcases h.2 with h2 | ⟨g, cap, cur, rfl, hb, hg, rest⟩
  · exact .inl h2
  · exact .inr ⟨g, cap, cur, rfl, hb, (hs g rfl).trans hg, rest⟩
theorem blk_sl {w w' : World} {v : Value} {l : List Batch.Ch} (h : Batch.Sl w v l) (hs : ∀ g, v.ownBlock = some g → w'.heap[g]? = w.heap[g]?) : Batch.Sl w' v l := by
  obtain ⟨ao, cp, rfl, h1, h2⟩ := h
  refine ⟨ao, cp, rfl, ?_, h2⟩
  rcases h1 with h1 | ⟨b', off, rfl, h3⟩
  · exact .inl h1
  · refine .inr ⟨b', off, rfl, fun i x hx => ?_⟩
    obtain ⟨c0, c1, c2⟩ := h3 i x hx
    have e : ∀ o, w'.cell? ⟨b', o, none⟩ = w.cell? ⟨b', o, none⟩ := fun o => World.cell?_of_block (w := w) (hs b' rfl)
    exact ⟨(e _).trans c0, (e _).trans c1, (e _).trans c2⟩
theorem blk_to0 {w : World} {base : Nat} {T : TypeId} {size n : Nat} {v : Value} {xs : List Value} (h : w.ownsRow base T size v n xs) : w.ownsRow 0 T size v n xs := by
  refine ⟨h.1, ?_⟩
  rcases h.2 with h2 | ⟨g, cap, cur, rfl, hg, rest⟩
  · exact .inl h2
  · exact .inr ⟨g, cap, cur, rfl, Nat.zero_le _, rest⟩
section
variable {n p : Nat} {zs : List Nat} {w0 w w' : World} {M : St}
theorem blk_lt (h : MemZ n w0 zs p M w) : ∀ j ∈ zs, j < w.heap.size := by obtain ⟨_, _, _, h3, _⟩ := h; exact h3
/-- All that was made meanwhile isn't the Mem's. -/
theorem blk_all (h : MemZ n w0 zs p M w) (hb : Below w.heap.size w w') : MemZ n w0 (List.range' w.heap.size (w'.heap.size - w.heap.size) ++ zs) p M w' := by
  obtain ⟨τ, h1, h2, h3, h4, h5⟩ := h
  have hz : ∀ g, w.heap.size ≤ g → τ g = 0 := by
    intro g hg
    obtain ⟨V, hV⟩ := h1
    by_cases e : τ g = 0
    · exact e
    · have := hV.tz g e; omega
  have hs := hb.size
  refine ⟨τ, h1.below hb, fun j hj => ?_, fun j hj => ?_, Nat.le_trans h4 hb.size, h5.trans (hb.mono h4)⟩
  · rcases hj with hj | hj
    · exact h2 j (.inl hj)
    · rcases List.mem_append.1 hj with hj | hj
      · exact hz j (by simp [List.mem_range'] at hj; omega)
      · exact h2 j (.inr hj)
  · rcases List.mem_append.1 hj with hj | hj
    · simp [List.mem_range'] at hj; omega
    · have := h3 j hj; omega
theorem blk_mem {x y g : Nat} (h : x ≤ g) (h' : g < y) : g ∈ List.range' x (y - x) ++ zs := List.mem_append.2 (.inl (List.mem_range'_1.2 ⟨h, by omega⟩))
theorem blk_old {x y : Nat} : ∀ j ∈ zs, j ∈ List.range' x (y - x) ++ zs := fun j hj => List.mem_append.2 (.inr hj)
theorem blk_inv {x y : Nat} : ∀ j ∈ List.range' x (y - x) ++ zs, j ∈ zs ∨ x ≤ j := fun j hj => (List.mem_append.1 hj).elim (fun h => .inr (by simp [List.mem_range'] at h; omega)) .inl
end
end Go.Proofs.Ytmggnalobfihnaa.Mm
