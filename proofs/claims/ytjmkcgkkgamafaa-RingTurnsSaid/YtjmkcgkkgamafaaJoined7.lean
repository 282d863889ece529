/-
  PACKAGE mem, PLAIN MATHEMATICS: what stays so while few things are done.
  PACKAGE mem: a Mem beside other memory: each call, and that blocks that aren't the Mem's are as they were.
-/
import Derived.Test.YtjmkcgkkgamafaaMemLog
import Derived.Test.YtjmkcgkkgamafaaMemSet
namespace Go.Proofs.Ytjmkcgkkgamafaa.Mm
open Rw
set_option linter.unusedVariables false

structure Good (A B C k : Nat) (M : St) : Prop where
  a : M.ws.length = A
  b : M.bs.length = B
  c : M.ls.length = C
  l : M.lg.length ≤ k
  n : M.nb ≤ k
  bx : ∀ l ∈ M.bs, l.length ≤ 1000 ∧ ∀ x ∈ l, x.Wf
  la : ∀ L ∈ M.ls, L.sl.length ≤ k ∧ (∀ x ∈ L.sl, I64 x) ∧ I64 L.wh
  ev : ∀ e ∈ M.lg, evK.wf e
variable {A B C k : Nat} {M : St}
theorem Good.bnd (h : Good A B C k M) (ha : A ≤ 65536) (hb : B ≤ 65536) (hc : C ≤ 65536) (hk : k ≤ 1000000) : Bnd3 M := by
  have h1 := h.a; have h2 := h.b; have h3 := h.c; have h4 := h.l; have h5 := h.n
  exact ⟨⟨⟨by omega, by omega, by omega, by omega, by omega⟩, h.bx⟩, fun L hL => by obtain ⟨q1, q2, q3⟩ := h.la L hL; exact ⟨by omega, q2, q3⟩⟩
theorem good_init (a b c : Nat) : Good a b c 0 (initS a b c) :=
  ⟨by simp [initS], by simp [initS], by simp [initS], by simp [initS], by simp [initS], fun l hl => by
    obtain rfl := (List.mem_replicate.1 (show l ∈ List.replicate b [] from hl)).2
    exact ⟨by simp, by simp⟩, fun L hL => by
    obtain rfl := (List.mem_replicate.1 (show L ∈ List.replicate c ⟨false, 0, []⟩ from hL)).2
    exact ⟨by simp, by simp, by decide, by decide⟩, by simp [initS]⟩
theorem Good.more (h : Good A B C k M) {k' : Nat} (hk : k ≤ k') : Good A B C k' M :=
  ⟨h.a, h.b, h.c, Nat.le_trans h.l hk, Nat.le_trans h.n hk, h.bx, fun L hL => by obtain ⟨q1, q2, q3⟩ := h.la L hL; exact ⟨Nat.le_trans q1 hk, q2, q3⟩, h.ev⟩
theorem Good.note (h : Good A B C k M) {e : Ev} (he : evK.wf e) : Good A B C (k + 1) (M.note e) :=
  ⟨h.a, h.b, h.c, by show (M.lg ++ [e]).length ≤ _; have := h.l; simp; omega, Nat.le_trans h.n (Nat.le_succ k), h.bx, fun L hL => by obtain ⟨q1, q2, q3⟩ := h.la L hL; exact ⟨by omega, q2, q3⟩, fun x hx => by
    rcases List.mem_append.1 (show x ∈ M.lg ++ [e] from hx) with hx | hx
    · exact h.ev x hx
    · obtain rfl := List.mem_singleton.1 hx; exact he⟩
theorem Good.latch (h : Good A B C k M) {i : Nat} {L : La} (hL : L.sl.length ≤ k ∧ (∀ x ∈ L.sl, I64 x) ∧ I64 L.wh) : Good A B C k { M with ls := M.ls.set i L } :=
  ⟨h.a, h.b, by show (M.ls.set i L).length = C; rw [List.length_set]; exact h.c, h.l, h.n, h.bx, fun L' hL' => by
    rcases List.mem_or_eq_of_mem_set (show L' ∈ M.ls.set i L from hL') with h1 | rfl
    · exact h.la L' h1
    · exact hL, h.ev⟩
theorem Good.latA (h : Good A B C k M) (a : Int) : (latA M a).sl.length ≤ k ∧ (∀ x ∈ (latA M a).sl, I64 x) ∧ I64 (latA M a).wh := by
  unfold Mm.latA
  rw [List.getD_eq_getElem?_getD]
  cases hx : M.ls[a.toNat]? with
  | none => exact ⟨by simp, by simp, by decide, by decide⟩
  | some L => exact h.la L (List.mem_of_getElem? hx)
theorem wf_ev {who k a : Int} {ok : Bool} (hw : I64 who) (hk : 0 ≤ k ∧ k ≤ 7) (ha : I64 a) : evK.wf ⟨who, k, a, ok⟩ := ⟨hw, show I64 k from ⟨by omega, by omega⟩, ha⟩
theorem Good.look (h : Good A B C k M) {who q a : Int} (hw : I64 who) (hq : 0 ≤ q ∧ q ≤ 7) (ha : I64 a) : Good A B C (k + 1) (lookS M who q a) := by
  unfold lookS
  split
  · exact h.note (wf_ev hw hq ha)
  · exact h.more (Nat.le_succ k)
theorem Good.store (h : Good A B C k M) {who a v : Int} (hw : I64 who) (ha : I64 a) : Good A B C (k + 1) (storeS M who a v) := by
  unfold storeS
  split
  · have := h.note (e := ⟨who, 1, a, true⟩) (wf_ev hw (by decide) ha)
    exact ⟨by show (M.ws.set _ v).length = A; rw [List.length_set]; exact h.a, this.b, this.c, this.l, this.n, this.bx, this.la, this.ev⟩
  · exact h.more (Nat.le_succ k)
theorem Good.set (h : Good A B C k M) {who a : Int} {l : List Batch.Ch} (hw : I64 who) (ha : I64 a) (hl : l.length ≤ 1000 ∧ ∀ x ∈ l, x.Wf) : Good A B C (k + 1) (setS M who a l) := by
  unfold setS
  split
  · have := h.note (e := ⟨who, 3, a, true⟩) (wf_ev hw (by decide) ha)
    exact ⟨this.a, by show (M.bs.set _ l).length = B; rw [List.length_set]; exact h.b, this.c, this.l, this.n, fun l' hl' => by
      rcases List.mem_or_eq_of_mem_set (show l' ∈ M.bs.set _ l from hl') with h1 | rfl
      · exact h.bx l' h1
      · exact hl, this.la, this.ev⟩
  · exact h.more (Nat.le_succ k)
theorem Good.take (h : Good A B C k M) {who a : Int} (hw : I64 who) (ha : I64 a) : Good A B C (k + 1) (takeS M who a) := by
  unfold takeS
  obtain ⟨q1, q2, q3⟩ := h.latA a
  split
  · split
    · exact h.note (wf_ev hw (by decide) ha)
    · exact (h.note (wf_ev hw (by decide) ha)).latch ⟨by show (Mm.latA M a).sl.length ≤ k + 1; omega, q2, hw⟩
  · exact h.more (Nat.le_succ k)
theorem Good.rel (h : Good A B C k M) {who q a : Int} (hw : I64 who) (hq : 0 ≤ q ∧ q ≤ 7) (ha : I64 a) : Good A B C (k + 1) (relS M who q a) := by
  unfold relS
  obtain ⟨q1, q2, q3⟩ := h.latA a
  split
  · split
    · exact (h.note (wf_ev hw hq ha)).latch ⟨by show (Mm.latA M a).sl.length ≤ k + 1; omega, q2, q3⟩
    · exact h.note (wf_ev hw hq ha)
  · exact h.more (Nat.le_succ k)
theorem Good.sleep (h : Good A B C k M) {who a : Int} (hw : I64 who) (ha : I64 a) : Good A B C (k + 1) (sleepS M who a) := by
  unfold sleepS
  obtain ⟨q1, q2, q3⟩ := h.latA a
  split
  · have h1 := (h.note (e := ⟨who, 6, a, true⟩) (wf_ev hw (by decide) ha)).latch (i := a.toNat) (L := ⟨false, (Mm.latA M a).wh, (Mm.latA M a).sl ++ [who]⟩) ⟨by simp; omega, fun x hx => by
      rcases List.mem_append.1 hx with hx | hx
      · exact q2 x hx
      · obtain rfl := List.mem_singleton.1 hx; exact hw, q3⟩
    exact ⟨h1.a, h1.b, h1.c, h1.l, Nat.succ_le_succ h.n, h1.bx, h1.la, h1.ev⟩
  · exact h.rel hw (by decide) ha
theorem Good.wake (h : Good A B C k M) {who a : Int} (hw : I64 who) (ha : I64 a) : Good A B C (k + 1) (wakeS M who a) := by
  unfold wakeS
  obtain ⟨q1, q2, q3⟩ := h.latA a
  split
  · have h1 := (h.note (e := ⟨who, 7, a, true⟩) (wf_ev hw (by decide) ha)).latch (i := a.toNat) (L := ⟨(Mm.latA M a).tk, (Mm.latA M a).wh, []⟩) ⟨by simp, by simp, q3⟩
    exact ⟨h1.a, h1.b, h1.c, h1.l, h1.n, h1.bx, h1.la, h1.ev⟩
  · split
    · exact h.note (wf_ev hw (by decide) ha)
    · exact h.more (Nat.le_succ k)
end Go.Proofs.Ytjmkcgkkgamafaa.Mm
namespace Go.Proofs.Ytjmkcgkkgamafaa.Mm
open Go.RowKit Rw Pk Go.Maps
set_option linter.unusedVariables false

/-- A Mem; zs: blocks that aren't its own. -/
def MemZ (n : Nat) (w0 : World) (zs : List Nat) (p : Nat) (M : St) (w : World) : Prop := ∃ τ, MemAt τ w p M ∧ (∀ j, j < n ∨ j ∈ zs → τ j = 0) ∧ (∀ j ∈ zs, j < w.heap.size) ∧ n ≤ w.heap.size ∧ Below n w0 w
def KeepB (n : Nat) (zs : List Nat) (w w' : World) : Prop := w.heap.size ≤ w'.heap.size ∧ ∀ j, j < n ∨ j ∈ zs → w'.heap[j]? = w.heap[j]?
section
variable {n p : Nat} {zs : List Nat} {w0 w w' w'' : World} {M M' : St}
theorem KeepB.refl (n : Nat) (zs : List Nat) (w : World) : KeepB n zs w w := ⟨Nat.le_refl _, fun _ _ => rfl⟩
theorem KeepB.trans (h : KeepB n zs w w') (k : KeepB n zs w' w'') : KeepB n zs w w'' := ⟨Nat.le_trans h.1 k.1, fun j hj => (k.2 j hj).trans (h.2 j hj)⟩
theorem KeepB.cell (h : KeepB n zs w w') {g : Nat} (hg : g ∈ zs) (o : Nat) : w'.cell? ⟨g, o, none⟩ = w.cell? ⟨g, o, none⟩ := World.cell?_of_block (w := w) (h.2 g (.inr hg))
theorem KeepB.frozen (h : KeepB n zs w w') {g : Nat} (hg : g ∈ zs) (o : Nat) : w'.frozen? ⟨g, o, none⟩ = w.frozen? ⟨g, o, none⟩ := World.frozen?_of_block (w := w) (h.2 g (.inr hg))
theorem KeepB.less {zs' : List Nat} (h : KeepB n zs w w') (hz : ∀ j ∈ zs', j ∈ zs) : KeepB n zs' w w' := ⟨h.1, fun j hj => h.2 j (hj.imp id (hz j))⟩
theorem MemZ.zero (h : MemZ n w0 zs p M w) : ∃ τ, MemAt τ w p M ∧ (∀ j, j < n ∨ j ∈ zs → τ j = 0) := by obtain ⟨τ, h1, h2, _⟩ := h; exact ⟨τ, h1, h2⟩
theorem MemZ.kept (h : MemZ n w0 zs p M w) : Below n w0 w := by obtain ⟨_, _, _, _, _, h⟩ := h; exact h
theorem MemZ.nl (h : MemZ n w0 zs p M w) : n ≤ w.heap.size := by obtain ⟨_, _, _, _, h, _⟩ := h; exact h
theorem memz_start {a b c : Nat} {τ : Nat → Nat} (hm : MemAt τ w p M) (ht : ∀ j, j < w0.heap.size → τ j = 0) (hb : Below w0.heap.size w0 w) : MemZ w0.heap.size w0 [] p M w := ⟨τ, hm, fun j hj => hj.elim (ht j) (fun h => by simp at h), by simp, hb.size, hb⟩
theorem MemZ.below (h : MemZ n w0 zs p M w) (hb : Below w.heap.size w w') : MemZ n w0 zs p M w' := by
  obtain ⟨τ, h1, h2, h3, h4, h5⟩ := h
  exact ⟨τ, h1.below hb, h2, fun j hj => Nat.lt_of_lt_of_le (h3 j hj) hb.size, Nat.le_trans h4 hb.size, h5.trans (hb.mono h4)⟩
theorem keepB_below (hn : n ≤ w.heap.size) (hz : ∀ j ∈ zs, j < w.heap.size) (hb : Below w.heap.size w w') : KeepB n zs w w' := ⟨hb.size, fun j hj => hb.block j (hj.elim (fun h => by omega) (hz j))⟩
theorem MemZ.keep (h : MemZ n w0 zs p M w) (hb : Below w.heap.size w w') : KeepB n zs w w' := by
  obtain ⟨τ, h1, h2, h3, h4, h5⟩ := h
  exact keepB_below h4 h3 hb
theorem MemZ.add (h : MemZ n w0 zs p M w) (hb : Below w.heap.size w w') {g : Nat} (hg : w.heap.size ≤ g) (hg' : g < w'.heap.size) : MemZ n w0 (g :: zs) p M w' := by
  obtain ⟨τ, h1, h2, h3, h4, h5⟩ := h
  have hz : τ g = 0 := by
    obtain ⟨V, hV⟩ := h1
    by_cases e : τ g = 0
    · exact e
    · have := hV.tz g e; omega
  exact ⟨τ, h1.below hb, fun j hj => by
    rcases hj with hj | hj
    · exact h2 j (.inl hj)
    · rcases List.mem_cons.1 hj with rfl | hj
      · exact hz
      · exact h2 j (.inr hj), fun j hj => by
    rcases List.mem_cons.1 hj with rfl | hj
    · exact hg'
    · exact Nat.lt_of_lt_of_le (h3 j hj) hb.size, Nat.le_trans h4 hb.size, h5.trans (hb.mono h4)⟩
theorem MemZ.drop {zs' : List Nat} (h : MemZ n w0 zs p M w) (hz : ∀ j ∈ zs', j ∈ zs) : MemZ n w0 zs' p M w := by
  obtain ⟨τ, h1, h2, h3, h4⟩ := h
  exact ⟨τ, h1, fun j hj => h2 j (hj.imp id (hz j)), fun j hj => h3 j (hz j hj), h4⟩
theorem MemZ.store (h : MemZ n w0 zs p M w) {g : Nat} (hg : g ∈ zs) (hn : n ≤ g) (o : Nat) (u : Value) : MemZ n w0 zs p M (w.setCell ⟨g, o, none⟩ u) := by
  obtain ⟨τ, ⟨V, h1⟩, h2, h3, h4, h5⟩ := h
  have hs : w.heap.size = (w.setCell ⟨g, o, none⟩ u).heap.size := (size_setCell _ _ _).symm
  have ht := h2 g (.inr hg)
  exact ⟨τ, ⟨V, h1.keep ⟨Nat.le_of_eq hs, fun i hi h0 _ => Below.heap_setCell _ _ _ _ (fun e => h0 (by rw [e]; exact ht))⟩ (fun _ _ => rfl) fun i hi => by rw [← hs]; exact h1.tz i hi⟩, h2, fun j hj => by rw [← hs]; exact h3 j hj, by rw [← hs]; exact h4, h5.setCell hn _⟩
theorem memz_of {τ : Nat → Nat} (h2 : ∀ j, j < n ∨ j ∈ zs → τ j = 0) (h3 : ∀ j ∈ zs, j < w.heap.size) (h4 : n ≤ w.heap.size) (h5 : Below n w0 w) (hp : MemP τ w p M' w') : MemZ n w0 zs p M' w' ∧ KeepB n zs w w' := by
  obtain ⟨τ', hm, hs⟩ := hp
  have hl : ∀ j, j < n ∨ j ∈ zs → j < w.heap.size := fun j hj => hj.elim (fun h => Nat.lt_of_lt_of_le h h4) (h3 j)
  exact ⟨⟨τ', hm, fun j hj => by rw [hs.ext j (hl j hj)]; exact h2 j hj, fun j hj => Nat.lt_of_lt_of_le (h3 j hj) hs.bel.size, Nat.le_trans h4 hs.bel.size, h5.trans (hs.below h4 fun j hj => h2 j (.inl hj))⟩, hs.bel.size, fun j hj => hs.out j (hl j hj) (h2 j hj)⟩
variable {A B C k : Nat}
theorem mz_load (h : MemZ n w0 zs p M w) (hG : Good A B C k M) (ha : A ≤ 65536) (hb : B ≤ 65536) (hc : C ≤ 65536) (hk : k ≤ 100000) (who a : Int) (hw : I64 who) (ha' : I64 a) :
    Calls Try.prog 78 #[.pointer (some ⟨p, 0, none⟩), .int .i64 who, .int .i64 a] w fun e w' => e = .returned (.int .u64 (loadV M who a)) ∧ MemZ n w0 zs p (lookS M who 0 a) w' ∧ KeepB n zs w w' := by
  obtain ⟨τ, h1, h2, h3, h4, h5⟩ := h
  exact (load_any h1 (hG.bnd ha hb hc (by omega)).1 who a hw ha').mono fun e w' ⟨he, hp⟩ => ⟨he, memz_of h2 h3 h4 h5 hp⟩
theorem mz_store (h : MemZ n w0 zs p M w) (hG : Good A B C k M) (ha : A ≤ 65536) (hb : B ≤ 65536) (hc : C ≤ 65536) (hk : k ≤ 100000) (who a v : Int) (hw : I64 who) (ha' : I64 a) :
    Calls Try.prog 113 #[.pointer (some ⟨p, 0, none⟩), .int .i64 who, .int .i64 a, .int .u64 v] w fun e w' => e = .returned (.tuple #[]) ∧ MemZ n w0 zs p (storeS M who a v) w' ∧ KeepB n zs w w' := by
  obtain ⟨τ, h1, h2, h3, h4, h5⟩ := h
  exact (store_any h1 (hG.bnd ha hb hc (by omega)).1 who a v hw ha').mono fun e w' ⟨he, hp⟩ => ⟨he, memz_of h2 h3 h4 h5 hp⟩
theorem mz_take (h : MemZ n w0 zs p M w) (hG : Good A B C k M) (ha : A ≤ 65536) (hb : B ≤ 65536) (hc : C ≤ 65536) (hk : k ≤ 100000) (who a : Int) (hw : I64 who) (ha' : I64 a) :
    Calls Try.prog 46 #[.pointer (some ⟨p, 0, none⟩), .int .i64 who, .int .i64 a] w fun e w' => e = .returned (.bool (takeV M who a)) ∧ MemZ n w0 zs p (takeS M who a) w' ∧ KeepB n zs w w' := by
  obtain ⟨τ, h1, h2, h3, h4, h5⟩ := h
  exact (take_any h1 (hG.bnd ha hb hc (by omega)).1 who a hw ha').mono fun e w' ⟨he, hp⟩ => ⟨he, memz_of h2 h3 h4 h5 hp⟩
theorem mz_free (h : MemZ n w0 zs p M w) (hG : Good A B C k M) (ha : A ≤ 65536) (hb : B ≤ 65536) (hc : C ≤ 65536) (hk : k ≤ 100000) (who a : Int) (hw : I64 who) (ha' : I64 a) :
    Calls Try.prog 47 #[.pointer (some ⟨p, 0, none⟩), .int .i64 who, .int .i64 a] w fun e w' => e = .returned (.bool (relV M who 5 a)) ∧ MemZ n w0 zs p (relS M who 5 a) w' ∧ KeepB n zs w w' := by
  obtain ⟨τ, h1, h2, h3, h4, h5⟩ := h
  exact (free_any h1 (hG.bnd ha hb hc (by omega)).1 who a hw ha').mono fun e w' ⟨he, hp⟩ => ⟨he, memz_of h2 h3 h4 h5 hp⟩
theorem mz_get (h : MemZ n w0 zs p M w) (hG : Good A B C k M) (ha : A ≤ 65536) (hb : B ≤ 65536) (hc : C ≤ 65536) (hk : k ≤ 100000) (who a : Int) (hw : I64 who) (ha' : I64 a) :
    Calls Try.prog 111 #[.pointer (some ⟨p, 0, none⟩), .int .i64 who, .int .i64 a] w fun e w' => ∃ v, e = .returned v ∧ Batch.Own w' w.heap.size 85 v (getV M who a) ∧ MemZ n w0 zs p (lookS M who 2 a) w' ∧ KeepB n zs w w' := by
  obtain ⟨τ, h1, h2, h3, h4, h5⟩ := h
  exact (get_any h1 (hG.bnd ha hb hc (by omega)).1 who a hw ha').mono fun e w' ⟨v, he, ho, hp⟩ => ⟨v, he, ho, memz_of h2 h3 h4 h5 hp⟩
theorem mz_set (h : MemZ n w0 zs p M w) (hG : Good A B C k M) (ha : A ≤ 65536) (hb : B ≤ 65536) (hc : C ≤ 65536) (hk : k ≤ 100000) (who a : Int) (hw : I64 who) (ha' : I64 a) {v : Value} {l : List Batch.Ch} (hv : Batch.Sl w v l) (hl : l.length ≤ 1000) (hv0 : ∀ g, v.ownBlock = some g → g < n ∨ g ∈ zs) :
    Calls Try.prog 112 #[.pointer (some ⟨p, 0, none⟩), .int .i64 who, .int .i64 a, v] w fun e w' => e = .returned (.tuple #[]) ∧ MemZ n w0 zs p (setS M who a l) w' ∧ KeepB n zs w w' := by
  obtain ⟨τ, h1, h2, h3, h4, h5⟩ := h
  exact (set_any h1 (hG.bnd ha hb hc (by omega)).1 who a hw ha' hv hl (fun g hg => h2 g (hv0 g hg))).mono fun e w' ⟨he, hp⟩ => ⟨he, memz_of h2 h3 h4 h5 hp⟩
theorem mz_asleep (h : MemZ n w0 zs p M w) (who : Int) (hw : I64 who) :
    Calls Try.prog 66 #[.pointer (some ⟨p, 0, none⟩), .int .i64 who] w fun e w' => e = .returned (.bool (M.sp who)) ∧ w = w' := by
  obtain ⟨τ, h1, _⟩ := h
  exact asleep_any h1 who hw
theorem mz_time (h : MemZ n w0 zs p M w) :
    Calls Try.prog 14 #[.pointer (some ⟨p, 0, none⟩)] w fun e w' => e = .returned (.int .i64 (M.lg.length : Int)) ∧ w = w' := by
  obtain ⟨τ, h1, _⟩ := h
  exact time_any h1
theorem mz_log (h : MemZ n w0 zs p M w) (hG : Good A B C k M) (ha : A ≤ 65536) (hb : B ≤ 65536) (hc : C ≤ 65536) (hk : k ≤ 100000) :
    Calls Try.prog 30 #[.pointer (some ⟨p, 0, none⟩)] w fun e w' => ∃ v, e = .returned v ∧ Rr evK w' v M.lg ∧ Below w.heap.size w w' := by
  obtain ⟨τ, h1, _⟩ := h
  exact (log_any h1 (hG.bnd ha hb hc (by omega)).1.1).mono fun e w' ⟨v, he, ho, hb⟩ => ⟨v, he, (ho.sl hG.ev).rr, hb⟩
end
end Go.Proofs.Ytjmkcgkkgamafaa.Mm
