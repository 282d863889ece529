/-
  PACKAGE mem, PLAIN MATHEMATICS: what stays so while few things are done.
-/
import Derived.Test.YtkeldggdllaheaaMemLog
import Derived.Test.YtkeldggdllaheaaMemSet
namespace Go.Proofs.Ytkeldggdllaheaa.Mm
open Rw
set_option linter.unusedVariables false

structure Good (A B C k : Nat) (M : St) : Prop where
  a : M.ws.length = A
  b : M.bs.length = B
  c : M.ls.length = C
  l : M.lg.length ≤ k
  n : M.nb ≤ k
  bx : ∀ l ∈ M.bs, l.length ≤ 20000 ∧ ∀ x ∈ l, x.Wf
  la : ∀ L ∈ M.ls, L.sl.length ≤ k ∧ (∀ x ∈ L.sl, I64 x) ∧ I64 L.wh
  ev : ∀ e ∈ M.lg, evK.wf e
variable {A B C k : Nat} {M : St}
theorem Good.bnd (h : Good A B C k M) (ha : A ≤ 65536) (hb : B ≤ 65536) (hc : C ≤ 65536) (hk : k ≤ 1000000) : Bnd3 M := by
  have h1 := h.a; have h2 := h.b; have h3 := h.c; have h4 := h.l; have h5 := h.n
  exact ⟨⟨⟨by omega, by omega, by omega, by omega, by omega⟩, h.bx⟩, fun L hL => by obtain ⟨q1, q2, q3⟩ := h.la L hL; exact ⟨by omega, q2, q3⟩⟩
theorem good_init (a b c : Nat) : Good a b c 0 (initS a b c) :=
  ⟨by simp [initS], by simp [initS], by simp [initS], by simp [initS], by simp [initS], fun l hl => by
    obtain rfl := (List.mem_replicate.1 (show l ∈ List.replicate b [] from hl)).2
    exact ⟨by simp, by simp⟩, fun L hL => by
    obtain rfl := (List.mem_replicate.1 (show L ∈ List.replicate c ⟨false, 0, []⟩ from hL)).2
    exact ⟨by simp, by simp, by decide, by decide⟩, by simp [initS]⟩
theorem Good.more (h : Good A B C k M) {k' : Nat} (hk : k ≤ k') : Good A B C k' M :=
  ⟨h.a, h.b, h.c, Nat.le_trans h.l hk, Nat.le_trans h.n hk, h.bx, fun L hL => by obtain ⟨q1, q2, q3⟩ := h.la L hL; exact ⟨Nat.le_trans q1 hk, q2, q3⟩, h.ev⟩
theorem Good.note (h : Good A B C k M) {e : Ev} (he : evK.wf e) : Good A B C (k + 1) (M.note e) :=
  ⟨h.a, h.b, h.c, by show (M.lg ++ [e]).length ≤ _; have := h.l; simp; omega, Nat.le_trans h.n (Nat.le_succ k), h.bx, fun L hL => by obtain ⟨q1, q2, q3⟩ := h.la L hL; exact ⟨by omega, q2, q3⟩, fun x hx => by
    rcases List.mem_append.1 (show x ∈ M.lg ++ [e] from hx) with hx | hx
    · exact h.ev x hx
    · obtain rfl := List.mem_singleton.1 hx; exact he⟩
theorem Good.latch (h : Good A B C k M) {i : Nat} {L : La} (hL : L.sl.length ≤ k ∧ (∀ x ∈ L.sl, I64 x) ∧ I64 L.wh) : Good A B C k { M with ls := M.ls.set i L } :=
  ⟨h.a, h.b, by show (M.ls.set i L).length = C; rw [List.length_set]; exact h.c, h.l, h.n, h.bx, fun L' hL' => by
    rcases List.mem_or_eq_of_mem_set (show L' ∈ M.ls.set i L from hL') with h1 | rfl
    · exact h.la L' h1
    · exact hL, h.ev⟩
theorem Good.latA (h : Good A B C k M) (a : Int) : (latA M a).sl.length ≤ k ∧ (∀ x ∈ (latA M a).sl, I64 x) ∧ I64 (latA M a).wh := by
  unfold Mm.latA
  rw [List.getD_eq_getElem?_getD]
  cases hx : M.ls[a.toNat]? with
  | none => exact ⟨by simp, by simp, by decide, by decide⟩
  | some L => exact h.la L (List.mem_of_getElem? hx)
theorem wf_ev {who k a : Int} {ok : Bool} (hw : I64 who) (hk : 0 ≤ k ∧ k ≤ 7) (ha : I64 a) : evK.wf ⟨who, k, a, ok⟩ := ⟨hw, show I64 k from ⟨by omega, by omega⟩, ha⟩
theorem Good.look (h : Good A B C k M) {who q a : Int} (hw : I64 who) (hq : 0 ≤ q ∧ q ≤ 7) (ha : I64 a) : Good A B C (k + 1) (lookS M who q a) := by
  unfold lookS
  split
  · exact h.note (wf_ev hw hq ha)
  · exact h.more (Nat.le_succ k)
theorem Good.store (h : Good A B C k M) {who a v : Int} (hw : I64 who) (ha : I64 a) : Good A B C (k + 1) (storeS M who a v) := by
  unfold storeS
  split
  · have := h.note (e := ⟨who, 1, a, true⟩) (wf_ev hw (by decide) ha)
    exact ⟨by show (M.ws.set _ v).length = A; rw [List.length_set]; exact h.a, this.b, this.c, this.l, this.n, this.bx, this.la, this.ev⟩
  · exact h.more (Nat.le_succ k)
theorem Good.set (h : Good A B C k M) {who a : Int} {l : List Batch.Ch} (hw : I64 who) (ha : I64 a) (hl : l.length ≤ 20000 ∧ ∀ x ∈ l, x.Wf) : Good A B C (k + 1) (setS M who a l) := by
  unfold setS
  split
  · have := h.note (e := ⟨who, 3, a, true⟩) (wf_ev hw (by decide) ha)
    exact ⟨this.a, by show (M.bs.set _ l).length = B; rw [List.length_set]; exact h.b, this.c, this.l, this.n, fun l' hl' => by
      rcases List.mem_or_eq_of_mem_set (show l' ∈ M.bs.set _ l from hl') with h1 | rfl
      · exact h.bx l' h1
      · exact hl, this.la, this.ev⟩
  · exact h.more (Nat.le_succ k)
theorem Good.take (h : Good A B C k M) {who a : Int} (hw : I64 who) (ha : I64 a) : Good A B C (k + 1) (takeS M who a) := by
  unfold takeS
  obtain ⟨q1, q2, q3⟩ := h.latA a
  split
  · split
    · exact h.note (wf_ev hw (by decide) ha)
    · exact (h.note (wf_ev hw (by decide) ha)).latch ⟨by show (Mm.latA M a).sl.length ≤ k + 1; omega, q2, hw⟩
  · exact h.more (Nat.le_succ k)
theorem Good.rel (h : Good A B C k M) {who q a : Int} (hw : I64 who) (hq : 0 ≤ q ∧ q ≤ 7) (ha : I64 a) : Good A B C (k + 1) (relS M who q a) := by
  unfold relS
  obtain ⟨q1, q2, q3⟩ := h.latA a
  split
  · split
    · exact (h.note (wf_ev hw hq ha)).latch ⟨by show (Mm.latA M a).sl.length ≤ k + 1; omega, q2, q3⟩
    · exact h.note (wf_ev hw hq ha)
  · exact h.more (Nat.le_succ k)
theorem Good.sleep (h : Good A B C k M) {who a : Int} (hw : I64 who) (ha : I64 a) : Good A B C (k + 1) (sleepS M who a) := by
  unfold sleepS
  obtain ⟨q1, q2, q3⟩ := h.latA a
  split
  · have h1 := (h.note (e := ⟨who, 6, a, true⟩) (wf_ev hw (by decide) ha)).latch (i := a.toNat) (L := ⟨false, (Mm.latA M a).wh, (Mm.latA M a).sl ++ [who]⟩) ⟨by simp; omega, fun x hx => by
      rcases List.mem_append.1 hx with hx | hx
      · exact q2 x hx
      · obtain rfl := List.mem_singleton.1 hx; exact hw, q3⟩
    exact ⟨h1.a, h1.b, h1.c, h1.l, Nat.succ_le_succ h.n, h1.bx, h1.la, h1.ev⟩
  · exact h.rel hw (by decide) ha
theorem Good.wake (h : Good A B C k M) {who a : Int} (hw : I64 who) (ha : I64 a) : Good A B C (k + 1) (wakeS M who a) := by
  unfold wakeS
  obtain ⟨q1, q2, q3⟩ := h.latA a
  split
  · have h1 := (h.note (e := ⟨who, 7, a, true⟩) (wf_ev hw (by decide) ha)).latch (i := a.toNat) (L := ⟨(Mm.latA M a).tk, (Mm.latA M a).wh, []⟩) ⟨by simp, by simp, q3⟩
    exact ⟨h1.a, h1.b, h1.c, h1.l, h1.n, h1.bx, h1.la, h1.ev⟩
  · split
    · exact h.note (wf_ev hw (by decide) ha)
    · exact h.more (Nat.le_succ k)
end Go.Proofs.Ytkeldggdllaheaa.Mm
