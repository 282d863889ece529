/-
  THE ARGUMENTS OF THE LAWS OF PACKAGE clock: a slice of accesses, of turns, of bools.
-/
import Derived.Test.YtjmkcgkkgamafaaMemMem
import Derived.Test.YtjmkcgkkgamafaaJoined6
namespace Go.Proofs.Ytjmkcgkkgamafaa.Ck
open Go.ChangeShapes Go.WideShapes Go.ChangeAt Go.Deep Go.RowKit Rw Mm
set_option linter.unusedVariables false

structure Tn where
  w : Int
  b : Int
  s : Bool
  r : Bool
def turnK : Kd Tn where
  k := 4
  cells x := [.int .i64 x.w, .int .i64 x.b, .bool x.s, .bool x.r]
  wf x := I64 x.w ∧ I64 x.b
  len _ := rfl
  one x u hu := by simp at hu; rcases hu with rfl | rfl | rfl | rfl <;> rfl
theorem trod_b {H : Type} {enc : TypeId × Value → H} {P : Program} {W : World} {base : Nat} {sp : Nat → Bool} {held : Bool} {n : Nat} {t : TypeId} (ht : P.underlying t = some .bool) {v : Value} {y : DataW H × List MemPlace} (h : DataW.trod enc P W base sp held n t [v] = some y) : ∃ b, v = .bool b := by
  cases n with
  | zero => simp [DataW.trod] at h
  | succ n =>
    unfold DataW.trod at h
    rw [ht] at h
    cases v <;> simp at h
    exact ⟨_, rfl⟩
theorem rr_row {α : Type} {S : Kd α} (hk : 0 < S.k) {w : World} {a : Addr} {len cap : Nat} (hl : len ≤ cap) (hm : cap ≤ maxLen) (h : ∀ i : Nat, i < len → ∃ x : α, (∀ c u, c < S.k → (S.cells x)[c]? = some u → w.cell? (a.add (i * S.k + c)) = some u) ∧ S.wf x) : ∃ l, Rr S w (.slice (some a) len cap) l := by
  have hcap : cap ≤ 9223372036854775807 := by unfold maxLen at hm; omega
  obtain ⟨l, hl1, hl2⟩ := Batch.list_of len _ h
  subst hl1
  by_cases h0 : l = []
  · subst h0
    exact ⟨[], some a, cap, rfl, .inl rfl, hl, hcap, by simp⟩
  · have hpos : 0 < l.length := List.length_pos_iff.2 h0
    obtain ⟨x0, hx0⟩ : ∃ x0, l[0]? = some x0 := ⟨_, List.getElem?_eq_getElem hpos⟩
    obtain ⟨u, hu⟩ : ∃ u, (S.cells x0)[0]? = some u := ⟨_, List.getElem?_eq_getElem (by rw [S.len]; exact hk)⟩
    have h00 := (hl2 0 x0 hx0).1 0 u hk hu
    obtain ⟨b, off, spot⟩ := a
    have hspot : spot = none := by simpa [Addr.add] using World.cell?_spot h00
    subst hspot
    refine ⟨l, _, cap, rfl, .inr ⟨b, off, ?_, rfl, fun i x hx c u hc hu => ?_⟩, hl, hcap, fun x hx => ?_⟩
    · rw [Batch.add_plain'] at h00; exact Lib.lt_of_cell h00
    · have := (hl2 i x hx).1 c u hc hu
      rw [Batch.add_plain'] at this
      rw [Nat.add_assoc]; exact this
    · obtain ⟨i, hi⟩ := List.mem_iff_getElem?.1 hx
      exact (hl2 i x hi).2
end Go.Proofs.Ytjmkcgkkgamafaa.Ck
