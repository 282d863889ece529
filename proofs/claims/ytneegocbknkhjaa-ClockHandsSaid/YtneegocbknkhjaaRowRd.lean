/-
  MEMORY: a slice that came in, of any kind of element, as it reads (Rr): where it is empty nothing is said of its address.
-/
import Derived.Test.YtneegocbknkhjaaRowMem
import Derived.Test.YtneegocbknkhjaaAppendAny
namespace Go.Proofs.Ytneegocbknkhjaa.Rw
open Go.RowKit
set_option linter.unusedVariables false
variable {α : Type} {S : Kd α}

def Rr (S : Kd α) (w : World) (v : Value) (l : List α) : Prop := ∃ (ao : Option Addr) (cap : Nat), v = .slice ao l.length cap ∧ (l = [] ∨ ∃ b off, b < w.heap.size ∧ ao = some ⟨b, off, none⟩ ∧ ∀ i x, l[i]? = some x → AtK S w b (off + i * S.k) x) ∧ l.length ≤ cap ∧ cap ≤ 9223372036854775807 ∧ ∀ x ∈ l, S.wf x
theorem Sl.rr {w : World} {v : Value} {l : List α} (h : Sl S w v l) : Rr S w v l := by
  obtain ⟨ao, cap, rfl, h1, h2, h3, h4⟩ := h
  refine ⟨ao, cap, rfl, ?_, h2, h3, h4⟩
  rcases h1 with h1 | h1
  · exact .inl h1.2
  · exact .inr h1
theorem Rr.below {w w' : World} {v : Value} {l : List α} (h : Rr S w v l) (hw : Below w.heap.size w w') : Rr S w' v l := by
  obtain ⟨ao, cap, rfl, h1, h2, h3, h4⟩ := h
  refine ⟨ao, cap, rfl, ?_, h2, h3, h4⟩
  rcases h1 with h1 | ⟨b, off, hb, ha, h1⟩
  · exact .inl h1
  · exact .inr ⟨b, off, Nat.lt_of_lt_of_le hb hw.size, ha, fun i x hx => (h1 i x hx).below hw hb⟩
theorem Rr.wf {w : World} {v : Value} {l : List α} (h : Rr S w v l) : ∀ x ∈ l, S.wf x := by obtain ⟨_, _, _, _, _, _, h⟩ := h; exact h
theorem Rr.form {w : World} {v : Value} {l : List α} (h : Rr S w v l) : ∃ ao cap, v = .slice ao l.length cap ∧ l.length ≤ cap ∧ cap ≤ 9223372036854775807 := by obtain ⟨ao, cap, h, _, h1, h2, _⟩ := h; exact ⟨ao, cap, h, h1, h2⟩
theorem Rr.at {w : World} {ao : Option Addr} {n cap : Nat} {l : List α} (h : Rr S w (.slice ao n cap) l) {i : Nat} {x : α} (hx : l[i]? = some x) : ∃ b off, ao = some ⟨b, off, none⟩ ∧ b < w.heap.size ∧ AtK S w b (off + i * S.k) x := by
  obtain ⟨ao', cap', hv, h4, _⟩ := h
  simp at hv
  obtain ⟨rfl, rfl, rfl⟩ := hv
  rcases h4 with h4 | ⟨b, off, hb, ha, h4⟩
  · subst h4; simp at hx
  · exact ⟨b, off, ha, hb, h4 i x hx⟩
theorem Rr.len {w : World} {ao : Option Addr} {n cap : Nat} {l : List α} (h : Rr S w (.slice ao n cap) l) : n = l.length := by
  obtain ⟨ao', cap', hv, _⟩ := h
  simp at hv
  exact hv.2.1
theorem Rr.take {w : World} {ao : Option Addr} {n cap k : Nat} {l : List α} (h : Rr S w (.slice ao n cap) l) (hk : k ≤ n) : Rr S w (.slice ao k cap) (l.take k) := by
  have hn := h.len
  obtain ⟨ao', cap', hv, h1, h2, h3, h4⟩ := h
  simp at hv
  obtain ⟨rfl, _, rfl⟩ := hv
  have hl : (l.take k).length = k := by rw [List.length_take]; omega
  refine ⟨ao, cap, by rw [hl], ?_, by omega, h3, fun x hx => h4 x (List.mem_of_mem_take hx)⟩
  rcases h1 with rfl | ⟨b, off, hb, rfl, h1⟩
  · exact .inl (by simp)
  · refine .inr ⟨b, off, hb, rfl, fun i x hx => h1 i x ?_⟩
    have hik : i < k := by have := (List.getElem?_eq_some_iff.1 hx).1; omega
    rwa [List.getElem?_take_of_lt hik] at hx
theorem Rr.src {w : World} {ao : Option Addr} {n cap : Nat} {l : List α} (hk : 0 < S.k) (h : Rr S w (.slice ao n cap) l) : Batch.Src w ao n (S.flat l) := by
  have hn := h.len
  obtain ⟨ao', cap', hv, h1, h2, h3, h4⟩ := h
  simp at hv
  obtain ⟨rfl, _, rfl⟩ := hv
  rcases h1 with rfl | ⟨b, off, hb, rfl, h1⟩
  · cases ao
    · exact .inl ⟨rfl, hn, rfl⟩
    · exact .inr ⟨_, rfl, fun j u hu => by simp [Kd.flat] at hu⟩
  · refine .inr ⟨_, rfl, fun j u hu => ?_⟩
    rw [show ((⟨b, off, none⟩ : Addr).add j) = ⟨b, off + j, none⟩ by unfold Addr.add; split <;> simp_all]
    exact (show Sl S w (.slice (some ⟨b, off, none⟩) l.length cap) l from ⟨_, _, rfl, .inr ⟨b, off, hb, rfl, h1⟩, h2, h3, h4⟩).cells hk j u hu
/-- From an address that may be any where there is nothing. -/
theorem rr_of {w : World} {a : Addr} {len cap : Nat} {l : List α} (hk : 0 < S.k) (hl : l.length = len) (hc : len ≤ cap) (hm : cap ≤ 9223372036854775807) (hwf : ∀ x ∈ l, S.wf x)
    (h : ∀ i x, l[i]? = some x → ∀ c u, c < S.k → (S.cells x)[c]? = some u → w.cell? (a.add (i * S.k + c)) = some u) : Rr S w (.slice (some a) len cap) l := by
  subst hl
  refine ⟨some a, cap, rfl, ?_, hc, hm, hwf⟩
  by_cases h0 : l = []
  · exact .inl h0
  · right
    have hpos : 0 < l.length := List.length_pos_iff.2 h0
    have h00 := h 0 l[0] (List.getElem?_eq_getElem hpos) 0 _ hk (List.getElem?_eq_getElem (by rw [S.len]; exact hk))
    obtain ⟨b, off, spot⟩ := a
    have hspot : spot = none := by simpa [Addr.add] using World.cell?_spot h00
    subst hspot
    have e : ∀ j, ((⟨b, off, none⟩ : Addr).add j) = ⟨b, off + j, none⟩ := fun j => by unfold Addr.add; split <;> simp_all
    rw [e] at h00
    refine ⟨b, off, Lib.lt_of_cell h00, rfl, fun i x hx c u hc hu => ?_⟩
    have := h i x hx c u hc hu
    rw [e] at this
    rw [Nat.add_assoc]
    exact this
end Go.Proofs.Ytneegocbknkhjaa.Rw
