
/-
  PLAIN MATHEMATICS of marchlandlaw05.GraphCycles: a ring of edges that take no time; with 1 on one of them there is no way round that takes none.
-/
import Derived.Test.YtkcmeklgnbejiaaDoorGTold
namespace Go.Proofs.YtkcmeklgnbejiaaDoor.Gr
set_option linter.unusedVariables false

/-- Edge i of a ring of k; edge a takes 1. -/
def ringE (k a i : Nat) : Ed := ⟨((1 + i : Nat) : Int), ((1 + (i + 1) % k : Nat) : Int), if i = a then 1 else 0⟩
def ring (k a : Nat) : List Ed := (List.range k).map (ringE k a)
theorem ring_length (k a : Nat) : (ring k a).length = k := by unfold ring; simp
theorem ring_at {k a i : Nat} (h : i < k) : (ring k a)[i]? = some (ringE k a i) := by unfold ring; simp [h]
theorem ring_of {k a : Nat} {e : Ed} (h : e ∈ ring k a) : ∃ i, i < k ∧ e = ringE k a i := by
  unfold ring at h
  obtain ⟨i, hi, rfl⟩ := List.mem_map.1 h
  exact ⟨i, List.mem_range.1 hi, rfl⟩
theorem ringE_fits {k a i : Nat} (h : i < k) (h1 : k ≤ 9) : 1 ≤ (ringE k a i).f ∧ (ringE k a i).f < (k + 2 : Nat) ∧ 1 ≤ (ringE k a i).t ∧ (ringE k a i).t < (k + 2 : Nat) ∧ 0 ≤ (ringE k a i).a ∧ (ringE k a i).a ≤ 1 := by
  have hm := Nat.mod_lt (i + 1) (show 0 < k by omega)
  unfold ringE
  dsimp only
  refine ⟨by omega, by omega, by omega, by omega, ?_, ?_⟩ <;> split <;> omega
theorem ring_fits {k a : Nat} (h1 : k ≤ 9) : Fits (ring k a) (k + 2) := by
  intro e he
  obtain ⟨i, hi, rfl⟩ := ring_of he
  have := ringE_fits (a := a) hi h1
  omega
theorem ring_wf {k a : Nat} (h1 : k ≤ 9) : ∀ x ∈ ring k a, x.Wf := by
  intro e he
  obtain ⟨i, hi, rfl⟩ := ring_of he
  have := ringE_fits (a := a) hi h1
  exact ⟨by omega, by omega, by omega, by omega, by omega, by omega⟩
theorem ring_chn (k : Nat) (hk : 0 < k) : ∀ (m i : Nat), i + m = k → Chn (ring k k) ((1 + i % k : Nat) : Int) (((List.range k).drop i).map (ringE k k)) 1 ∧ cost (((List.range k).drop i).map (ringE k k)) = 0
  | 0, i, h => by
    have : i = k := by omega
    subst this
    rw [List.drop_eq_nil_of_le (by simp)]
    refine ⟨?_, rfl⟩
    show ((1 + i % i : Nat) : Int) = 1
    rw [Nat.mod_self]
    rfl
  | m + 1, i, h => by
    have hi : i < k := by omega
    obtain ⟨ih, ih2⟩ := ring_chn k hk m (i + 1) (by omega)
    rw [List.drop_eq_getElem_cons (by simpa using hi), List.getElem_range, List.map_cons]
    refine ⟨⟨List.mem_of_getElem? (ring_at hi), ?_, ih⟩, ?_⟩
    · show ((1 + i : Nat) : Int) = ((1 + i % k : Nat) : Int)
      rw [Nat.mod_eq_of_lt hi]
    · unfold cost
      rw [ih2]
      show (if i = k then (1 : Int) else 0) + 0 = 0
      rw [if_neg (by omega)]
      rfl
theorem ring_round {k : Nat} (hk : 0 < k) : Round (ring k k) ((1 : Nat) : Int) := by
  obtain ⟨h1, h2⟩ := ring_chn k hk k 0 (by omega)
  rw [Nat.zero_mod, List.drop_zero] at h1
  rw [List.drop_zero] at h2
  refine ⟨_, ⟨h1, .inr ?_⟩, h2⟩
  intro e
  have := congrArg List.length e
  simp at this
  omega
theorem ring_out {k a : Nat} (h1 : k ≤ 9) : ∀ q : Nat, q < 1 → ¬ Round (ring k a) (q : Nat) := by
  intro q hq ⟨es, hw, _⟩
  have : q = 0 := by omega
  subst this
  rcases hw.2 with e | e
  · exact absurd e (by decide)
  · cases es with
    | nil => exact e rfl
    | cons x r =>
      obtain ⟨hm, hf, _⟩ := hw.1
      obtain ⟨i, hi, rfl⟩ := ring_of hm
      have := ringE_fits (a := a) hi h1
      have h2 : (ringE k a i).f = 0 := hf
      omega
theorem chn_rises' {E : List Ed} (d : Int → Int) (ha : ∀ e ∈ E, 0 ≤ e.a) (h : ∀ e ∈ E, d e.f < d e.t ∨ 1 ≤ e.a) : ∀ {es : List Ed} {i j : Int}, Chn E i es j → cost es = 0 → d i + es.length ≤ d j
  | [], _, _, hc, _ => by obtain rfl := hc; simp
  | e :: r, i, j, hc, h0 => by
    have h1 := ha e hc.1
    have h2 := cost_zero ha hc.2.2
    unfold cost at h0
    have h3 := chn_rises' d ha h hc.2.2 (by omega)
    have h4 := hc.2.1
    rw [← h4]
    rcases h e hc.1 with h5 | h5
    · rw [List.length_cons]; push_cast; omega
    · omega
theorem no_round' {E : List Ed} (d : Int → Int) (ha : ∀ e ∈ E, 0 ≤ e.a) (h : ∀ e ∈ E, d e.f < d e.t ∨ 1 ≤ e.a) (p : Int) : ¬ Round E p := by
  rintro ⟨es, hw, h0⟩
  have h1 := chn_rises' d ha h hw.1 h0
  rcases hw.2 with e | e
  · exact absurd e (by decide)
  · have : 0 < es.length := List.length_pos_iff.2 e
    omega
set_option maxRecDepth 100000 in
theorem ring_rises : ∀ k < 10, ∀ i < k, ∀ a < k, i ≠ a → (((1 + i : Nat) : Int) - 2 - (a : Int)) % (k : Int) < (((1 + (i + 1) % k : Nat) : Int) - 2 - (a : Int)) % (k : Int) := by decide
theorem ring_none {k a : Nat} (h1 : k ≤ 9) (ha : a < k) (p : Int) : ¬ Round (ring k a) p := by
  refine no_round' (fun v => (v - 2 - (a : Int)) % (k : Int)) (fun e he => ?_) (fun e he => ?_) p
  · obtain ⟨i, hi, rfl⟩ := ring_of he
    exact (ringE_fits hi h1).2.2.2.2.1
  · obtain ⟨i, hi, rfl⟩ := ring_of he
    by_cases e : i = a
    · right
      show (1 : Int) ≤ if i = a then 1 else 0
      rw [if_pos e]
      exact Int.le_refl _
    · left
      exact ring_rises k (by omega) i hi a ha e
theorem ring_chk {k : Nat} (h0 : 1 ≤ k) (h1 : k ≤ 9) : chkV ((k + 2 : Nat) : Int) (ring k k) [0] = ([(portS, 1)], 3) :=
  chkV_cyc (n := k + 2) (p := 1) (by omega) (by omega) (by rw [ring_length]; omega) (ring_fits h1) (by simp) (by decide) (zero_ok _ (by omega)) (by omega) (ring_round (by omega)) (ring_out h1)
theorem ring_ok {k a : Nat} (h0 : 1 ≤ k) (h1 : k ≤ 9) (ha : a < k) : GOk (k + 2) (ring k a) [0] :=
  ⟨by omega, by omega, by rw [ring_length]; omega, ring_fits h1, chkV_ok (n := k + 2) (by omega) (by omega) (by rw [ring_length]; omega) (ring_fits h1) (by simp) (by decide) (zero_ok _ (by omega)) (ring_none h1 ha)⟩
theorem p1_textS : ((⟨(Fault.textL [(portS, 1)] 3).toArray⟩ : ByteArray).toList == [112, 111, 114, 116, 32, 49, 58, 32, 99, 121, 99, 108, 101]) = true := by
  rw [Lib.toList_data]
  simp [Fault.textL, Fault.placesL, Fault.placeL, Lib.itoa, Lib.decDigits, Fault.wordS, Fault.wordL, portS]
end Go.Proofs.YtkcmeklgnbejiaaDoor.Gr
