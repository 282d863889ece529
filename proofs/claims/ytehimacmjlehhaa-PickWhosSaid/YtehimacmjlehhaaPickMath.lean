/-
  PACKAGE pick, PLAIN MATHEMATICS: each in every window, and by how far one is from one of its picks to the next one.
-/
import Derived.Test.YtehimacmjlehhaaPickTurns
namespace Go.Proofs.Ytehimacmjlehhaa.Pk
set_option linter.unusedVariables false

/-- W: whose each pick is; n of them. -/
def WinP (W : Nat → Int) (m wd a : Nat) : Prop := ∀ v : Nat, v < m → ∃ k, a ≤ k ∧ k < a + wd ∧ W k = v
def FairW (W : Nat → Int) (n m wd : Nat) : Prop := ∀ a, a + wd ≤ n → WinP W m wd a
def lastI (W : Nat → Int) : Nat → Int → Int
  | 0, _ => -1
  | i + 1, v => if W i = v then i else lastI W i v
theorem lastI_lo (W : Nat → Int) (i : Nat) (v : Int) : -1 ≤ lastI W i v ∧ lastI W i v < i := by
  induction i with
  | zero => simp [lastI]
  | succ i ih => unfold lastI; split <;> omega
theorem lastI_none {W : Nat → Int} {i : Nat} {v : Int} {j : Nat} (h : lastI W i v < j) (hj : j < i) : W j ≠ v := by
  induction i with
  | zero => omega
  | succ i ih =>
    unfold lastI at h
    by_cases hv : W i = v
    · rw [if_pos hv] at h; omega
    · rw [if_neg hv] at h
      by_cases he : j = i
      · rw [he]; exact hv
      · exact ih h (by omega)
theorem lastI_ge {W : Nat → Int} {i : Nat} {v : Int} {j : Nat} (h : W j = v) (hj : j < i) : (j : Int) ≤ lastI W i v := by
  by_cases hl : lastI W i v < j
  · exact absurd h (lastI_none hl hj)
  · omega
theorem lastI_hit {W : Nat → Int} {i : Nat} {v : Int} (h : 0 ≤ lastI W i v) : ∃ j : Nat, lastI W i v = j ∧ j < i ∧ W j = v := by
  induction i with
  | zero => simp [lastI] at h
  | succ i ih =>
    unfold lastI at h ⊢
    by_cases hv : W i = v
    · rw [if_pos hv]; exact ⟨i, rfl, by omega, hv⟩
    · rw [if_neg hv] at h ⊢
      obtain ⟨j, h1, h2, h3⟩ := ih h
      exact ⟨j, h1, by omega, h3⟩
def GapP (W : Nat → Int) (n m wd : Nat) : Prop := (∀ i : Nat, i < n → (i : Int) - lastI W i (W i) ≤ wd) ∧ ∀ v : Nat, v < m → (n : Int) - lastI W n v ≤ wd
theorem gap_fair {W : Nat → Int} {n m wd : Nat} (h1 : 1 ≤ wd) (h2 : wd ≤ n) (hW : ∀ k, ∃ v : Nat, v < m ∧ W k = v) : GapP W n m wd ↔ FairW W n m wd := by
  constructor
  · rintro ⟨g1, g2⟩ a ha v hv
    by_cases hno : ∃ k, a ≤ k ∧ k < a + wd ∧ W k = v
    · exact hno
    · exfalso
      -- the least place behind the window where v stands
      have key : ∀ d i : Nat, i + d = n → a + wd ≤ i → (∀ j, a ≤ j → j < i → W j ≠ v) → False := by
        intro d
        induction d with
        | zero =>
          intro i hi ha2 hnone
          have hin : i = n := by omega
          rw [hin] at hnone
          have h3 := g2 v hv
          have h4 := (lastI_lo W n v).1
          by_cases h0 : 0 ≤ lastI W n v
          · obtain ⟨j, e, hj, hWj⟩ := lastI_hit h0
            rw [e] at h3
            exact hnone j (by omega) hj hWj
          · omega
        | succ d ih =>
          intro i hi ha2 hnone
          by_cases hWi : W i = v
          · have h3 := g1 i (by omega)
            rw [hWi] at h3
            have h4 := (lastI_lo W i v).1
            by_cases h0 : 0 ≤ lastI W i v
            · obtain ⟨j, e, hj, hWj⟩ := lastI_hit h0
              rw [e] at h3
              exact hnone j (by omega) hj hWj
            · omega
          · refine ih (i + 1) (by omega) (by omega) (fun j hj1 hj2 => ?_)
            by_cases he : j = i
            · rw [he]; exact hWi
            · exact hnone j hj1 (by omega)
      exact key (n - (a + wd)) (a + wd) (by omega) (Nat.le_refl _) (fun j hj1 hj2 e => hno ⟨j, hj1, hj2, e⟩)
  · intro hf
    have key : ∀ (i v : Nat), i ≤ n → v < m → (i : Int) - lastI W i v ≤ wd := by
      intro i v hi hv
      by_cases hle : (i : Int) - lastI W i v ≤ wd
      · exact hle
      · exfalso
        have h4 := (lastI_lo W i v).1
        obtain ⟨k, k1, k2, k3⟩ := hf (lastI W i v + 1).toNat (by omega) v hv
        exact lastI_none (i := i) (j := k) (by omega) (by omega) k3
    refine ⟨fun i hi => ?_, fun v hv => key n v (Nat.le_refl _) hv⟩
    obtain ⟨v, hv, e⟩ := hW i
    rw [e]
    exact key i v (by omega) hv
/-- So many are in no shorter list. -/
theorem pigeon : ∀ (m : Nat) (l : List Int), (∀ v : Nat, v < m → (v : Int) ∈ l) → m ≤ l.length
  | 0, _, _ => Nat.zero_le _
  | m + 1, l, h => by
    have hm := h m (by omega)
    have := pigeon m (l.erase (m : Int)) (fun v hv => (List.mem_erase_of_ne (by omega)).2 (h v (by omega)))
    rw [List.length_erase_of_mem hm] at this
    have := List.length_pos_of_mem hm
    omega
theorem fair_many {W : Nat → Int} {n m wd : Nat} (h2 : wd ≤ n) (h : FairW W n m wd) : m ≤ wd := by
  have := pigeon m ((List.range wd).map W) (fun v hv => by
    obtain ⟨k, _, hk, e⟩ := h 0 (by omega) v hv
    exact List.mem_map.2 ⟨k, List.mem_range.2 (by omega), e⟩)
  simpa using this
theorem fair_grow {W : Nat → Int} {n m wd wd' : Nat} (hw : wd ≤ wd') (h : FairW W n m wd) : FairW W n m wd' := by
  intro a ha v hv
  obtain ⟨k, h1, h2, h3⟩ := h a (by omega) v hv
  exact ⟨k, h1, by omega, h3⟩

/-! ### of a list of picks -/
def whoAt (L : List Int) (m : Nat) (k : Nat) : Int := whoF (L.getD k 0) m
theorem whoAt_of {L : List Int} {m k : Nat} {x : Int} (h : L[k]? = some x) : whoAt L m k = whoF x m := by unfold whoAt; rw [List.getD_eq_getElem?_getD, h]; rfl
theorem whoAt_in (L : List Int) {m : Nat} (h : 1 ≤ m) (k : Nat) : ∃ v : Nat, v < m ∧ whoAt L m k = v := by
  obtain ⟨h1, h2⟩ := whoF_in (p := L.getD k 0) (m := m) (by omega)
  exact ⟨(whoAt L m k).toNat, by unfold whoAt; omega, by unfold whoAt; omega⟩
/-- Fair: of a window of any size. -/
def FairS (L : List Int) (m : Nat) (wd : Int) : Prop := 1 ≤ wd ∧ ((L.length : Int) < wd ∨ FairW (whoAt L m) L.length m wd.toNat)
theorem fairS_grow {L : List Int} {m : Nat} {wd wd' : Int} (hw : wd ≤ wd') (h : FairS L m wd) : FairS L m wd' := by
  obtain ⟨h1, h2⟩ := h
  refine ⟨by omega, ?_⟩
  rcases h2 with h2 | h2
  · exact .inl (by omega)
  · exact .inr (fair_grow (by omega) h2)
theorem fairS_turns {m : Nat} (h : 1 ≤ m) (h8 : m ≤ 8) : FairS (turnsL m 40) m m := by
  refine ⟨by omega, .inr ?_⟩
  rw [turnsL_length, show ((m : Int)).toNat = m by omega]
  intro a ha v hv
  -- the place in the window
  have hd : ∀ k, k < 40 → whoAt (turnsL m 40) m k = ((k % m : Nat) : Int) := by
    intro k hk
    have e : (turnsL (m : Int) 40)[k]? = some ((k : Int) % (m : Int)) := turnsL_at hk
    rw [whoAt_of e]
    unfold whoF
    have hlt := Nat.mod_lt k (show 0 < m by omega)
    rw [if_neg (by omega), show ((k : Int) % (m : Int)) = ((k % m : Nat) : Int) from (Int.natCast_emod k m).symm]
    rw [show (((k % m : Nat) : Int) % 18446744073709551616) = ((k % m : Nat) : Int) by omega]
    exact Int.emod_eq_of_lt (by omega) (by omega)
  have hma : a % m < m := Nat.mod_lt a (by omega)
  have hdm := Nat.div_add_mod a m
  by_cases hle : a % m ≤ v
  · refine ⟨a + (v - a % m), by omega, by omega, ?_⟩
    rw [hd _ (by omega)]
    have e : a + (v - a % m) = v + m * (a / m) := by omega
    rw [e, Nat.add_mul_mod_self_left, Nat.mod_eq_of_lt hv]
  · refine ⟨a + (v + m - a % m), by omega, by omega, ?_⟩
    rw [hd _ (by omega)]
    have e : a + (v + m - a % m) = v + m * (a / m + 1) := by rw [Nat.mul_succ]; omega
    rw [e, Nat.add_mul_mod_self_left, Nat.mod_eq_of_lt hv]
/-- The last places, as a list. -/
def lastL (L : List Int) (m i : Nat) : List Int := (List.range m).map fun v : Nat => lastI (whoAt L m) i v
theorem lastL_length (L : List Int) (m i : Nat) : (lastL L m i).length = m := by unfold lastL; simp
theorem lastL_at {L : List Int} {m i v : Nat} (h : v < m) : (lastL L m i)[v]? = some (lastI (whoAt L m) i v) := by unfold lastL; rw [List.getElem?_map, List.getElem?_range h]; rfl
theorem lastL_none (L : List Int) (m : Nat) : lastL L m 0 = List.replicate m (-1) := by
  unfold lastL lastI
  exact List.map_const' ▸ by simp
theorem lastL_set {L : List Int} {m i v : Nat} (h : whoAt L m i = v) (hv : v < m) : (lastL L m i).set v i = lastL L m (i + 1) := by
  apply List.ext_getElem?
  intro j
  by_cases hj : j < m
  · rw [List.getElem?_set, lastL_at hj, lastL_length, lastL_at hj]
    show _ = some (if whoAt L m i = (j : Int) then (i : Int) else lastI (whoAt L m) i j)
    rw [h]
    by_cases he : v = j
    · subst he
      rw [if_pos rfl, if_pos hv, if_pos rfl]
    · rw [if_neg he, if_neg (by omega)]
  · rw [List.getElem?_eq_none (by rw [List.length_set, lastL_length]; omega), List.getElem?_eq_none (by rw [lastL_length]; omega)]
theorem lastL_wf {L : List Int} {m i : Nat} (h : i ≤ 60) : ∀ x ∈ lastL L m i, intK.wf x := by
  intro x hx
  unfold lastL at hx
  obtain ⟨v, _, rfl⟩ := List.mem_map.1 hx
  have := lastI_lo (whoAt L m) i v
  exact ⟨by omega, by omega⟩
end Go.Proofs.Ytehimacmjlehhaa.Pk
