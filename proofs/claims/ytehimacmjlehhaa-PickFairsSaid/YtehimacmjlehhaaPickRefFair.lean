/-
  PACKAGE marchlandref10: Fair.
-/
import Derived.Test.YtehimacmjlehhaaPickMath
namespace Go.Proofs.Ytehimacmjlehhaa.Pk
open Go.RowKit Rw
set_option linter.unusedVariables false

theorem iff_no {p : Prop} (h : ¬ p) : false = true ↔ p := ⟨(fun h => by cases h), fun q => absurd q h⟩
theorem iff_yes {p : Prop} (h : p) : true = true ↔ p := ⟨fun _ => h, fun _ => rfl⟩
def FairE (L : List Int) (m : Nat) (wd : Int) (w : World) (e : Ending) (w' : World) : Prop := ∃ b : Bool, e = .returned (.bool b) ∧ (b = true ↔ FairS L m wd) ∧ Below w.heap.size w w'
def IsP (L : List Int) (m a k v : Nat) (b : Bool) : Prop := b = true ↔ ∃ j, a ≤ j ∧ j < k ∧ whoAt L m j = v
theorem isP_start (L : List Int) (m a v : Nat) : IsP L m a a v false := by
  constructor
  · intro h; cases h
  · rintro ⟨j, h1, h2, _⟩; omega
theorem isP_keep {L : List Int} {m a k v : Nat} (h : IsP L m a k v true) : IsP L m a (k + 1) v true := by
  obtain ⟨j, h1, h2, h3⟩ := h.1 rfl
  exact ⟨fun _ => ⟨j, h1, by omega, h3⟩, fun _ => rfl⟩
theorem isP_next {L : List Int} {m a k v : Nat} {x : Int} (hx : L[k]? = some x) (hak : a ≤ k) (h : IsP L m a k v false) : IsP L m a (k + 1) v (whoF x m == (v : Int)) := by
  have e := whoAt_of (m := m) hx
  unfold IsP
  rw [beq_iff_eq, ← e]
  constructor
  · intro hq; exact ⟨k, hak, by omega, hq⟩
  · rintro ⟨j, h1, h2, h3⟩
    by_cases hjk : j = k
    · rw [← hjk]; exact h3
    · exact absurd (h.2 ⟨j, h1, by omega, h3⟩) (by simp)

set_option maxRecDepth 1000000 in
set_option maxHeartbeats 8000000 in
theorem reffair_any {w : World} {v : Value} {L : List Int} (hv : Rr intK w v L) (hL : L.length ≤ 60) (m : Nat) (hm : m ≤ 8) (wd : Int) (hwd : -9223372036854775808 ≤ wd ∧ wd ≤ 9223372036854775807) :
    Calls Try.prog 48 #[v, .int .i64 (m : Int), .int .i64 wd] w (FairE L m wd w) := by
  have HV := Lib.hid hv
  obtain ⟨ao, cap, rfl, hc1, hc2⟩ := hv.form
  clear hv hc1
  have hm0 : (0 : Int) ≤ (m : Int) := Int.natCast_nonneg _
  have hm8 : (m : Int) ≤ 8 := by omega
  have hL60 : (L.length : Int) ≤ 60 := by omega
  by_cases h1 : wd < 1
  · go_enter Try.func48, Try.ntmps48
    go_wp2
    go_ret
    exact ⟨false, rfl, iff_no (fun h => by have := h.1; omega), Below.refl _ _⟩
  by_cases h2 : (L.length : Int) < wd
  · go_enter Try.func48, Try.ntmps48
    go_wp2
    go_ret
    exact ⟨true, rfl, iff_yes ⟨by omega, .inl h2⟩, Below.refl _ _⟩
  obtain ⟨n, rfl⟩ : ∃ n : Nat, wd = (n : Int) := ⟨wd.toNat, by omega⟩
  have hn1 : 1 ≤ n := by omega
  have hn2 : n ≤ L.length := by omega
  have hn3 : (n : Int) ≤ (L.length : Int) := by omega
  have hn0 : (1 : Int) ≤ (n : Int) := by omega
  have HS : Hid (FairS L m (n : Int) ↔ FairW (whoAt L m) L.length m n) := Lib.hid ⟨fun h => by
    rcases h.2 with h | h
    · omega
    · simpa using h, fun h => ⟨by omega, .inr (by simpa using h)⟩⟩
  have h1' : decide ((n : Int) < 1) = false := decide_eq_false h1
  have h2' : decide ((L.length : Int) < (n : Int)) = false := decide_eq_false h2
  have h2'' : decide (L.length < n) = false := decide_eq_false (by omega)
  clear h1 h2 hwd
  go_enter Try.func48, Try.ntmps48
  go_wp2
  clear h1' h2' h2''
  go_loopg [7] (L.length + 1) (fun k t wr => ∃ a : Nat, a + k = L.length + 1 ∧ t = .int .i64 (a : Int) ∧ w = wr ∧ ∀ a' < a, a' + n ≤ L.length → WinP (whoAt L m) m n a')
  case atStart => exact ⟨0, by omega, rfl, rfl, by intro a' h; omega⟩
  case round =>
    obtain ⟨a, hak, rfl, rfl, hok⟩ := hrel
    have HAK := Lib.hid hak
    have HOK := Lib.hid hok
    have ha0 : (0 : Int) ≤ (a : Int) := Int.natCast_nonneg _
    have ha1 : (a : Int) ≤ (L.length : Int) + 1 := by omega
    clear hak hok
    by_cases hle : a + n ≤ L.length
    · have hle' : (a : Int) + (n : Int) ≤ (L.length : Int) := by omega
      go_wp2_with fail
      go_loopg [8] m (fun k t wr => ∃ v : Nat, v + k = m ∧ t = .int .i64 (v : Int) ∧ w = wr ∧ ∀ v' < v, ∃ j, a ≤ j ∧ j < a + n ∧ whoAt L m j = (v' : Int))
      case atStart => exact ⟨0, by omega, rfl, rfl, by intro v' h; omega⟩
      case round =>
        obtain ⟨v, hvk, rfl, rfl, hov⟩ := hrel
        have HVK := Lib.hid hvk
        have HOV := Lib.hid hov
        have hv0 : (0 : Int) ≤ (v : Int) := Int.natCast_nonneg _
        clear hvk hov
        by_cases hlt : v < m
        · have hlt' : (v : Int) < (m : Int) := by omega
          go_wp2_with fail
          go_loopg [9, 10] n (fun g s t wr => ∃ (k : Nat) (b : Bool), k + g = a + n ∧ a ≤ k ∧ s = .bool b ∧ t = .int .i64 (k : Int) ∧ w = wr ∧ IsP L m a k v b)
          case atStart => exact ⟨a, false, by omega, Nat.le_refl _, rfl, rfl, rfl, isP_start L m a v⟩
          case round =>
            obtain ⟨k, b, hkg, hak, rfl, rfl, rfl, hp⟩ := hrel
            have HKG := Lib.hid hkg
            have HP := Lib.hid hp
            have hk0 : (0 : Int) ≤ (k : Int) := Int.natCast_nonneg _
            have hk2 : (k : Int) ≤ (a : Int) + (n : Int) := by omega
            clear hkg hp
            by_cases hkl : k < a + n
            · have hkl' : (k : Int) < (a : Int) + (n : Int) := by omega
              obtain ⟨x, hx⟩ : ∃ x, L[k]? = some x := ⟨_, List.getElem?_eq_getElem (by omega)⟩
              have HX := Lib.hid hx
              obtain ⟨g', off, rfl, _, q⟩ := HV.out.at hx
              have c0 := at1 q
              simp only [intK_k, Nat.mul_one] at c0
              have hk3 : (k : Int) < (L.length : Int) := by omega
              clear hx q
              cases b
              · have HN := Lib.hid (isP_next HX.out hak HP.out)
                go_wp2_with (go_at_call 43; refine (refwho_any _ _ (by omega) _).mono ?_; rintro e w' ⟨rfl, rfl⟩)
                go_roundg (a + n - (k + 1))
                case measure => have := HKG.out; omega
                case rel => exact ⟨k + 1, _, by omega, by omega, rfl, by go_num, rfl, HN.out⟩
              · have HN := Lib.hid (isP_keep HP.out)
                go_wp2_with fail
                go_roundg (a + n - (k + 1))
                case measure => have := HKG.out; omega
                case rel => exact ⟨k + 1, _, by omega, by omega, rfl, by go_num, rfl, HN.out⟩
            · obtain rfl : k = a + n := by have := HKG.out; omega
              have hj2 : decide (((a + n : Nat) : Int) < (a : Int) + (n : Int)) = false := decide_eq_false (by omega)
              have hj3 : ¬ (((a + n : Nat) : Int) < (a : Int) + (n : Int)) := by omega
              cases b
              · have HF : Hid (¬ FairW (whoAt L m) L.length m n) := Lib.hid (fun h => by
                  obtain ⟨j, h1, h2, h3⟩ := h a hle v hlt
                  exact absurd (HP.out.2 ⟨j, h1, h2, h3⟩) (by simp))
                go_wp2_with fail
                go_ret
                exact ⟨false, rfl, iff_no (fun h => HF.out (HS.out.1 h)), Below.refl _ _⟩
              · have HW := Lib.hid (HP.out.1 rfl)
                go_wp2_with fail
                go_roundg (m - (v + 1))
                case measure => have := HVK.out; omega
                case rel => exact ⟨v + 1, by omega, by go_num, rfl, fun v' hv' => by
                  by_cases he : v' = v
                  · rw [he]; exact HW.out
                  · exact HOV.out v' (by omega)⟩
        · obtain rfl : v = m := by have := HVK.out; omega
          have hj2 : decide ((v : Int) < (v : Int)) = false := decide_eq_false (by omega)
          go_wp2_with fail
          go_roundg (L.length + 1 - (a + 1))
          case measure => have := HAK.out; omega
          case rel => exact ⟨a + 1, by omega, by go_num, rfl, fun a' ha' hle2 => by
            by_cases he : a' = a
            · rw [he]; exact fun v' hv' => HOV.out v' hv'
            · exact HOK.out a' (by omega) hle2⟩
    · have hj2 : ¬ ((a : Int) + (n : Int) ≤ (L.length : Int)) := by omega
      have hj3 : decide ((a : Int) + (n : Int) ≤ (L.length : Int)) = false := decide_eq_false hj2
      have HF : Hid (FairW (whoAt L m) L.length m n) := Lib.hid (fun a' ha' => HOK.out a' (by omega) ha')
      go_wp2_with fail
      go_ret
      exact ⟨true, rfl, iff_yes (HS.out.2 HF.out), Below.refl _ _⟩
end Go.Proofs.Ytehimacmjlehhaa.Pk
