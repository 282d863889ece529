/-
  THE WALK OF THE LAW MemNews.
-/
import Derived.Test.YtehimacmjlehhaaMemTold
namespace Go.Proofs.Ytehimacmjlehhaa.Mm
open Go.RowKit Rw Pk Go.Maps
set_option linter.unusedVariables false

theorem mayB_out {M : St} {who q a : Int} (h : (cnt M q : Int) ≤ a) : mayB M who q a = false := by
  unfold mayB thB
  rw [decide_eq_false (show ¬ a < (cnt M q : Int) by omega)]
  simp
def BigN (n : Int) : Prop := 9000 < n ∧ n ≤ 65536
def okN (a b c : Int) : Prop := 0 ≤ a ∧ 0 ≤ b ∧ 0 ≤ c ∧ a ≤ 65536 ∧ b ≤ 65536 ∧ c ≤ 65536
theorem three_of {w : World} {b : Nat} {v0 v1 v2 : Value} {T : TypeId} (h : w.heap[b]? = some (.cells #[v0, v1, v2] T (0, 0))) :
    w.cell? ⟨b, 0, none⟩ = some v0 ∧ w.cell? ⟨b, 1, none⟩ = some v1 ∧ w.cell? ⟨b, 2, none⟩ = some v2 := by
  simp [World.cell?, h]
set_option maxRecDepth 1000000 in
set_option maxHeartbeats 16000000 in
theorem memNews_any (a b c : Int) (ha : I64 a) (hb : I64 b) (hc : I64 c) (w : World) :
    Calls Try.prog 4 #[.int .i64 a, .int .i64 b, .int .i64 c] w fun e w' => e = .returned (.bool true) ∧ Below w.heap.size w w' := by
  obtain ⟨w0, hw0⟩ : ∃ w0, w0 = w.alloc (.cells #[.int .i64 a, .int .i64 b, .int .i64 c] 3) := ⟨_, rfl⟩
  have hb0 : Below w.heap.size w w0 := by rw [hw0]; exact (Below.refl _ _).alloc (Nat.le_refl _) _
  obtain ⟨x0, x1, x2⟩ := three_of (show w0.heap[w.heap.size]? = some (.cells #[.int .i64 a, .int .i64 b, .int .i64 c] 3 (0, 0)) by rw [hw0]; exact heap_alloc_new w _)
  have HB0 := Lib.hid hb0
  have HX := Lib.hid (And.intro x0 (And.intro x1 x2))
  clear hb0 x0 x1 x2
  go_enter Try.func4, Try.ntmps4
  go_wp2_with fail
  go_loopg [18] 3 (fun k t wr => ∃ i : Nat, i + k = 3 ∧ t = .int .i64 (i : Int) ∧ w0 = wr ∧ (0 < i → ¬ BigN a) ∧ (1 < i → ¬ BigN b) ∧ (2 < i → ¬ BigN c))
  case atStart => exact ⟨0, rfl, rfl, hw0, by omega, by omega, by omega⟩
  case round =>
    obtain ⟨i, hik, rfl, rfl, q0, q1, q2⟩ := hrel
    clear hw0
    obtain ⟨x0, x1, x2⟩ := HX.out
    have hi : i = 0 ∨ i = 1 ∨ i = 2 ∨ i = 3 := by omega
    have HIK := Lib.hid hik
    have Q0 := Lib.hid q0
    have Q1 := Lib.hid q1
    have Q2 := Lib.hid q2
    clear hik q0 q1 q2
    have HT := Lib.hid (mtold_any w0)
    have HTB : Hid (∀ w', Below w0.heap.size w0 w' → Below w.heap.size w w') := Lib.hid (fun w' h => HB0.out.trans (h.mono HB0.out.size))
    rcases hi with rfl | rfl | rfl | rfl
    · by_cases hn : BigN a
      · obtain ⟨n1, n2⟩ := hn
        go_wp2_with fail
        go_at_call 14
        refine HT.out.mono ?_
        rintro e w1 ⟨rfl, hb1⟩
        have HB1 := Lib.hid (HTB.out _ hb1)
        clear hb1
        go_wp2_with fail
        go_ret
        exact ⟨rfl, HB1.out⟩
      · have HN := Lib.hid hn
        have hn2 : ¬ 9000 < a ∨ ¬ a ≤ 65536 := by unfold BigN at hn; omega
        clear hn
        rcases hn2 with hn2 | hn2
        all_goals
          go_wp2_with fail
          go_roundg 2
          case measure => have := HIK.out; omega
          case rel => exact ⟨1, rfl, rfl, rfl, fun _ => HN.out, by omega, by omega⟩
    · by_cases hn : BigN b
      · obtain ⟨n1, n2⟩ := hn
        go_wp2_with fail
        go_at_call 14
        refine HT.out.mono ?_
        rintro e w1 ⟨rfl, hb1⟩
        have HB1 := Lib.hid (HTB.out _ hb1)
        clear hb1
        go_wp2_with fail
        go_ret
        exact ⟨rfl, HB1.out⟩
      · have HN := Lib.hid hn
        have hn2 : ¬ 9000 < b ∨ ¬ b ≤ 65536 := by unfold BigN at hn; omega
        clear hn
        rcases hn2 with hn2 | hn2
        all_goals
          go_wp2_with fail
          go_roundg 1
          case measure => have := HIK.out; omega
          case rel => exact ⟨2, rfl, rfl, rfl, fun _ => Q0.out (by omega), fun _ => HN.out, by omega⟩
    · by_cases hn : BigN c
      · obtain ⟨n1, n2⟩ := hn
        go_wp2_with fail
        go_at_call 14
        refine HT.out.mono ?_
        rintro e w1 ⟨rfl, hb1⟩
        have HB1 := Lib.hid (HTB.out _ hb1)
        clear hb1
        go_wp2_with fail
        go_ret
        exact ⟨rfl, HB1.out⟩
      · have HN := Lib.hid hn
        have hn2 : ¬ 9000 < c ∨ ¬ c ≤ 65536 := by unfold BigN at hn; omega
        clear hn
        rcases hn2 with hn2 | hn2
        all_goals
          go_wp2_with fail
          go_roundg 0
          case measure => have := HIK.out; omega
          case rel => exact ⟨3, rfl, rfl, rfl, fun _ => Q0.out (by omega), fun _ => Q1.out (by omega), fun _ => HN.out⟩
    · have n0 := Q0.out (by omega)
      have n1 := Q1.out (by omega)
      have n2 := Q2.out (by omega)
      unfold BigN at n0 n1 n2
      obtain ⟨ha1, ha2⟩ := ha
      obtain ⟨hb1, hb2⟩ := hb
      obtain ⟨hc1, hc2⟩ := hc
      clear x0 x1 x2 HT Q0 Q1 Q2
      by_cases hok : okN a b c
      · obtain ⟨k1, k2, k3, k4, k5, k6⟩ := hok
        obtain ⟨A, rfl⟩ : ∃ A : Nat, a = (A : Int) := ⟨a.toNat, by omega⟩
        obtain ⟨B, rfl⟩ : ∃ B : Nat, b = (B : Int) := ⟨b.toNat, by omega⟩
        obtain ⟨C, rfl⟩ : ∃ C : Nat, c = (C : Int) := ⟨c.toNat, by omega⟩
        have hA : A ≤ 65536 := by omega
        have hB : B ≤ 65536 := by omega
        have hC : C ≤ 65536 := by omega
        have HG := Lib.hid (good_init A B C)
        have hcA : cnt (initS A B C) 0 = A := by unfold cnt initS; simp
        have hcB : cnt (initS A B C) 2 = B := by unfold cnt initS; simp
        have hcC : cnt (initS A B C) 4 = C := by unfold cnt initS; simp
        have HL1 : Hid (loadV (initS A B C) 0 (A : Int) = 0 ∧ lookS (initS A B C) 0 0 (A : Int) = initS A B C) := Lib.hid ⟨by unfold loadV; rw [mayB_out (by rw [hcA]; omega)]; rfl, by unfold lookS; rw [mayB_out (by rw [hcA]; omega)]; rfl⟩
        have HL2 : Hid (takeV (initS A B C) 0 (C : Int) = false ∧ takeS (initS A B C) 0 (C : Int) = initS A B C) := Lib.hid ⟨by unfold takeV; rw [mayB_out (by rw [hcC]; omega)]; rfl, by unfold takeS; rw [mayB_out (by rw [hcC]; omega)]; rfl⟩
        have HL3 : Hid (getV (initS A B C) 0 (B : Int) = [] ∧ lookS (initS A B C) 0 2 (B : Int) = initS A B C) := Lib.hid ⟨by unfold getV; rw [mayB_out (by rw [hcB]; omega)]; rfl, by unfold lookS; rw [mayB_out (by rw [hcB]; omega)]; rfl⟩
        have HI1 := Lib.hid (show I64 (A : Int) from ⟨ha1, ha2⟩)
        have HI2 := Lib.hid (show I64 (B : Int) from ⟨hb1, hb2⟩)
        have HI3 := Lib.hid (show I64 (C : Int) from ⟨hc1, hc2⟩)
        clear hcA hcB hcC n0 n1 n2
        go_wp2_with fail
        go_at_call 12
        refine (memNew_any A B C hA hB hC _).mono ?_
        rintro e w1 ⟨p, τ, rfl, hm, ht, hbn⟩
        have HAL := Lib.hid (show Alive w0.heap.size w0 p (initS A B C) w1 from ⟨τ, hm, ht, hbn.size, hbn⟩)
        clear hm ht hbn
        go_wp2_with (first
          | (go_at_call 26; with_reducible refine (store_nil 0 0 1 _).mono ?_; rintro e w' ⟨rfl, rfl⟩)
          | (go_at_call 27; with_reducible refine (setm_nil 0 0 _).mono ?_; rintro e w' ⟨rfl, rfl⟩)
          | (go_at_call 20; with_reducible refine (time_nil _).mono ?_; rintro e w' ⟨rfl, rfl⟩)
          | (go_at_call 25; with_reducible refine (logm_nil _).mono ?_; rintro e w' ⟨rfl, rfl⟩)
          | (go_at_call 28; with_reducible refine (load_nil 0 0 _).mono ?_; rintro e w' ⟨rfl, rfl⟩)
          | (go_at_call 29; with_reducible refine (get_nil 0 0 _).mono ?_; rintro e w' ⟨rfl, rfl⟩)
          | (go_at_call 30; with_reducible refine (takem_nil 0 0 _).mono ?_; rintro e w' ⟨rfl, rfl⟩)
          | (go_at_call 31; with_reducible refine (freem_nil 0 0 _).mono ?_; rintro e w' ⟨rfl, rfl⟩)
          | (go_at_call 32; with_reducible refine (sleepm_nil 0 0 _).mono ?_; rintro e w' ⟨rfl, rfl⟩)
          | (go_at_call 33; with_reducible refine (wakem_nil 0 0 _).mono ?_; rintro e w' ⟨rfl, rfl⟩)
          | (go_at_call 21; with_reducible refine (asleep_nil 0 _).mono ?_; rintro e w' ⟨rfl, rfl⟩)
          | (go_at_call 23; with_reducible refine (holder_nil 0 _).mono ?_; rintro e w' ⟨rfl, rfl⟩))
        go_at_call 14
        refine (mtold_any _).mono ?_
        rintro e w2 ⟨rfl, hbt⟩
        have HAL2 := Lib.hid (HAL.out.below hbt)
        clear hbt
        go_wp2_with (first
          | (go_at_call 26; with_reducible refine (store_nil 0 0 1 _).mono ?_; rintro e w' ⟨rfl, rfl⟩)
          | (go_at_call 27; with_reducible refine (setm_nil 0 0 _).mono ?_; rintro e w' ⟨rfl, rfl⟩)
          | (go_at_call 20; with_reducible refine (time_nil _).mono ?_; rintro e w' ⟨rfl, rfl⟩)
          | (go_at_call 25; with_reducible refine (logm_nil _).mono ?_; rintro e w' ⟨rfl, rfl⟩)
          | (go_at_call 28; with_reducible refine (load_nil 0 0 _).mono ?_; rintro e w' ⟨rfl, rfl⟩)
          | (go_at_call 29; with_reducible refine (get_nil 0 0 _).mono ?_; rintro e w' ⟨rfl, rfl⟩)
          | (go_at_call 30; with_reducible refine (takem_nil 0 0 _).mono ?_; rintro e w' ⟨rfl, rfl⟩)
          | (go_at_call 31; with_reducible refine (freem_nil 0 0 _).mono ?_; rintro e w' ⟨rfl, rfl⟩)
          | (go_at_call 32; with_reducible refine (sleepm_nil 0 0 _).mono ?_; rintro e w' ⟨rfl, rfl⟩)
          | (go_at_call 33; with_reducible refine (wakem_nil 0 0 _).mono ?_; rintro e w' ⟨rfl, rfl⟩)
          | (go_at_call 21; with_reducible refine (asleep_nil 0 _).mono ?_; rintro e w' ⟨rfl, rfl⟩)
          | (go_at_call 23; with_reducible refine (holder_nil 0 _).mono ?_; rintro e w' ⟨rfl, rfl⟩))
        go_at_call 20
        refine (al_time HAL2.out).mono ?_
        rintro e w3 ⟨rfl, rfl⟩
        go_wp2_with fail
        go_at_call 25
        have HLOG : Hid (∃ τ, MemAt τ w2 p (initS A B C) ∧ Bnd (initS A B C)) := Lib.hid (by obtain ⟨τ, h, _⟩ := HAL2.out; exact ⟨τ, h, (HG.out.bnd hA hB hC (by omega)).1.1⟩)
        obtain ⟨τ2, hm2, hbn2⟩ := HLOG.out
        refine (log_any hm2 hbn2).mono ?_
        rintro e w3 ⟨vl, rfl, ho3, hb3⟩
        obtain ⟨lo, lc, rfl⟩ := ho3.form2
        have HAL3 := Lib.hid (HAL2.out.below hb3)
        clear ho3 hb3 hm2 hbn2
        go_wp2_with fail
        go_at_call 28
        refine (al_load HAL3.out HG.out hA hB hC (by omega) 0 (A : Int) mti0 HI1.out).mono ?_
        rw [HL1.out.1, HL1.out.2]
        rintro e w4 ⟨rfl, ha4⟩
        have HAL4 := Lib.hid ha4
        clear ha4
        go_wp2_with fail
        go_at_call 30
        refine (al_take HAL4.out HG.out hA hB hC (by omega) 0 (C : Int) mti0 HI3.out).mono ?_
        rw [HL2.out.1, HL2.out.2]
        rintro e w5 ⟨rfl, ha5⟩
        have HAL5 := Lib.hid ha5
        clear ha5
        go_wp2_with fail
        go_at_call 29
        refine (al_get HAL5.out HG.out hA hB hC (by omega) 0 (B : Int) mti0 HI2.out).mono ?_
        rw [HL3.out.1, HL3.out.2]
        rintro e w6 ⟨vg, rfl, ho6, ha6⟩
        have HAL6 := Lib.hid ha6
        obtain ⟨go, gc, rfl⟩ : ∃ go gc, vg = .slice go 0 gc := by
          rcases Batch.Own.form ho6 with ⟨_, h⟩ | ⟨g, c, h, _⟩
          · exact ⟨_, _, h⟩
          · exact ⟨_, _, h⟩
        clear ha6 ho6
        go_wp2_with fail
        go_at_call 20
        refine (al_time HAL6.out).mono ?_
        rintro e w7 ⟨rfl, rfl⟩
        go_wp2_with fail
        go_ret
        exact ⟨rfl, HB0.out.trans (HAL6.out.kept.mono HB0.out.size)⟩
      · have HNO := Lib.hid (memNew_no a b c (by unfold okN at hok; omega))
        have hno : (a < 0 ∧ a < 0) ∨ (0 ≤ a ∧ b < 0) ∨ ((0 ≤ a ∧ 0 ≤ b) ∧ c < 0) ∨ ((0 ≤ a ∧ 0 ≤ b ∧ 0 ≤ c) ∧ ¬ a ≤ 65536) ∨ ((0 ≤ a ∧ 0 ≤ b ∧ 0 ≤ c ∧ a ≤ 65536) ∧ ¬ b ≤ 65536) ∨ ((0 ≤ a ∧ 0 ≤ b ∧ 0 ≤ c ∧ a ≤ 65536 ∧ b ≤ 65536) ∧ ¬ c ≤ 65536) := by unfold okN at hok; omega
        clear hok n0 n1 n2
        rcases hno with ⟨_, q⟩ | ⟨p1, q⟩ | ⟨⟨p1, p2⟩, q⟩ | ⟨⟨p1, p2, p3⟩, q⟩ | ⟨⟨p1, p2, p3, p4⟩, q⟩ | ⟨⟨p1, p2, p3, p4, p5⟩, q⟩
        all_goals
          go_wp2_with fail
          go_at_call 12
          refine (HNO.out _).mono ?_
          rintro e w1 ⟨rfl, hbn⟩
          have HN1 := Lib.hid (HB0.out.trans (hbn.mono HB0.out.size))
          clear hbn
          go_wp2_with (first
            | (go_at_call 26; with_reducible refine (store_nil 0 0 1 _).mono ?_; rintro e w' ⟨rfl, rfl⟩)
            | (go_at_call 27; with_reducible refine (setm_nil 0 0 _).mono ?_; rintro e w' ⟨rfl, rfl⟩)
            | (go_at_call 20; with_reducible refine (time_nil _).mono ?_; rintro e w' ⟨rfl, rfl⟩)
            | (go_at_call 25; with_reducible refine (logm_nil _).mono ?_; rintro e w' ⟨rfl, rfl⟩)
            | (go_at_call 28; with_reducible refine (load_nil 0 0 _).mono ?_; rintro e w' ⟨rfl, rfl⟩)
            | (go_at_call 29; with_reducible refine (get_nil 0 0 _).mono ?_; rintro e w' ⟨rfl, rfl⟩)
            | (go_at_call 30; with_reducible refine (takem_nil 0 0 _).mono ?_; rintro e w' ⟨rfl, rfl⟩)
            | (go_at_call 31; with_reducible refine (freem_nil 0 0 _).mono ?_; rintro e w' ⟨rfl, rfl⟩)
            | (go_at_call 32; with_reducible refine (sleepm_nil 0 0 _).mono ?_; rintro e w' ⟨rfl, rfl⟩)
            | (go_at_call 33; with_reducible refine (wakem_nil 0 0 _).mono ?_; rintro e w' ⟨rfl, rfl⟩)
            | (go_at_call 21; with_reducible refine (asleep_nil 0 _).mono ?_; rintro e w' ⟨rfl, rfl⟩)
            | (go_at_call 23; with_reducible refine (holder_nil 0 _).mono ?_; rintro e w' ⟨rfl, rfl⟩))
          go_at_call 14
          refine (mtold_any _).mono ?_
          rintro e w2 ⟨rfl, hbt⟩
          have HN2 := Lib.hid (HN1.out.trans (hbt.mono HN1.out.size))
          clear hbt
          go_wp2_with (first
            | (go_at_call 26; with_reducible refine (store_nil 0 0 1 _).mono ?_; rintro e w' ⟨rfl, rfl⟩)
            | (go_at_call 27; with_reducible refine (setm_nil 0 0 _).mono ?_; rintro e w' ⟨rfl, rfl⟩)
            | (go_at_call 20; with_reducible refine (time_nil _).mono ?_; rintro e w' ⟨rfl, rfl⟩)
            | (go_at_call 25; with_reducible refine (logm_nil _).mono ?_; rintro e w' ⟨rfl, rfl⟩)
            | (go_at_call 28; with_reducible refine (load_nil 0 0 _).mono ?_; rintro e w' ⟨rfl, rfl⟩)
            | (go_at_call 29; with_reducible refine (get_nil 0 0 _).mono ?_; rintro e w' ⟨rfl, rfl⟩)
            | (go_at_call 30; with_reducible refine (takem_nil 0 0 _).mono ?_; rintro e w' ⟨rfl, rfl⟩)
            | (go_at_call 31; with_reducible refine (freem_nil 0 0 _).mono ?_; rintro e w' ⟨rfl, rfl⟩)
            | (go_at_call 32; with_reducible refine (sleepm_nil 0 0 _).mono ?_; rintro e w' ⟨rfl, rfl⟩)
            | (go_at_call 33; with_reducible refine (wakem_nil 0 0 _).mono ?_; rintro e w' ⟨rfl, rfl⟩)
            | (go_at_call 21; with_reducible refine (asleep_nil 0 _).mono ?_; rintro e w' ⟨rfl, rfl⟩)
            | (go_at_call 23; with_reducible refine (holder_nil 0 _).mono ?_; rintro e w' ⟨rfl, rfl⟩))
          go_ret
          exact ⟨rfl, HN2.out⟩
end Go.Proofs.Ytehimacmjlehhaa.Mm
