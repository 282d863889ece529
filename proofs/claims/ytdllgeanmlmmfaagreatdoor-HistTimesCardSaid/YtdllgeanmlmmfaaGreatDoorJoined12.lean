/-
  PACKAGE hist: an Entry as it lies there; whose, within: whose it is, and whether it lies within its time.
  MEMORY: a slice that came in, of any kind of element, as it reads (Rr): where it is empty nothing is said of its address.
-/
import Derived.Test.YtdllgeanmlmmfaaGreatDoorRowMem
import Derived.Deep.QuietTactic
import Derived.BigQuiet
import Derived.Test.YtdllgeanmlmmfaaGreatDoorJoined2
namespace Go.Proofs.YtdllgeanmlmmfaaGreatDoor.Hs
open Go.RowKit
set_option linter.unusedVariables false
set_option linter.unusedSimpArgs false

/-- An Entry: whose, its times, what was done, and the answer. -/
structure En where
  who : Int
  beg : Int
  mark : Int
  fin : Int
  kind : Int
  owho : Int
  hand : Int
  port : Int
  time : Int
  la : Option Addr
  ln : Nat
  lc : Nat
  way : Int
  n : Int
  err : Int
  ta : Option Addr
  tn : Nat
  tc : Nat
def En.val (x : En) : Value := .agg #[.int .i64 x.who, .int .i64 x.beg, .int .i64 x.mark, .int .i64 x.fin, .int .i64 x.kind, .int .i64 x.owho, .int .i64 x.hand, .int .i64 x.port, .int .u64 x.time, .slice x.la x.ln x.lc, .int .i64 x.way, .int .i64 x.n, .int .i64 x.err, .slice x.ta x.tn x.tc]
def whoseB (T : Int) (x : En) : Bool := if x.who = T then decide (9 ≤ x.kind) && decide (x.kind ≤ 11) else decide (0 ≤ x.who) && (decide (x.who < T) && (decide (0 ≤ x.kind) && (decide (x.kind ≤ 8) && decide (x.owho = x.who))))
def withinB (x : En) : Bool := decide (0 ≤ x.beg) && ((decide (x.mark = 0) || decide (x.beg < x.mark)) && (decide (x.fin = 0) || (!decide (x.mark = 0) && decide (x.mark ≤ x.fin))))

theorem beqT {a b : Int} (h : a = b) : (a == b) = true := by simp [h]
theorem beqF {a b : Int} (h : ¬ a = b) : (a == b) = false := by simp [h]
theorem bneT {a b : Int} (h : ¬ a = b) : (a != b) = true := by simp [h]
theorem bneF {a b : Int} (h : a = b) : (a != b) = false := by simp [h]

set_option maxRecDepth 1000000 in
set_option maxHeartbeats 8000000 in
theorem whose_any {w : World} (T : Int) (x : En) :
    Calls Tryz.prog 55 #[.int .i64 T, x.val] w fun e w' => e = .returned (.bool (whoseB T x)) ∧ Below w.heap.size w w' := by
  obtain ⟨who, beg, mark, fin, kind, owho, hand, port, time, la, ln, lc, way, n, err, ta, tn, tc⟩ := x
  have HB0 := Lib.hid (show Below w.heap.size w (w.alloc (.cells #[.int .i64 who, .int .i64 beg, .int .i64 mark, .int .i64 fin, .int .i64 kind, .int .i64 owho, .int .i64 hand, .int .i64 port, .int .u64 time, .slice la ln lc, .int .i64 way, .int .i64 n, .int .i64 err, .slice ta tn tc] 66)) from (Below.refl _ _).alloc (Nat.le_refl _) _)
  unfold En.val
  go_enter Tryz.func55, Tryz.ntmps55
  by_cases h1 : who = T
  · have d1 := beqT h1
    have d1n := bneF h1
    by_cases h2 : (9 : Int) ≤ kind
    · have d2 : decide ((9 : Int) ≤ kind) = true := decide_eq_true h2
      by_cases h3 : kind ≤ (11 : Int)
      · have d3 : decide (kind ≤ (11 : Int)) = true := decide_eq_true h3
        have HW := Lib.hid (show whoseB T ⟨who, beg, mark, fin, kind, owho, hand, port, time, la, ln, lc, way, n, err, ta, tn, tc⟩ = true from by simp [whoseB, h1, h2, h3])
        clear h1 h2 h3
        go_wp2_with fail
        go_ret
        exact ⟨by rw [HW.out]; rfl, HB0.out⟩
      · have d3 : decide (kind ≤ (11 : Int)) = false := decide_eq_false h3
        have HW := Lib.hid (show whoseB T ⟨who, beg, mark, fin, kind, owho, hand, port, time, la, ln, lc, way, n, err, ta, tn, tc⟩ = false from by simp [whoseB, h1, h2, h3])
        clear h1 h2 h3
        go_wp2_with fail
        go_ret
        exact ⟨by rw [HW.out]; rfl, HB0.out⟩
    · have d2 : decide ((9 : Int) ≤ kind) = false := decide_eq_false h2
      have HW := Lib.hid (show whoseB T ⟨who, beg, mark, fin, kind, owho, hand, port, time, la, ln, lc, way, n, err, ta, tn, tc⟩ = false from by simp [whoseB, h1, h2])
      clear h1 h2
      go_wp2_with fail
      go_ret
      exact ⟨by rw [HW.out]; rfl, HB0.out⟩
  · have d1 := beqF h1
    have d1n := bneT h1
    by_cases h4 : (0 : Int) ≤ who
    · have d4 : decide ((0 : Int) ≤ who) = true := decide_eq_true h4
      by_cases h5 : who < T
      · have d5 : decide (who < T) = true := decide_eq_true h5
        by_cases h6 : (0 : Int) ≤ kind
        · have d6 : decide ((0 : Int) ≤ kind) = true := decide_eq_true h6
          by_cases h7 : kind ≤ (8 : Int)
          · have d7 : decide (kind ≤ (8 : Int)) = true := decide_eq_true h7
            by_cases h8 : owho = who
            · have d8 := beqT h8
              have d8n := bneF h8
              have HW := Lib.hid (show whoseB T ⟨who, beg, mark, fin, kind, owho, hand, port, time, la, ln, lc, way, n, err, ta, tn, tc⟩ = true from by simp [whoseB, h1, h4, h5, h6, h7, h8])
              clear h1 h4 h5 h6 h7 h8
              go_wp2_with fail
              go_ret
              exact ⟨by rw [HW.out]; rfl, HB0.out⟩
            · have d8 := beqF h8
              have d8n := bneT h8
              have HW := Lib.hid (show whoseB T ⟨who, beg, mark, fin, kind, owho, hand, port, time, la, ln, lc, way, n, err, ta, tn, tc⟩ = false from by simp [whoseB, h1, h4, h5, h6, h7, h8])
              clear h1 h4 h5 h6 h7 h8
              go_wp2_with fail
              go_ret
              exact ⟨by rw [HW.out]; rfl, HB0.out⟩
          · have d7 : decide (kind ≤ (8 : Int)) = false := decide_eq_false h7
            have HW := Lib.hid (show whoseB T ⟨who, beg, mark, fin, kind, owho, hand, port, time, la, ln, lc, way, n, err, ta, tn, tc⟩ = false from by simp [whoseB, h1, h4, h5, h6, h7])
            clear h1 h4 h5 h6 h7
            go_wp2_with fail
            go_ret
            exact ⟨by rw [HW.out]; rfl, HB0.out⟩
        · have d6 : decide ((0 : Int) ≤ kind) = false := decide_eq_false h6
          have HW := Lib.hid (show whoseB T ⟨who, beg, mark, fin, kind, owho, hand, port, time, la, ln, lc, way, n, err, ta, tn, tc⟩ = false from by simp [whoseB, h1, h4, h5, h6])
          clear h1 h4 h5 h6
          go_wp2_with fail
          go_ret
          exact ⟨by rw [HW.out]; rfl, HB0.out⟩
      · have d5 : decide (who < T) = false := decide_eq_false h5
        have HW := Lib.hid (show whoseB T ⟨who, beg, mark, fin, kind, owho, hand, port, time, la, ln, lc, way, n, err, ta, tn, tc⟩ = false from by simp [whoseB, h1, h4, h5])
        clear h1 h4 h5
        go_wp2_with fail
        go_ret
        exact ⟨by rw [HW.out]; rfl, HB0.out⟩
    · have d4 : decide ((0 : Int) ≤ who) = false := decide_eq_false h4
      have HW := Lib.hid (show whoseB T ⟨who, beg, mark, fin, kind, owho, hand, port, time, la, ln, lc, way, n, err, ta, tn, tc⟩ = false from by simp [whoseB, h1, h4])
      clear h1 h4
      go_wp2_with fail
      go_ret
      exact ⟨by rw [HW.out]; rfl, HB0.out⟩

set_option maxRecDepth 1000000 in
set_option maxHeartbeats 8000000 in
theorem hsWithin_any {w : World} (x : En) :
    Calls Tryz.prog 56 #[x.val] w fun e w' => e = .returned (.bool (withinB x)) ∧ Below w.heap.size w w' := by
  obtain ⟨who, beg, mark, fin, kind, owho, hand, port, time, la, ln, lc, way, n, err, ta, tn, tc⟩ := x
  have HB0 := Lib.hid (show Below w.heap.size w (w.alloc (.cells #[.int .i64 who, .int .i64 beg, .int .i64 mark, .int .i64 fin, .int .i64 kind, .int .i64 owho, .int .i64 hand, .int .i64 port, .int .u64 time, .slice la ln lc, .int .i64 way, .int .i64 n, .int .i64 err, .slice ta tn tc] 66)) from (Below.refl _ _).alloc (Nat.le_refl _) _)
  unfold En.val
  go_enter Tryz.func56, Tryz.ntmps56
  by_cases h1 : (0 : Int) ≤ beg
  · have d1 : decide ((0 : Int) ≤ beg) = true := decide_eq_true h1
    by_cases h2 : mark = 0
    · have d2 := beqT h2
      have d2n := bneF h2
      by_cases h3 : fin = 0
      · have d3 := beqT h3
        have d3n := bneF h3
        have HW := Lib.hid (show withinB ⟨who, beg, mark, fin, kind, owho, hand, port, time, la, ln, lc, way, n, err, ta, tn, tc⟩ = true from by simp [withinB, h1, h2, h3])
        clear h1 h2 h3
        go_wp2_with fail
        go_ret
        exact ⟨by rw [HW.out]; rfl, HB0.out⟩
      · have d3 := beqF h3
        have d3n := bneT h3
        have HW := Lib.hid (show withinB ⟨who, beg, mark, fin, kind, owho, hand, port, time, la, ln, lc, way, n, err, ta, tn, tc⟩ = false from by simp [withinB, h1, h2, h3])
        clear h1 h2 h3
        go_wp2_with fail
        go_ret
        exact ⟨by rw [HW.out]; rfl, HB0.out⟩
    · have d2 := beqF h2
      have d2n := bneT h2
      by_cases h4 : beg < mark
      · have d4 : decide (beg < mark) = true := decide_eq_true h4
        by_cases h5 : fin = 0
        · have d5 := beqT h5
          have d5n := bneF h5
          have HW := Lib.hid (show withinB ⟨who, beg, mark, fin, kind, owho, hand, port, time, la, ln, lc, way, n, err, ta, tn, tc⟩ = true from by simp [withinB, h1, h2, h4, h5])
          clear h1 h2 h4 h5
          go_wp2_with fail
          go_ret
          exact ⟨by rw [HW.out]; rfl, HB0.out⟩
        · have d5 := beqF h5
          have d5n := bneT h5
          by_cases h6 : mark ≤ fin
          · have d6 : decide (mark ≤ fin) = true := decide_eq_true h6
            have HW := Lib.hid (show withinB ⟨who, beg, mark, fin, kind, owho, hand, port, time, la, ln, lc, way, n, err, ta, tn, tc⟩ = true from by simp [withinB, h1, h2, h4, h5, h6])
            clear h1 h2 h4 h5 h6
            go_wp2_with fail
            go_ret
            exact ⟨by rw [HW.out]; rfl, HB0.out⟩
          · have d6 : decide (mark ≤ fin) = false := decide_eq_false h6
            have HW := Lib.hid (show withinB ⟨who, beg, mark, fin, kind, owho, hand, port, time, la, ln, lc, way, n, err, ta, tn, tc⟩ = false from by simp [withinB, h1, h2, h4, h5, h6])
            clear h1 h2 h4 h5 h6
            go_wp2_with fail
            go_ret
            exact ⟨by rw [HW.out]; rfl, HB0.out⟩
      · have d4 : decide (beg < mark) = false := decide_eq_false h4
        have HW := Lib.hid (show withinB ⟨who, beg, mark, fin, kind, owho, hand, port, time, la, ln, lc, way, n, err, ta, tn, tc⟩ = false from by simp [withinB, h1, h2, h4])
        clear h1 h2 h4
        go_wp2_with fail
        go_ret
        exact ⟨by rw [HW.out]; rfl, HB0.out⟩
  · have d1 : decide ((0 : Int) ≤ beg) = false := decide_eq_false h1
    have HW := Lib.hid (show withinB ⟨who, beg, mark, fin, kind, owho, hand, port, time, la, ln, lc, way, n, err, ta, tn, tc⟩ = false from by simp [withinB, h1])
    clear h1
    go_wp2_with fail
    go_ret
    exact ⟨by rw [HW.out]; rfl, HB0.out⟩
end Go.Proofs.YtdllgeanmlmmfaaGreatDoor.Hs
namespace Go.Proofs.YtdllgeanmlmmfaaGreatDoor.Rw
open Go.RowKit
set_option linter.unusedVariables false
variable {α : Type} {S : Kd α}

def Rr (S : Kd α) (w : World) (v : Value) (l : List α) : Prop := ∃ (ao : Option Addr) (cap : Nat), v = .slice ao l.length cap ∧ (l = [] ∨ ∃ b off, b < w.heap.size ∧ ao = some ⟨b, off, none⟩ ∧ ∀ i x, l[i]? = some x → AtK S w b (off + i * S.k) x) ∧ l.length ≤ cap ∧ cap ≤ 9223372036854775807 ∧ ∀ x ∈ l, S.wf x
theorem Sl.rr {w : World} {v : Value} {l : List α} (h : Sl S w v l) : Rr S w v l := by
  obtain ⟨ao, cap, rfl, h1, h2, h3, h4⟩ := h
  refine ⟨ao, cap, rfl, ?_, h2, h3, h4⟩
  rcases h1 with h1 | h1
  · exact .inl h1.2
  · exact .inr h1
theorem Rr.below {w w' : World} {v : Value} {l : List α} (h : Rr S w v l) (hw : Below w.heap.size w w') : Rr S w' v l := by
  obtain ⟨ao, cap, rfl, h1, h2, h3, h4⟩ := h
  refine ⟨ao, cap, rfl, ?_, h2, h3, h4⟩
  rcases h1 with h1 | ⟨b, off, hb, ha, h1⟩
  · exact .inl h1
  · exact .inr ⟨b, off, Nat.lt_of_lt_of_le hb hw.size, ha, fun i x hx => (h1 i x hx).below hw hb⟩
theorem Rr.wf {w : World} {v : Value} {l : List α} (h : Rr S w v l) : ∀ x ∈ l, S.wf x := by obtain ⟨_, _, _, _, _, _, h⟩ := h; exact h
theorem Rr.form {w : World} {v : Value} {l : List α} (h : Rr S w v l) : ∃ ao cap, v = .slice ao l.length cap ∧ l.length ≤ cap ∧ cap ≤ 9223372036854775807 := by obtain ⟨ao, cap, h, _, h1, h2, _⟩ := h; exact ⟨ao, cap, h, h1, h2⟩
theorem Rr.at {w : World} {ao : Option Addr} {n cap : Nat} {l : List α} (h : Rr S w (.slice ao n cap) l) {i : Nat} {x : α} (hx : l[i]? = some x) : ∃ b off, ao = some ⟨b, off, none⟩ ∧ b < w.heap.size ∧ AtK S w b (off + i * S.k) x := by
  obtain ⟨ao', cap', hv, h4, _⟩ := h
  simp at hv
  obtain ⟨rfl, rfl, rfl⟩ := hv
  rcases h4 with h4 | ⟨b, off, hb, ha, h4⟩
  · subst h4; simp at hx
  · exact ⟨b, off, ha, hb, h4 i x hx⟩
theorem Rr.len {w : World} {ao : Option Addr} {n cap : Nat} {l : List α} (h : Rr S w (.slice ao n cap) l) : n = l.length := by
  obtain ⟨ao', cap', hv, _⟩ := h
  simp at hv
  exact hv.2.1
theorem Rr.take {w : World} {ao : Option Addr} {n cap k : Nat} {l : List α} (h : Rr S w (.slice ao n cap) l) (hk : k ≤ n) : Rr S w (.slice ao k cap) (l.take k) := by
  have hn := h.len
  obtain ⟨ao', cap', hv, h1, h2, h3, h4⟩ := h
  simp at hv
  obtain ⟨rfl, _, rfl⟩ := hv
  have hl : (l.take k).length = k := by rw [List.length_take]; omega
  refine ⟨ao, cap, by rw [hl], ?_, by omega, h3, fun x hx => h4 x (List.mem_of_mem_take hx)⟩
  rcases h1 with rfl | ⟨b, off, hb, rfl, h1⟩
  · exact .inl (by simp)
  · refine .inr ⟨b, off, hb, rfl, fun i x hx => h1 i x ?_⟩
    have hik : i < k := by have := (List.getElem?_eq_some_iff.1 hx).1; omega
    rwa [List.getElem?_take_of_lt hik] at hx
theorem Rr.src {w : World} {ao : Option Addr} {n cap : Nat} {l : List α} (hk : 0 < S.k) (h : Rr S w (.slice ao n cap) l) : Batch.Src w ao n (S.flat l) := by
  have hn := h.len
  obtain ⟨ao', cap', hv, h1, h2, h3, h4⟩ := h
  simp at hv
  obtain ⟨rfl, _, rfl⟩ := hv
  rcases h1 with rfl | ⟨b, off, hb, rfl, h1⟩
  · cases ao
    · exact .inl ⟨rfl, hn, rfl⟩
    · exact .inr ⟨_, rfl, fun j u hu => by simp [Kd.flat] at hu⟩
  · refine .inr ⟨_, rfl, fun j u hu => ?_⟩
    rw [show ((⟨b, off, none⟩ : Addr).add j) = ⟨b, off + j, none⟩ by unfold Addr.add; split <;> simp_all]
    exact (show Sl S w (.slice (some ⟨b, off, none⟩) l.length cap) l from ⟨_, _, rfl, .inr ⟨b, off, hb, rfl, h1⟩, h2, h3, h4⟩).cells hk j u hu
/-- From an address that may be any where there is nothing. -/
theorem rr_of {w : World} {a : Addr} {len cap : Nat} {l : List α} (hk : 0 < S.k) (hl : l.length = len) (hc : len ≤ cap) (hm : cap ≤ 9223372036854775807) (hwf : ∀ x ∈ l, S.wf x)
    (h : ∀ i x, l[i]? = some x → ∀ c u, c < S.k → (S.cells x)[c]? = some u → w.cell? (a.add (i * S.k + c)) = some u) : Rr S w (.slice (some a) len cap) l := by
  subst hl
  refine ⟨some a, cap, rfl, ?_, hc, hm, hwf⟩
  by_cases h0 : l = []
  · exact .inl h0
  · right
    have hpos : 0 < l.length := List.length_pos_iff.2 h0
    have h00 := h 0 l[0] (List.getElem?_eq_getElem hpos) 0 _ hk (List.getElem?_eq_getElem (by rw [S.len]; exact hk))
    obtain ⟨b, off, spot⟩ := a
    have hspot : spot = none := by simpa [Addr.add] using World.cell?_spot h00
    subst hspot
    have e : ∀ j, ((⟨b, off, none⟩ : Addr).add j) = ⟨b, off + j, none⟩ := fun j => by unfold Addr.add; split <;> simp_all
    rw [e] at h00
    refine ⟨b, off, Lib.lt_of_cell h00, rfl, fun i x hx c u hc hu => ?_⟩
    have := h i x hx c u hc hu
    rw [e] at this
    rw [Nat.add_assoc]
    exact this
end Go.Proofs.YtdllgeanmlmmfaaGreatDoor.Rw
