/-
  THE DOCUMENT'S OWN ANSWER for shot: Fit, Some, Same, Read; what was read (Times).
-/
import Derived.Test.YtjmkcgkkgamafaaShRun
import Derived.Test.YtjmkcgkkgamafaaJoined8
import Derived.Deep.RegionHeld3
namespace Go.Proofs.Ytjmkcgkkgamafaa.Sh
open Go.RowKit Rw Pk Go.Maps Mm
set_option linter.unusedVariables false
section
variable {w w' : World} {A : Sa} {g n : Nat} {T L : List Int}
theorem own_u64 {base g n c : Nat} {L : List Int} (h : Own u64K w base 53 (.slice (some ⟨g, 0, none⟩) n c) L) {i : Nat} (hi : i < L.length) (y : Int) :
    Own u64K (w.setCell ⟨g, i, none⟩ (.int .u64 y)) base 53 (.slice (some ⟨g, 0, none⟩) n c) (L.set i y) := by
  have h1 := row_set h (j := i) (by show i < L.length * 1; omega) (.int .u64 y)
  have hx : L[i]? = some L[i] := List.getElem?_eq_getElem hi
  unfold Own
  rw [List.length_set, flat_set1 (S := u64K) rfl hx (y := y) rfl]
  exact h1
theorem u64_at {base g n c : Nat} {L : List Int} (h : Own u64K w base 53 (.slice (some ⟨g, 0, none⟩) n c) L) {i : Nat} (hi : i < L.length) : w.cell? ⟨g, i, none⟩ = some (.int .u64 (L.getD i 0)) ∧ w.frozen? ⟨g, i, none⟩ = false := by
  have hx : L[i]? = some (L.getD i 0) := by rw [List.getD_eq_getElem?_getD, List.getElem?_eq_getElem hi]; rfl
  have := (h.at hx) 0 _ (by decide) rfl
  simp only [show u64K.k = 1 from rfl, Nat.mul_one, Nat.add_zero] at this
  exact ⟨this, h.free _⟩
theorem atu1 {b o : Nat} {g : Int} (h : AtK u64K w b o g) : w.cell? ⟨b, o, none⟩ = some (.int .u64 g) := h 0 _ (by decide) rfl
/-! ### what was read -/
set_option maxRecDepth 1000000 in
set_option maxHeartbeats 8000000 in
theorem shtimes_no (h : SaAt w g A) {D : List (Int × Int)} (hd : Rr accK w A.dv D) (hn : D ≠ [] ∨ A.pub = true) :
    Calls Try.prog 54 #[.pointer (some ⟨g, 0, none⟩)] w fun e w' => e = .returned (.slice none 0 0) ∧ w = w' := by
  have HO := Lib.hid (shover_any h hd)
  obtain ⟨c0, c1, c2, _⟩ := h.cells
  clear h hd
  by_cases hD : D = []
  · rw [decide_eq_true hD] at HO
    have hp := hn.resolve_left (fun h => h hD)
    rw [hp] at c2
    clear hn hD hp
    go_enter Try.func54, Try.ntmps54
    go_wp2_with fail
    go_at_call 52
    refine HO.out.mono ?_
    rintro e w2 ⟨rfl, rfl⟩
    go_wp2_with fail
    go_ret
    exact ⟨rfl, rfl⟩
  · rw [decide_eq_false hD] at HO
    clear hn hD
    go_enter Try.func54, Try.ntmps54
    go_wp2_with fail
    go_at_call 52
    refine HO.out.mono ?_
    rintro e w2 ⟨rfl, rfl⟩
    go_wp2_with fail
    go_ret
    exact ⟨rfl, rfl⟩
set_option maxRecDepth 1000000 in
set_option maxHeartbeats 8000000 in
theorem shtimes_yes (h : SaAt w g A) (hd : Rr accK w A.dv []) (hp : A.pub = false) (ht : Own u64K w 0 53 A.tv T) (hw : ∀ x ∈ T, u64K.wf x) (h0 : T ≠ []) (hl : T.length ≤ 1000) :
    Calls Try.prog 54 #[.pointer (some ⟨g, 0, none⟩)] w fun e w' => ∃ v, e = .returned v ∧ Own u64K w' w.heap.size 53 v T ∧ Below w.heap.size w w' := by
  have HO := Lib.hid (shover_any h hd)
  rw [decide_eq_true rfl] at HO
  obtain ⟨c0, c1, c2, c3, c4, _⟩ := h.cells
  have HC := Lib.hid (cloneU_any ((ht.sl hw).rr) h0 (by omega))
  obtain ⟨tvo, tc, htv⟩ := ht.form2
  rw [hp] at c2
  rw [htv] at c4 HC
  clear h hd hp ht hw htv
  go_enter Try.func54, Try.ntmps54
  go_wp2_with fail
  go_at_call 52
  refine HO.out.mono ?_
  rintro e w2 ⟨rfl, rfl⟩
  go_wp2_with fail
  go_at_call 92
  refine HC.out.mono ?_
  rintro e w3 ⟨v', rfl, ho, hb⟩
  have HH := Lib.hid (And.intro ho hb)
  clear ho hb
  go_wp2_with fail
  go_ret
  exact ⟨_, rfl, HH.out.1, HH.out.2⟩
/-! ### Same -/
set_option maxRecDepth 1000000 in
set_option maxHeartbeats 8000000 in
theorem refsame13_any {va vb : Value} (ha : Rr u64K w va L) (hb : Rr u64K w vb L) :
    Calls Try.prog 56 #[va, vb] w fun e w' => e = .returned (.bool true) ∧ Below w.heap.size w w' := by
  have HA := Lib.hid ha
  have HB := Lib.hid hb
  obtain ⟨ao, ac, rfl, ha1, ha2⟩ := ha.form
  obtain ⟨bo, bc, rfl, hb1, hb2⟩ := hb.form
  have hlm : L.length ≤ 9223372036854775807 := by omega
  clear ha hb ha1 hb1
  go_enter Try.func56, Try.ntmps56
  go_wp2_with fail
  go_loopg [5] (L.length + 1) (fun k t wr => ∃ (i : Nat), i + k = L.length + 1 ∧ i ≤ L.length ∧ t = .int .i64 (i : Int) ∧ Hid (Below w.heap.size w wr))
  case atStart => exact ⟨0, by omega, by omega, rfl, Lib.hid (Below.refl _ _)⟩
  case round =>
    obtain ⟨i, hik, hil, rfl, HW⟩ := hrel
    have HIK := Lib.hid hik
    clear hik
    by_cases hlt : i < L.length
    · obtain ⟨x, hx⟩ : ∃ x, L[i]? = some x := ⟨_, List.getElem?_eq_getElem hlt⟩
      obtain ⟨b1, off1, rfl, hbl1, qx1⟩ := HA.out.at hx
      obtain ⟨b2, off2, rfl, hbl2, qx2⟩ := HB.out.at hx
      have c1 := atu1 (qx1.below HW.out hbl1)
      have c2 := atu1 (qx2.below HW.out hbl2)
      simp only [show u64K.k = 1 from rfl, Nat.mul_one] at c1 c2
      have hlt' : (i : Int) < (L.length : Int) := by omega
      have hi0 : (0 : Int) ≤ (i : Int) := Int.natCast_nonneg _
      have hne : (x != x) = false := by simp
      have hw : IntKind.i64.wrap ((i : Int) + 1) = (i : Int) + 1 := by rw [IntKind.wrap_i64]; omega
      have HLT := Lib.hid hlt
      clear hx qx1 qx2 hbl1 hbl2 hlt
      go_wp2_with fail
      go_quiet (fail)
      have HW2 := Lib.hid (below_drewN HW.out nq)
      go_wp2_with fail
      go_roundg (gk - 1)
      case measure => have := HIK.out; have := HLT.out; omega
      case rel => exact ⟨i + 1, by have := HIK.out; have := HLT.out; omega, by have := HLT.out; omega, by simp, HW2⟩
    · have hlt' : ¬ (i : Int) < (L.length : Int) := by omega
      clear hlt
      go_wp2_with fail
      go_ret
      exact ⟨rfl, HW.out⟩
/-! ### Fit -/
set_option maxRecDepth 1000000 in
set_option maxHeartbeats 8000000 in
theorem fit_any {v : Value} (hv : Rr u64K w v L) (h1 : 1 ≤ n) (h2 : n ≤ 100) :
    Calls Try.prog 59 #[v, .int .i64 (n : Int)] w fun e w' => ∃ v' X, e = .returned v' ∧ X.length = n ∧ (∀ x ∈ X, u64K.wf x) ∧ Own u64K w' w.heap.size 53 v' X ∧ Below w.heap.size w w' := by
  have HV := Lib.hid hv
  have HN := Lib.hid (And.intro h1 h2)
  obtain ⟨o1, m1, n1⟩ := mk_eq (S := u64K) (by decide) 92 53 (.int .u64 0) 0 8 Try.underlying92 infoU8 rfl n (by omega) (by omega)
  have N1 := Lib.hid n1
  obtain ⟨ao, ac, rfl, ha1, ha2⟩ := hv.form
  have hlm : L.length ≤ 9223372036854775807 := by omega
  have hg0 := heap_alloc_new w o1
  have HO0 : Hid (Own u64K (w.alloc o1) w.heap.size 53 (.slice (some ⟨w.heap.size, 0, none⟩) n n) (List.replicate n 0)) := Lib.hid (Ck.own_rebase (N1.out _ _ hg0) (Nat.le_refl _))
  have HB0 : Hid (Below w.heap.size w (w.alloc o1)) := Lib.hid ((Below.refl _ _).alloc (Nat.le_refl _) _)
  clear hv ha1 n1 hg0 N1
  go_enter Try.func59, Try.ntmps59
  go_wp2_with fail
  go_loopg [6] (n + 1) (fun k t wr => ∃ (i : Nat) (X : List Int), i + k = n + 1 ∧ i ≤ n ∧ t = .int .i64 (i : Int) ∧ Hid (X.length = n ∧ ∀ x ∈ X, u64K.wf x) ∧ Hid (Own u64K wr w.heap.size 53 (.slice (some ⟨w.heap.size, 0, none⟩) n n) X) ∧ Hid (Below w.heap.size w wr))
  case atStart => exact ⟨0, List.replicate n 0, by omega, by omega, rfl, Lib.hid ⟨by simp, fun x hx => by rw [(List.mem_replicate.1 hx).2]; exact ⟨by decide, by decide⟩⟩, HO0, HB0⟩
  case round =>
    obtain ⟨i, X, hik, hil, rfl, HX, HO, HB⟩ := hrel
    have HIK := Lib.hid hik
    clear hik
    have hi0 : (0 : Int) ≤ (i : Int) := Int.natCast_nonneg _
    by_cases hlt : i < n ∧ i < L.length
    · obtain ⟨hlt1, hlt2⟩ := hlt
      obtain ⟨x, hx⟩ : ∃ x, L[i]? = some x := ⟨_, List.getElem?_eq_getElem hlt2⟩
      obtain ⟨b1, off1, rfl, hbl1, qx1⟩ := HV.out.at hx
      have c1 := atu1 (qx1.below HB.out hbl1)
      simp only [show u64K.k = 1 from rfl, Nat.mul_one] at c1
      obtain ⟨d1, d2⟩ := u64_at HO.out (i := i) (by rw [HX.out.1]; exact hlt1)
      have hlt' : (i : Int) < (L.length : Int) := by omega
      have hltn : (i : Int) < (n : Int) := by omega
      have hw : IntKind.i64.wrap ((i : Int) + 1) = (i : Int) + 1 := by have := HN.out; rw [IntKind.wrap_i64]; omega
      have HLT := Lib.hid hlt1
      have HN2 := Lib.hid (own_u64 HO.out (i := i) (by rw [HX.out.1]; exact hlt1) x)
      have HX2 : Hid ((X.set i x).length = n ∧ ∀ y ∈ X.set i x, u64K.wf y) := Lib.hid ⟨by rw [List.length_set]; exact HX.out.1, fun y hy => by
        rcases List.mem_or_eq_of_mem_set hy with h | rfl
        · exact HX.out.2 y h
        · exact HV.out.wf _ (List.mem_of_getElem? hx)⟩
      have HB2 := Lib.hid (show Below w.heap.size w (wr.setCell ⟨w.heap.size, i, none⟩ (.int .u64 x)) from HB.out.setCell (Nat.le_refl _) _)
      clear hx qx1 hbl1 hlt1 hlt2
      go_wp2_with fail
      go_roundg (gk - 1)
      case measure => have := HIK.out; have := HLT.out; omega
      case rel => exact ⟨i + 1, _, by have := HIK.out; have := HLT.out; omega, by have := HLT.out; omega, by simp, HX2, HN2, HB2⟩
    · by_cases hn : i < n
      · have hn1 : (i : Int) < (n : Int) := by omega
        have hn2 : ¬ (i : Int) < (L.length : Int) := by omega
        clear hlt
        go_wp2_with fail
        go_ret
        exact ⟨_, rfl, X, HX.out.1, HX.out.2, HO.out, HB.out⟩
      · have hn1 : ¬ (i : Int) < (n : Int) := by omega
        clear hlt
        go_wp2_with fail
        go_ret
        exact ⟨_, rfl, X, HX.out.1, HX.out.2, HO.out, HB.out⟩
/-! ### Some -/
theorem port_of (x : Int) (h1 : 1 ≤ n) (h2 : n ≤ 100) : ∃ q : Nat, q < n ∧ IntKind.u64.wrap (n : Int) = (n : Int) ∧ wrap64 ((IntKind.u64.wrap x).tmod (n : Int)) = (q : Int) ∧ IntKind.i64.wrap ((IntKind.u64.wrap x).tmod (n : Int)) = (q : Int) := by
  have hu : IntKind.u64.wrap (n : Int) = (n : Int) := by rw [u64_of]; omega
  have h3 := whoF_in (p := x) (m := (n : Int)) (by omega)
  have h4 := whoF_of (p := x) (m := (n : Int)) (by omega) (by omega)
  refine ⟨(whoF x n).toNat, by omega, hu, by rw [h4]; omega, ?_⟩
  have h5 : IntKind.i64.wrap ((IntKind.u64.wrap x).tmod (n : Int)) = wrap64 ((IntKind.u64.wrap x).tmod (n : Int)) := by rw [IntKind.wrap_i64]; unfold wrap64; omega
  rw [h5, h4]
  omega
set_option maxRecDepth 1000000 in
set_option maxHeartbeats 8000000 in
theorem some_any {v : Value} (hv : Rr intK w v L) (h1 : 1 ≤ n) (h2 : n ≤ 100) :
    Calls Try.prog 50 #[v, .int .i64 (n : Int)] w fun e w' => ∃ v' Q, e = .returned v' ∧ 1 ≤ Q.length ∧ Q.length ≤ 13 ∧ (∀ q ∈ Q, q < n) ∧ Own intK w' w.heap.size 3 v' (castQ Q) ∧ Below w.heap.size w w' := by
  obtain ⟨i0, hi, hz0, hz1, hz2⟩ := info_partsP Ck.infoI8
  have HV := Lib.hid hv
  have HN := Lib.hid (And.intro h1 h2)
  obtain ⟨ao, ac, rfl, ha1, ha2⟩ := hv.form
  have hlm : L.length ≤ 9223372036854775807 := by omega
  have hn0 := heap_alloc_new w (.cells #[.int .i64 0] 3)
  have HO0 : Hid (Own intK (w.alloc (.cells #[.int .i64 0] 3)) w.heap.size 3 (.slice (some ⟨w.heap.size, 0, none⟩) 1 1) (castQ [0])) := Lib.hid ⟨rfl, .inr ⟨w.heap.size, 1, _, rfl, Nat.le_refl _, hn0, Nat.le_refl _, by decide, rfl, rfl⟩⟩
  have HB0 : Hid (Below w.heap.size w (w.alloc (.cells #[.int .i64 0] 3))) := Lib.hid ((Below.refl _ _).alloc (Nat.le_refl _) _)
  clear hv ha1 hn0
  go_enter Try.func50, Try.ntmps50
  go_wp2_with fail
  go_loopg [5, 6] 13 (fun k s t wr => ∃ (i : Nat) (sv : Value) (Q : List Nat), sv = s ∧ i + k = 13 ∧ i ≤ 12 ∧ t = .int .i64 (i : Int) ∧ Hid (Q.length = i + 1 ∧ ∀ q ∈ Q, q < n) ∧ Hid (Own intK wr w.heap.size 3 sv (castQ Q)) ∧ Hid (Below w.heap.size w wr))
  case atStart => exact ⟨0, _, [0], rfl, by omega, by omega, rfl, Lib.hid ⟨rfl, fun q hq => by have := List.mem_singleton.1 hq; have := HN.out; omega⟩, HO0, HB0⟩
  case round =>
    obtain ⟨i, sv, Q, rfl, hik, hil, rfl, HX, HO, HB⟩ := hrel
    have HIK := Lib.hid hik
    clear hik
    have hi0 : (0 : Int) ≤ (i : Int) := Int.natCast_nonneg _
    obtain ⟨so, sc, rfl⟩ := HO.out.form2
    have hcl : (castQ Q).length = i + 1 := by unfold castQ; rw [List.length_map]; exact HX.out.1
    by_cases hlt : i < L.length ∧ i < 12
    · obtain ⟨hlt1, hlt2⟩ := hlt
      obtain ⟨x, hx⟩ : ∃ x, L[i]? = some x := ⟨_, List.getElem?_eq_getElem hlt1⟩
      obtain ⟨b1, off1, rfl, hbl1, qx1⟩ := HV.out.at hx
      have c1 := at1 (qx1.below HB.out hbl1)
      simp only [intK_k, Nat.mul_one] at c1
      obtain ⟨q, hq, p1, p2, p3⟩ := port_of (n := n) x HN.out.1 HN.out.2
      have hlt' : (i : Int) < (L.length : Int) := by omega
      have hlt2' : (i : Int) < 12 := by omega
      have hw : IntKind.i64.wrap ((i : Int) + 1) = (i : Int) + 1 := by rw [IntKind.wrap_i64]; omega
      have hnz : (n : Int) ≠ 0 := by have := HN.out; omega
      have hnz2 : ((n : Int) == 0) = false := by rw [beq_eq_false_iff_ne]; exact hnz
      have HQ := Lib.hid hq
      have HLT := Lib.hid hlt2
      have hown : wr.ownsRow w.heap.size 3 1 (.slice so (castQ Q).length sc) (castQ Q).length (intK.flat (castQ Q)) := HO.out
      have hsz := HB.out.size
      have HCL := Lib.hid hcl
      generalize hC : castQ Q = C at *
      have HC := Lib.hid hC
      clear hx qx1 hbl1 hlt1 hlt2 hq hcl hC
      go_wp2_with (at_builtin; refine Batch.wpList_append_any _ rfl _ _ 50 50 rfl w.heap.size 3 3 i0 (.int .i64 0) 1 8 Try.underlying50 Try.underlying50 hi hz0 hz1 hz2 rfl (by decide) (.slice so C.length sc) C.length (intK.flat C) rfl (hown.alloc _) (some ⟨wr.heap.size, 0, none⟩) 1 1 [.int .i64 (q : Int)] rfl rfl ?c1 ?c2 ?c3 ?c4 ?c5 ?_)
      case c1 => exact .inr ⟨_, rfl, World.news_of_block (cs := #[.int .i64 (q : Int)]) (heap_alloc_new wr _)⟩
      case c2 => intro y hy; simp at hy; subst hy; rfl
      case c3 => have := HCL.out; unfold maxLen; omega
      case c4 => have := HCL.out; omega
      case c5 => simp; omega
      intro v' w6 hown6 hgrow hblk
      have hb6 : Below w.heap.size w w6 := (HB.out.alloc hsz _).grown hgrow (by simp; omega) (fun k e => (hown.lt k e).1)
      have HN6 : Hid (Own intK w6 w.heap.size 3 v' (castQ (Q ++ [q]))) := Lib.hid (by
        have e : castQ (Q ++ [q]) = C ++ [(q : Int)] := by rw [← HC.out]; unfold castQ; simp
        rw [e]
        unfold Own
        rw [flat_snoc, List.length_append]
        exact hown6)
      have HX6 : Hid ((Q ++ [q]).length = i + 1 + 1 ∧ ∀ y ∈ Q ++ [q], y < n) := Lib.hid ⟨by simp; exact HX.out.1, fun y hy => by
        rcases List.mem_append.1 hy with hy | hy
        · exact HX.out.2 y hy
        · rw [List.mem_singleton.1 hy]; exact HQ.out⟩
      have HB6 := Lib.hid hb6
      clear hown hown6 hgrow hblk hb6 hsz
      go_wp2_with fail
      go_roundg (gk - 1)
      case measure => have := HIK.out; have := HLT.out; omega
      case rel => exact ⟨i + 1, _, _, rfl, by have := HIK.out; have := HLT.out; omega, by have := HLT.out; omega, by simp, HX6, HN6, HB6⟩
    · have HE := Lib.hid (And.intro HX.out.1 HX.out.2)
      clear hcl
      by_cases hn : i < L.length
      · have hn1 : (i : Int) < (L.length : Int) := by omega
        have hn2 : ¬ (i : Int) < 12 := by omega
        clear hlt
        go_wp2_with fail
        go_ret
        exact ⟨_, rfl, Q, by have := HE.out.1; omega, by have := HE.out.1; omega, HE.out.2, HO.out, HB.out⟩
      · have hn1 : ¬ (i : Int) < (L.length : Int) := by omega
        clear hlt
        go_wp2_with fail
        go_ret
        exact ⟨_, rfl, Q, by have := HE.out.1; omega, by have := HE.out.1; omega, HE.out.2, HO.out, HB.out⟩
/-! ### Read -/
/-- The document's Shot. -/
def RSh (w : World) (r : Nat) (v : Value) : Prop := ∃ T, w.heap[r]? = some (.cells #[v] T (0, 0))
theorem RSh.cell {r : Nat} {v : Value} (h : RSh w r v) : w.cell? ⟨r, 0, none⟩ = some v ∧ (∀ o, w.frozen? ⟨r, o, none⟩ = false) ∧ r < w.heap.size := by
  obtain ⟨T, h⟩ := h
  refine ⟨by simp [World.cell?, h], fun o => by simp [World.frozen?, h], (Array.getElem?_eq_some_iff.1 h).1⟩
theorem gotT_wf {np : Nat} (hT : ∀ x ∈ T, u64K.wf x) (hl : T.length = np) {Q : List Nat} (hq : ∀ q ∈ Q, q < np) : ∀ x ∈ gotT T Q, u64K.wf x := by
  intro x hx
  obtain ⟨q, h1, rfl⟩ := List.mem_map.1 hx
  have h2 := hq q h1
  rw [List.getD_eq_getElem?_getD, List.getElem?_eq_getElem (by omega)]
  exact hT _ (List.getElem_mem _)
set_option maxRecDepth 1000000 in
set_option maxHeartbeats 8000000 in
theorem refread13_any {r np : Nat} {tv v : Value} {Q : List Nat} (h : RSh w r tv) (ht : Rr u64K w tv T) (hl : T.length = np) (hnp : np ≤ 100) (hv : Rr intK w v (castQ Q)) (hq : ∀ q ∈ Q, q < np) (hQ : Q.length ≤ 100) :
    Calls Try.prog 57 #[.pointer (some ⟨r, 0, none⟩), v] w fun e w' => ∃ v', e = .returned v' ∧ Own u64K w' w.heap.size 53 v' (gotT T Q) ∧ Below w.heap.size w w' := by
  obtain ⟨i0, hi, hz0, hz1, hz2⟩ := info_partsP infoU8
  have HV := Lib.hid hv
  have HT := Lib.hid ht
  have HH := Lib.hid h
  have HL := Lib.hid hl
  have HQ := Lib.hid hq
  have HQL := Lib.hid hQ
  have hcl : (castQ Q).length = Q.length := List.length_map ..
  obtain ⟨ao, ac, rfl, ha1, ha2⟩ := hv.form
  obtain ⟨tvo, tc, rfl, _⟩ := ht.form
  have hlm : Q.length ≤ 9223372036854775807 := by omega
  rw [hcl] at HV ⊢
  clear hv ht h hl hq hQ ha1
  go_enter Try.func57, Try.ntmps57
  go_wp2_with fail
  go_loopg [5, 6] (Q.length + 1) (fun k s t wr => ∃ (i : Nat) (sv : Value), sv = s ∧ i + k = Q.length + 1 ∧ i ≤ Q.length ∧ t = .int .i64 (i : Int) ∧ Hid (Own u64K wr w.heap.size 53 sv (gotT T (Q.take i))) ∧ Hid (Below w.heap.size w wr))
  case atStart => exact ⟨0, _, rfl, by omega, by omega, rfl, Lib.hid (Own.nil _ _ _), Lib.hid (Below.refl _ _)⟩
  case round =>
    obtain ⟨i, sv, rfl, hik, hil, rfl, HO, HB⟩ := hrel
    have HIK := Lib.hid hik
    clear hik
    have hi0 : (0 : Int) ≤ (i : Int) := Int.natCast_nonneg _
    by_cases hlt : i < Q.length
    · obtain ⟨q, hx⟩ : ∃ x, Q[i]? = some x := ⟨_, List.getElem?_eq_getElem hlt⟩
      have hx2 : (castQ Q)[i]? = some (q : Int) := by unfold castQ; rw [List.getElem?_map, hx]; rfl
      have hqn := HQ.out q (List.mem_of_getElem? hx)
      obtain ⟨b1, off1, rfl, hbl1, qx1⟩ := HV.out.at hx2
      have c1 := at1 (qx1.below HB.out hbl1)
      simp only [intK_k, Nat.mul_one] at c1
      obtain ⟨y, hy⟩ : ∃ y, T[q]? = some y := ⟨_, List.getElem?_eq_getElem (by rw [HL.out]; exact hqn)⟩
      obtain ⟨b2, off2, hao2, hbl2, qx2⟩ := HT.out.at hy
      have c2 := atu1 (qx2.below HB.out hbl2)
      simp only [show u64K.k = 1 from rfl, Nat.mul_one] at c2
      obtain ⟨k0, k1, k2⟩ := HH.out.cell
      have k0' := (HB.out.cell (p := ⟨r, 0, none⟩) k2).trans k0
      rw [hao2] at k0'
      have hlt' : (i : Int) < (Q.length : Int) := by omega
      have hql : (q : Int) < (T.length : Int) := by rw [HL.out]; omega
      have hq0 : (0 : Int) ≤ (q : Int) := Int.natCast_nonneg _
      have hw : IntKind.i64.wrap ((i : Int) + 1) = (i : Int) + 1 := by have := HQL.out; rw [IntKind.wrap_i64]; omega
      have HLT := Lib.hid hlt
      have HS := Lib.hid (show gotT T (Q.take (i + 1)) = gotT T (Q.take i) ++ [y] by rw [take_snoc hx]; unfold gotT; rw [List.map_append]; simp [List.getD_eq_getElem?_getD, hy])
      have HL1 := Lib.hid (show b1 < w.heap.size from hbl1)
      have HL2 := Lib.hid (show b2 < w.heap.size from hbl2)
      have hgl : (gotT T (Q.take i)).length ≤ 100 := by unfold gotT; simp; have := HQL.out; omega
      have HGL := Lib.hid hgl
      generalize hG : gotT T (Q.take i) = G at *
      have hown : wr.ownsRow w.heap.size 53 1 sv G.length (u64K.flat G) := HO.out
      have hsz := HB.out.size
      have hb1l : b1 < wr.heap.size := Lib.lt_of_cell c1
      have hb2l : b2 < wr.heap.size := Lib.lt_of_cell c2
      have hrl : r < wr.heap.size := Lib.lt_of_cell k0'
      clear hx hx2 qx1 qx2 hbl1 hbl2 hy hqn k0 k1 k2 hlt hgl hao2 hG
      have agr : sv.ownBlock ≠ some r := fun e => by have := (hown.lt r e).1; have := HH.out.cell.2.2; omega
      have ag1 : sv.ownBlock ≠ some b1 := fun e => by have := (hown.lt b1 e).1; have := HL1.out; omega
      have ag2 : sv.ownBlock ≠ some b2 := fun e => by have := (hown.lt b2 e).1; have := HL2.out; omega
      have hbw := HB.out
      go_wp2_with fail
      go_region_held3 (fun w' => w'.cell? ⟨r, 0, none⟩ = some (.slice (some ⟨b2, off2, none⟩) T.length tc) ∧ w'.cell? ⟨b1, off1 + i, none⟩ = some (.int .i64 (q : Int)) ∧ w'.cell? ⟨b2, off2 + q, none⟩ = some (.int .u64 y))
        (first
          | go_keep
          | (go_split_ands
             refine ⟨?_, ?_, ?_⟩
             · (rw [hgrow.cell_far _ (by simp; omega) (Ne.symm agr)]; assumption)
             · (rw [hgrow.cell_far _ (by simp; omega) (Ne.symm ag1)]; assumption)
             · (rw [hgrow.cell_far _ (by simp; omega) (Ne.symm ag2)]; assumption)))
        ((refine step_append_lies _ (by rfl) _ _ _ (by rfl) w.heap.size 53 i0 _ 1 8 Try.underlying92 hi hz0 hz1 hz2 rfl (by omega) sv G.length (u64K.flat G) (by rfl) ((hown.alloc _).drew)
            ⟨wr.heap.size, 0, none⟩ 1 1 [.int .u64 y] (by rfl) (by rfl) (World.news_of_block (cs := #[.int .u64 y]) (t := 53) (fr := (0, 0)) (heap_alloc_new wr _)) (by simp [Value.oneCell'])
            (by omega) (by have := HGL.out; unfold maxLen; omega) (by have := HGL.out; omega) (by simp; omega) (wr.heap.size + 1) (by simp) ?_; intro gg cap1 w6 hown6 hgrow hat hlt))
      have hb6 : Below w.heap.size w w6 := ((hbw.alloc hsz _).drew).grown hgrow (by simp; omega) (fun k e => (hown.lt k e).1)
      have HN6 : Hid (Own u64K w6 w.heap.size 53 (.slice (some ⟨gg, 0, none⟩) (G.length + 1) cap1) (gotT T (Q.take (i + 1)))) := Lib.hid (by
        rw [HS.out]
        unfold Own
        rw [flat_snoc, List.length_append]
        exact hown6)
      have HB6 := Lib.hid hb6
      clear hown hown6 hgrow hat hlt hb6 hsz hbw agr ag1 ag2 c1 c2 k0' hb1l hb2l hrl
      go_wp2_with fail
      go_roundg (gk - 1)
      case measure => have := HIK.out; have := HLT.out; omega
      case rel => exact ⟨i + 1, _, rfl, by have := HIK.out; have := HLT.out; omega, by have := HLT.out; omega, by simp, HN6, HB6⟩
    · have hlt' : ¬ (i : Int) < (Q.length : Int) := by omega
      have hie : i = Q.length := by omega
      have HOE : Hid (Own u64K wr w.heap.size 53 sv (gotT T Q)) := Lib.hid (by have := HO.out; rwa [hie, List.take_length] at this)
      clear hlt hie
      go_wp2_with fail
      go_ret
      exact ⟨_, rfl, HOE.out, HB.out⟩
end
end Go.Proofs.Ytjmkcgkkgamafaa.Sh
