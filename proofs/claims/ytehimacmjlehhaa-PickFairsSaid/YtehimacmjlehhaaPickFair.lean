/-
  PACKAGE pick: Fair.
-/
import Derived.Test.YtehimacmjlehhaaPickRefFair
import Derived.Test.YtehimacmjlehhaaPickRepeat
namespace Go.Proofs.Ytehimacmjlehhaa.Pk
open Go.RowKit Rw
set_option linter.unusedVariables false

set_option maxRecDepth 1000000 in
set_option maxHeartbeats 4000000 in
theorem fair1_any {w : World} {bl bw n cap : Nat} {ao : Option Addr} {wd : Int} (x : Int) (hl : w.heap[bl]? = some (.cells #[.slice ao n cap] 46 (0, 0))) (hw : w.heap[bw]? = some (.cells #[.int .i64 wd] 3 (0, 0)))
    (hx : -1 ≤ x ∧ x ≤ 60) (hn : n ≤ 60) :
    Calls Try.prog 66 #[.int .i64 x, .pointer (some ⟨bl, 0, none⟩), .pointer (some ⟨bw, 0, none⟩)] w fun e w' => e = .returned (.bool (decide (wd < (n : Int) - x))) ∧ w = w' := by
  have c0 := cell_of_one hl
  have c1 := cell_of_one hw
  obtain ⟨hx1, hx2⟩ := hx
  have hn1 : (n : Int) ≤ 60 := by omega
  clear hl hw
  go_enter Try.func66, Try.ntmps66
  go_wp2_with fail
  go_ret
  exact ⟨rfl, rfl⟩
def FarZ (l : List Int) (n : Nat) (wd z : Int) : Prop := (z = -1 ∧ ∀ x ∈ l, ¬ wd < (n : Int) - x) ∨ (0 ≤ z ∧ ∃ x ∈ l, wd < (n : Int) - x)
theorem take_succP {α : Type} {l : List α} {i : Nat} {x : α} (h : l[i]? = some x) : l.take (i + 1) = l.take i ++ [x] := by rw [List.take_add_one, h]; rfl

set_option maxRecDepth 1000000 in
set_option maxHeartbeats 8000000 in
theorem idxF_any {w : World} {v : Value} {l : List Int} {bl bw n cap : Nat} {ao : Option Addr} {wd : Int} (hv : Rr intK w v l) (hr : ∀ x ∈ l, -1 ≤ x ∧ x ≤ 60) (hn : n ≤ 60)
    (hl : w.heap[bl]? = some (.cells #[.slice ao n cap] 46 (0, 0))) (hw : w.heap[bw]? = some (.cells #[.int .i64 wd] 3 (0, 0))) :
    Calls Try.prog 76 #[v, .func (.func 66) #[] #[.pointer (some ⟨bl, 0, none⟩), .pointer (some ⟨bw, 0, none⟩)]] w
      fun e w' => ∃ z : Int, e = .returned (.int .i64 z) ∧ FarZ l n wd z ∧ w = w' := by
  have HV := Lib.hid hv
  have HR := Lib.hid hr
  obtain ⟨vo, vc, rfl, hc1, hc2⟩ := hv.form
  have hlen : l.length ≤ 9223372036854775807 := by omega
  have HC : ∀ x : Int, -1 ≤ x ∧ x ≤ 60 → Hid (Calls Try.prog 66 #[.int .i64 x, .pointer (some ⟨bl, 0, none⟩), .pointer (some ⟨bw, 0, none⟩)] w fun e w' => e = .returned (.bool (decide (wd < (n : Int) - x))) ∧ w = w') :=
    fun x hx => Lib.hid (fair1_any x hl hw hx hn)
  clear hv hl hw hr
  go_enter Try.func76, Try.ntmps76
  go_wp2
  go_loopg [8] l.length (fun k s8 wr => ∃ i : Nat, i + k = l.length ∧ s8 = .int .i64 i ∧ (∀ x ∈ l.take i, ¬ wd < (n : Int) - x) ∧ w = wr)
  case atStart => exact ⟨0, by omega, rfl, by simp, rfl⟩
  case round =>
    obtain ⟨i, hik, rfl, hok, rfl⟩ := hrel
    have HIK := Lib.hid hik
    have HOK := Lib.hid hok
    clear hok hik
    by_cases hlt : i < l.length
    · obtain ⟨x, hx⟩ : ∃ x, l[i]? = some x := ⟨_, List.getElem?_eq_getElem hlt⟩
      have HX := Lib.hid hx
      have HX1 := HC x (HR.out x (List.mem_of_getElem? hx))
      obtain ⟨g, off, rfl, _, q⟩ := HV.out.at hx
      have c0 := at1 q
      simp only [intK_k, Nat.mul_one] at c0
      have hi0 : (0 : Int) ≤ (i : Int) := Int.natCast_nonneg _
      have hi1 : (i : Int) < (l.length : Int) := by omega
      have HLT := Lib.hid hlt
      clear hx q hlt HC
      by_cases hf : wd < (n : Int) - x
      · have hf2 : decide (wd < (n : Int) - x) = true := decide_eq_true hf
        rw [hf2] at HX1
        have HF := Lib.hid (show FarZ l n wd i from .inr ⟨hi0, x, List.mem_of_getElem? HX.out, hf⟩)
        clear hf hf2
        go_wp2_with fail
        go_at_call 66
        refine HX1.out.mono ?_
        rintro e w1 ⟨rfl, rfl⟩
        go_wp2_with fail
        go_ret
        exact ⟨_, rfl, HF.out, rfl⟩
      · have hf2 : decide (wd < (n : Int) - x) = false := decide_eq_false hf
        rw [hf2] at HX1
        have HF := Lib.hid hf
        clear hf hf2
        go_wp2_with fail
        go_at_call 66
        refine HX1.out.mono ?_
        rintro e w1 ⟨rfl, rfl⟩
        go_wp2_with fail
        go_roundg (gk - 1)
        case measure => have := HIK.out; have := HLT.out; omega
        case rel => exact ⟨i + 1, by have := HIK.out; have := HLT.out; omega, by go_num, fun y hy => by
          rw [take_succP HX.out] at hy
          rcases List.mem_append.1 hy with hy | hy
          · exact HOK.out y hy
          · obtain rfl := List.mem_singleton.1 hy
            exact HF.out, rfl⟩
    · have hj2 : decide ((i : Int) < (l.length : Int)) = false := decide_eq_false (by omega)
      have HF := Lib.hid (show FarZ l n wd (-1) from .inl ⟨rfl, fun x hx => HOK.out x (by rw [List.take_of_length_le (by omega)]; exact hx)⟩)
      clear HC
      go_wp2_with fail
      go_ret
      exact ⟨_, rfl, HF.out, rfl⟩

set_option maxRecDepth 1000000 in
set_option maxHeartbeats 4000000 in
theorem containsF_any {w : World} {v : Value} {l : List Int} {bl bw n cap : Nat} {ao : Option Addr} {wd : Int} (hv : Rr intK w v l) (hr : ∀ x ∈ l, -1 ≤ x ∧ x ≤ 60) (hn : n ≤ 60)
    (hl : w.heap[bl]? = some (.cells #[.slice ao n cap] 46 (0, 0))) (hw : w.heap[bw]? = some (.cells #[.int .i64 wd] 3 (0, 0))) :
    Calls Try.prog 65 #[v, .func (.func 66) #[] #[.pointer (some ⟨bl, 0, none⟩), .pointer (some ⟨bw, 0, none⟩)]] w
      fun e w' => ∃ b : Bool, e = .returned (.bool b) ∧ (b = true ↔ ∃ x ∈ l, wd < (n : Int) - x) ∧ w = w' := by
  have HI := Lib.hid (idxF_any hv hr hn hl hw)
  clear hv hr hl hw
  go_enter Try.func65, Try.ntmps65
  go_wp2_with fail
  go_at_call 76
  refine HI.out.mono ?_
  rintro e w1 ⟨z, rfl, hz, rfl⟩
  rcases hz with ⟨rfl, hl⟩ | ⟨hz, hl⟩
  · have HL := Lib.hid (iff_no (p := ∃ x ∈ l, wd < (n : Int) - x) (fun ⟨x, h1, h2⟩ => hl x h1 h2))
    clear hl
    go_wp2_with fail
    go_ret
    exact ⟨false, rfl, HL.out, rfl⟩
  · have HL := Lib.hid hl
    have hz2 : decide ((0 : Int) ≤ z) = true := decide_eq_true hz
    clear hl
    go_wp2_with fail
    go_ret
    exact ⟨true, rfl, iff_yes HL.out, rfl⟩

set_option maxRecDepth 1000000 in
set_option maxHeartbeats 8000000 in
theorem fair_any {w : World} {v : Value} {L : List Int} (hv : Rr intK w v L) (hL : L.length ≤ 60) (m : Nat) (hm : m ≤ 8) (wd : Int) (hwd : -9223372036854775808 ≤ wd ∧ wd ≤ 9223372036854775807) :
    Calls Try.prog 47 #[v, .int .i64 (m : Int), .int .i64 wd] w (FairE L m wd w) := by
  have HV := Lib.hid hv
  obtain ⟨ao, cap, rfl, hc1, hc2⟩ := hv.form
  have hb2 : Below w.heap.size w ((w.alloc (.cells #[.slice ao L.length cap] 46)).alloc (.cells #[.int .i64 wd] 3)) := ((Below.refl _ _).alloc (Nat.le_refl _) _).alloc (by simp) _
  have HB2 := Lib.hid hb2
  clear hv hc1 hb2
  have hm0 : (0 : Int) ≤ (m : Int) := Int.natCast_nonneg _
  have hm8 : (m : Int) ≤ 8 := by omega
  have hL60 : (L.length : Int) ≤ 60 := by omega
  by_cases h1 : wd < 1
  · go_enter Try.func47, Try.ntmps47
    go_wp2
    go_ret
    exact ⟨false, rfl, iff_no (fun h => by have := h.1; omega), HB2.out⟩
  have h1' : decide (wd < 1) = false := decide_eq_false h1
  by_cases h0 : (m : Int) < 1
  · have HS : Hid (FairS L m wd) := Lib.hid ⟨by omega, .inr (fun a _ v hv => by omega)⟩
    go_enter Try.func47, Try.ntmps47
    go_wp2
    go_ret
    exact ⟨true, rfl, iff_yes HS.out, HB2.out⟩
  by_cases h2 : (L.length : Int) < wd
  · have HS : Hid (FairS L m wd) := Lib.hid ⟨by omega, .inl h2⟩
    go_enter Try.func47, Try.ntmps47
    go_wp2
    go_ret
    exact ⟨true, rfl, iff_yes HS.out, HB2.out⟩
  obtain ⟨n, rfl⟩ : ∃ n : Nat, wd = (n : Int) := ⟨wd.toNat, by omega⟩
  have HS : Hid (FairS L m (n : Int) ↔ FairW (whoAt L m) L.length m n) := Lib.hid ⟨fun h => by
    rcases h.2 with h | h
    · omega
    · simpa using h, fun h => ⟨by omega, .inr (by simpa using h)⟩⟩
  have h2' : decide ((L.length : Int) < (n : Int)) = false := decide_eq_false h2
  have h2'' : decide (L.length < n) = false := decide_eq_false (by omega)
  have hn1 : 1 ≤ n := by omega
  have hn2 : n ≤ L.length := by omega
  by_cases h3 : n < m
  · have HF : Hid (¬ FairW (whoAt L m) L.length m n) := Lib.hid (fun h => by have := fair_many hn2 h; omega)
    go_enter Try.func47, Try.ntmps47
    go_wp2
    go_ret
    exact ⟨false, rfl, iff_no (fun h => HF.out (HS.out.1 h)), HB2.out⟩
  have hm1 : 1 ≤ m := by omega
  have HG := Lib.hid (gap_fair hn1 hn2 (whoAt_in L hm1))
  have h3' : decide ((n : Int) < (m : Int)) = false := decide_eq_false (by omega)
  have h3'' : decide (n < m) = false := decide_eq_false (by omega)
  obtain ⟨wA, hwA⟩ : ∃ wA, wA = ((w.alloc (.cells #[.slice ao L.length cap] 46)).alloc (.cells #[.int .i64 (n : Int)] 3)) := ⟨_, rfl⟩
  have hsz : wA.heap.size = w.heap.size + 2 := by rw [hwA]; simp
  have k0 : wA.heap[w.heap.size]? = some (.cells #[.slice ao L.length cap] 46 (0, 0)) := by rw [hwA, heap_alloc_old _ _ (by simp)]; exact heap_alloc_new w _
  have k1 : wA.heap[w.heap.size + 1]? = some (.cells #[.int .i64 (n : Int)] 3 (0, 0)) := by
    rw [hwA]; have := heap_alloc_new (w.alloc (.cells #[.slice ao L.length cap] 46)) (.cells #[.int .i64 (n : Int)] 3); simpa using this
  have HK0 := Lib.hid k0
  have HK1 := Lib.hid k1
  have HSZ := Lib.hid hsz
  have HBA : Hid (Below w.heap.size w wA) := Lib.hid (by rw [hwA]; exact HB2.out)
  clear HB2 k0 k1 hsz h1 h0 h2 h3 hwd
  have hrep := prepeat_any (w := wA.alloc (.cells #[.int .i64 (-1)] 3)) wA.heap.size (-1) m hm1 (by omega) (by rw [cell_of_one (heap_alloc_new wA _)])
  have hsz2 : wA.heap.size = w.heap.size + 1 + 1 := HSZ.out
  rw [hsz2, hwA] at hrep
  have HREP := Lib.hid hrep
  clear hrep hsz2
  go_enter Try.func47, Try.ntmps47
  go_wp2_with fail
  go_at_call 64
  refine HREP.out.mono ?_
  rintro e w1 ⟨vl, rfl, ho, hb⟩
  have HO := Lib.hid ho
  have hsz1 : ((((w.alloc (.cells #[.slice ao L.length cap] 46)).alloc (.cells #[.int .i64 (n : Int)] 3)).alloc (.cells #[.int .i64 (-1)] 3))).heap.size = w.heap.size + 3 := by simp
  rw [hsz1] at ho hb
  have hsA : wA.heap.size = w.heap.size + 2 := HSZ.out
  have hbA : Below (w.heap.size + 2) wA w1 := by
    have h1 : Below (w.heap.size + 2) wA (wA.alloc (.cells #[.int .i64 (-1)] 3)) := (Below.refl _ _).alloc (by omega) _
    rw [hwA] at h1 ⊢
    exact h1.trans (hb.mono (by omega))
  obtain ⟨g, gc, rfl, hg0, hg1, hg2, hg3⟩ : ∃ g gc, vl = .slice (some ⟨g, 0, none⟩) m gc ∧ w.heap.size + 3 ≤ g ∧ g < w1.heap.size ∧ m ≤ gc ∧ gc ≤ 9223372036854775807 := by
    rcases ho.form with ⟨h0, _⟩ | ⟨g, gc, h1, h2, h3, h4, h5⟩
    · have := congrArg List.length h0; rw [List.length_replicate] at this; simp at this; omega
    · rw [List.length_replicate] at h1 h4; exact ⟨g, gc, h1, h2, h3, h4, h5⟩
  have HO1 : Hid (Own intK w1 (w.heap.size + 3) 3 (.slice (some ⟨g, 0, none⟩) m gc) (lastL L m 0)) := Lib.hid (by rw [lastL_none]; exact ho)
  have HB1 := Lib.hid hbA
  have hk3 := cell_of_one (HK0.out)
  have hlt3 : w.heap.size < w.heap.size + 2 := by omega
  have hlt5 : w.heap.size + 1 < w.heap.size + 2 := by omega
  have d0 : w1.cell? ⟨w.heap.size, 0, none⟩ = some (.slice ao L.length cap) := (hbA.cell (p := ⟨w.heap.size, 0, none⟩) hlt3).trans (cell_of_one HK0.out)
  clear ho hb HO hsz1 hsA hbA hk3 HREP hwA
  go_wp2_with fail
  clear d0
  have HGP : Hid ((∀ i : Nat, i < L.length → (i : Int) - lastI (whoAt L m) i (whoAt L m i) ≤ n) → (∀ v : Nat, v < m → (L.length : Int) - lastI (whoAt L m) L.length v ≤ n) → FairW (whoAt L m) L.length m n) := Lib.hid (fun h1 h2 => HG.out.1 ⟨h1, h2⟩)
  go_loopg [32] L.length (fun k t wr => ∃ i : Nat, i + k = L.length ∧ t = .int .i64 (i : Int) ∧ Hid (Own intK wr (w.heap.size + 3) 3 (.slice (some ⟨g, 0, none⟩) m gc) (lastL L m i)) ∧ Hid (Below (w.heap.size + 2) wA wr) ∧ Hid (∀ j : Nat, j < i → (j : Int) - lastI (whoAt L m) j (whoAt L m j) ≤ n))
  case atStart => exact ⟨0, by omega, rfl, HO1, HB1, Lib.hid (by intro j h; omega)⟩
  case round =>
    obtain ⟨i, hik, rfl, ho, hb, hok⟩ := hrel
    have HIK := Lib.hid hik
    have hbw : Below w.heap.size w wr := HBA.out.trans (hb.out.mono (by omega))
    have d1 : wr.cell? ⟨w.heap.size + 1, 0, none⟩ = some (.int .i64 (n : Int)) := (hb.out.cell (p := ⟨w.heap.size + 1, 0, none⟩) hlt5).trans (cell_of_one HK1.out)
    clear hik
    by_cases hlt : i < L.length
    · obtain ⟨x, hx⟩ : ∃ x, L[i]? = some x := ⟨_, List.getElem?_eq_getElem hlt⟩
      obtain ⟨q, hq, hqe⟩ := whoAt_in L hm1 i
      have hxq : whoF x (m : Int) = (q : Int) := by rw [← whoAt_of hx]; exact hqe
      obtain ⟨b, off, rfl, hbl, qx⟩ := HV.out.at hx
      have c0 := at1 (qx.below hbw hbl)
      have c1 := at1 (ho.out.at (lastL_at (L := L) (m := m) (i := i) hq))
      simp only [intK_k, Nat.mul_one] at c0 c1
      have hf := ho.out.free q
      obtain ⟨z, hz⟩ : ∃ z, z = lastI (whoAt L m) i q := ⟨_, rfl⟩
      have hz2 := lastI_lo (whoAt L m) i q
      rw [← hz] at hz2 c1
      obtain ⟨hz3, hz4⟩ := hz2
      have hi0 : (0 : Int) ≤ (i : Int) := Int.natCast_nonneg _
      have hi1 : (i : Int) < (L.length : Int) := by omega
      have hq0 : (0 : Int) ≤ (q : Int) := Int.natCast_nonneg _
      have hq1 : (q : Int) < (m : Int) := by omega
      have HW := Lib.hid (who_any x (m : Int) (by omega))
      have HXQ := Lib.hid hxq
      have HQE := Lib.hid hqe
      have HZ := Lib.hid hz
      have hs1 : IntKind.i64.wrap ((i : Int) - z) = (i : Int) - z := by rw [IntKind.wrap_i64]; omega
      have HS2 := Lib.hid (own_set1 ho.out (j := q) (by rw [lastL_length]; exact hq) (i : Int))
      have HB3 := Lib.hid (hb.out.setCell (p := ⟨g, q, none⟩) (by show w.heap.size + 2 ≤ g; omega) (.int .i64 (i : Int)))
      have HLT := Lib.hid hlt
      clear hx qx hbw hxq hqe hz hlt
      by_cases hfar : (n : Int) < (i : Int) - z
      · have hfar2 : decide ((n : Int) < (i : Int) - z) = true := decide_eq_true hfar
        have HBW : Hid (Below w.heap.size w wr) := Lib.hid (HBA.out.trans (hb.out.mono (by omega)))
        have HF : Hid (¬ FairW (whoAt L m) L.length m n) := Lib.hid (fun h => by
          have := (HG.out.2 h).1 i HLT.out
          rw [HQE.out, ← HZ.out] at this
          omega)
        go_wp2_with fail
        go_at_call 42
        refine (HW.out _).mono ?_
        rw [HXQ.out]
        rintro e w2 ⟨rfl, rfl⟩
        go_wp2_with fail
        go_quiet (fail)
        go_wp2_with fail
        go_ret
        exact ⟨false, rfl, iff_no (fun h => HF.out (HS.out.1 h)), below_drewN HBW.out _⟩
      · have hfar2 : decide ((n : Int) < (i : Int) - z) = false := decide_eq_false hfar
        go_wp2_with fail
        go_at_call 42
        refine (HW.out _).mono ?_
        rw [HXQ.out]
        rintro e w2 ⟨rfl, rfl⟩
        go_wp2_with fail
        go_quiet (fail)
        go_wp2_with fail
        go_roundg (gk - 1)
        case measure => have := HIK.out; have := HLT.out; omega
        case rel => exact ⟨i + 1, by have := HIK.out; have := HLT.out; omega, by go_num, Lib.hid (by rw [← lastL_set HQE.out hq]; exact (HS2.out).draw _), Lib.hid (below_drewN HB3.out _), Lib.hid (fun j hj => by
          by_cases he : j = i
          · rw [he, HQE.out, ← HZ.out]; omega
          · exact hok.out j (by omega))⟩
    · obtain rfl : i = L.length := by have := HIK.out; omega
      have hj2 : decide ((L.length : Int) < (L.length : Int)) = false := decide_eq_false (by omega)
      have HBW := Lib.hid hbw
      have HCF := Lib.hid (containsF_any (ho.out.sl (lastL_wf (by omega))).rr (fun x hx => by
        unfold lastL at hx
        obtain ⟨v, _, rfl⟩ := List.mem_map.1 hx
        have := lastI_lo (whoAt L m) L.length v
        omega) hL ((hb.out.block _ (by omega)).trans HK0.out) ((hb.out.block _ (by omega)).trans HK1.out))
      clear hbw d1
      go_wp2_with fail
      go_at_call 65
      refine HCF.out.mono ?_
      rintro e w2 ⟨b, rfl, hbb, rfl⟩
      have HFW : Hid (b = true ↔ ¬ FairW (whoAt L m) L.length m n) := Lib.hid ⟨fun h hf => by
          obtain ⟨x, hx, hx2⟩ := hbb.1 h
          unfold lastL at hx
          obtain ⟨v, hv, rfl⟩ := List.mem_map.1 hx
          have := (HG.out.2 hf).2 v (List.mem_range.1 hv)
          omega, fun hf => hbb.2 (by
          by_cases hex : ∃ x ∈ lastL L m L.length, (n : Int) < (L.length : Int) - x
          · exact hex
          · exact absurd (HGP.out hok.out (fun v hv => by
              by_cases hle : (L.length : Int) - lastI (whoAt L m) L.length v ≤ n
              · exact hle
              · exact absurd ⟨_, List.mem_of_getElem? (lastL_at (L := L) (i := L.length) hv), by omega⟩ hex)) hf)⟩
      clear hbb
      cases b
      · have HR := Lib.hid (show FairS L m (n : Int) from HS.out.2 (by
          by_cases hf : FairW (whoAt L m) L.length m n
          · exact hf
          · exact absurd (HFW.out.2 hf) (by simp)))
        clear HFW
        go_wp2_with fail
        go_ret
        exact ⟨true, rfl, iff_yes HR.out, HBW.out⟩
      · have HR := Lib.hid (show ¬ FairS L m (n : Int) from fun h => HFW.out.1 rfl (HS.out.1 h))
        clear HFW
        go_wp2_with fail
        go_ret
        exact ⟨false, rfl, iff_no HR.out, HBW.out⟩
end Go.Proofs.Ytehimacmjlehhaa.Pk
