/-
  PACKAGE pool: the library's DeleteFunc of one access; giveUp.
-/
import Derived.Test.YtmggnalobfihnaaJoined11
import Derived.Test.YtmggnalobfihnaaPlStep
namespace Go.Proofs.Ytmggnalobfihnaa.Pl
open Go.RowKit Rw Pk Go.Maps Mm
set_option linter.unusedVariables false
/-- How far the accesses behind the one that goes are moved. -/
def mvL (L : List Int) (i0 j : Nat) : List Int := (L.eraseIdx i0).take (j - 1) ++ L.drop (j - 1)
theorem mv_start {L : List Int} {i0 : Nat} (h : i0 < L.length) : mvL L i0 (i0 + 1) = L := by
  unfold mvL
  rw [Nat.add_sub_cancel, List.eraseIdx_eq_take_drop_succ, List.take_append_of_le_length (by rw [List.length_take]; omega), List.take_take, Nat.min_self, List.take_append_drop]
theorem mv_len {L : List Int} {i0 j : Nat} (h : i0 < L.length) (hj : i0 < j) (hj2 : j ≤ L.length) : (mvL L i0 j).length = L.length := by
  unfold mvL
  rw [List.length_append, List.length_take, List.length_drop, List.length_eraseIdx, if_pos h]
  omega
theorem mv_at {L : List Int} {i0 j : Nat} {x : Int} (h : i0 < L.length) (hj : i0 < j) (hx : L[j]? = some x) : (mvL L i0 j)[j]? = some x := by
  have hl := (List.getElem?_eq_some_iff.1 hx).1
  have e : ((L.eraseIdx i0).take (j - 1)).length = j - 1 := by rw [List.length_take, List.length_eraseIdx, if_pos h]; omega
  unfold mvL
  rw [List.getElem?_append_right (by rw [e]; omega), e, List.getElem?_drop, show j - 1 + (j - (j - 1)) = j by omega]
  exact hx
theorem mv_step {L : List Int} {i0 j : Nat} {x : Int} (h : i0 < L.length) (hj : i0 < j) (hx : L[j]? = some x) : (mvL L i0 j).set (j - 1) x = mvL L i0 (j + 1) := by
  have hl := (List.getElem?_eq_some_iff.1 hx).1
  have e : ((L.eraseIdx i0).take (j - 1)).length = j - 1 := by rw [List.length_take, List.length_eraseIdx, if_pos h]; omega
  have hE : (L.eraseIdx i0)[j - 1]? = some x := by
    rw [List.getElem?_eraseIdx, if_neg (by omega), show j - 1 + 1 = j by omega]; exact hx
  unfold mvL
  rw [List.set_append_right _ _ (by rw [e]; omega), e, Nat.sub_self, Nat.add_sub_cancel]
  have e2 : L.drop (j - 1) = L[j - 1] :: L.drop j := by rw [List.drop_eq_getElem_cons (by omega)]; congr 2; omega
  have e3 : (L.eraseIdx i0).take j = (L.eraseIdx i0).take (j - 1) ++ [x] := by
    have := List.take_add_one (l := L.eraseIdx i0) (i := j - 1)
    rw [show j - 1 + 1 = j by omega, hE] at this
    exact this
  rw [e2, List.set_cons_zero, e3, List.append_assoc]
  rfl
theorem mv_end {L : List Int} {i0 : Nat} (h : i0 < L.length) : (mvL L i0 L.length).take (L.length - 1) = L.eraseIdx i0 := by
  have e : (L.eraseIdx i0).length = L.length - 1 := by rw [List.length_eraseIdx, if_pos h]
  unfold mvL
  rw [List.take_of_length_le (l := L.eraseIdx i0) (by rw [e]; exact Nat.le_refl _), ← e, List.take_append_of_le_length (Nat.le_refl _), List.take_length]
theorem zeroA (n : Nat) (hn : n = 1) : (Builtin.zeroCells (Value.agg #[.int .i64 0, .int .i64 0]).cells n).toList = [.int .i64 0, .int .i64 0] := by subst hn; kernel_rfl
theorem zeroAcc : ∀ w, (zeroValue 76).run Try.prog w = .ok (.agg #[.int .i64 0, .int .i64 0]) w := Try.zeroValue76
theorem own_cutA {w : World} {base g cap k : Nat} {T : TypeId} {L : List Int} (h : Own accK w base T (.slice (some ⟨g, 0, none⟩) L.length cap) (m5 L)) (hk : L.length = k + 1) :
    Own accK (w.setCells g (k * 2) [.int .i64 0, .int .i64 0]) base T (.slice (some ⟨g, 0, none⟩) k cap) (m5 (L.take k)) := by
  have hfl : ∀ L : List Int, (accK.flat (m5 L)).length = L.length * 2 := fun L => by rw [flat_length, m5_len]; rfl
  unfold Own at h ⊢
  rw [m5_len] at h
  have h2 := Rw.row_setCells [.int .i64 0, .int .i64 0] (k * 2) w _ h (by show k * 2 + 2 ≤ L.length * 2; omega)
  have h3 := Rw.row_cut (n := L.length) (k := k) h2 (by omega)
  have hx : List.take (k * 2) ((accK.flat (m5 L)).take (k * 2) ++ [Value.int .i64 0, .int .i64 0] ++ (accK.flat (m5 L)).drop (k * 2 + [Value.int .i64 0, .int .i64 0].length)) = accK.flat (m5 (L.take k)) := by
    rw [List.append_assoc, List.take_append_of_le_length (by rw [List.length_take, hfl]; omega), List.take_take, Nat.min_self]
    have : accK.flat (m5 L) = accK.flat (m5 (L.take k)) ++ accK.flat (m5 (L.drop k)) := by
      rw [← flat_append]
      congr 1
      unfold m5
      rw [← List.map_append, List.take_append_drop]
    rw [this, List.take_append_of_le_length (by rw [hfl, List.length_take]; omega), List.take_of_length_le (by rw [hfl, List.length_take]; omega)]
  rw [m5_len, List.length_take, Nat.min_eq_left (by omega)]
  have h4 : w.setCells g (k * 2) [.int .i64 0, .int .i64 0] |>.ownsRow base T accK.k (.slice (some ⟨g, 0, none⟩) k cap) k (List.take (k * 2) ((accK.flat (m5 L)).take (k * 2) ++ [Value.int .i64 0, .int .i64 0] ++ (accK.flat (m5 L)).drop (k * 2 + [Value.int .i64 0, .int .i64 0].length))) := h3
  rw [hx] at h4
  exact h4
theorem acc_cells {w : World} {base g n cap : Nat} {T : TypeId} {L : List Int} (h : Own accK w base T (.slice (some ⟨g, 0, none⟩) n cap) (m5 L)) {t : Nat} (ht : t < L.length * 2) : (w.cell? ⟨g, t, none⟩).isSome = true ∧ w.frozen? ⟨g, t, none⟩ = false := by
  obtain ⟨u, hu⟩ : ∃ u, (accK.flat (m5 L))[t]? = some u := ⟨_, List.getElem?_eq_getElem (by rw [flat_length, m5_len]; exact ht)⟩
  have := World.ownsRow.cells h (g := g) rfl t _ hu
  rw [show ((⟨g, 0, none⟩ : Addr).add t) = ⟨g, 0 + t, none⟩ by unfold Addr.add; split <;> simp_all, Nat.zero_add] at this
  exact ⟨by rw [this]; rfl, h.free t⟩
set_option maxRecDepth 1000000 in
set_option maxHeartbeats 8000000 in
theorem delA_any {w : World} {base g cap : Nat} {L : List Int} (h : Own accK w base 76 (.slice (some ⟨g, 0, none⟩) L.length cap) (m5 L)) (q : Int) {c : Nat} (hc : LastAt w c q) (hcg : c ≠ g) {i0 : Nat} (h0 : L[i0]? = some q) (hn : ∀ (j : Nat) x, L[j]? = some x → j ≠ i0 → x ≠ q) (hl : L.length ≤ 100) (hwf : ∀ x ∈ m5 L, accK.wf x) (hbase : base ≤ w.heap.size) :
    Calls Try.prog 70 #[.slice (some ⟨g, 0, none⟩) L.length cap, .func (.func 71) #[] #[.pointer (some ⟨c, 0, none⟩)]] w fun r w' => ∃ v', r = .returned v' ∧ Own accK w' base 76 v' (m5 (L.eraseIdx i0)) ∧ Below base w w' ∧ LastAt w' c q := by
  have hl0 : i0 < L.length := (List.getElem?_eq_some_iff.1 h0).1
  have HO := Lib.hid h
  have HC := Lib.hid hc
  have HCG := Lib.hid hcg
  have H0 := Lib.hid h0
  have HN := Lib.hid hn
  have HIX := Lib.hid (idxA_any (h.sl hwf).rr q hc h0 (fun j x hj hx => hn j x hx (by omega)))
  have hgb : base ≤ g ∧ g < w.heap.size ∧ L.length ≤ cap ∧ cap ≤ 9223372036854775807 := by
    rcases h.form with ⟨_, h⟩ | ⟨g', cap', h, h1, h2, h3, h4⟩
    · simp at h
    · simp only [Value.slice.injEq, Option.some.injEq, Addr.mk.injEq] at h
      obtain ⟨⟨rfl, _⟩, _, rfl⟩ := h
      rw [m5_len] at h3
      exact ⟨h1, h2, h3, h4⟩
  have HGB := Lib.hid hgb
  have hg1 := hgb.2.2.1
  have hg2 := hgb.2.2.2
  have hi00 : (0 : Int) ≤ (i0 : Int) := Int.natCast_nonneg _
  have hi01 : (i0 : Int) < (L.length : Int) := by omega
  have hne : ¬ (i0 : Int) = -1 := by omega
  have hneb : ((i0 : Int) == -1) = false := by rw [beq_eq_false_iff_ne]; exact hne
  have hw1 : IntKind.i64.wrap ((i0 : Int) + 1) = ((i0 + 1 : Nat) : Int) := by rw [w_id ⟨by omega, by omega⟩]; omega
  have HL0 := Lib.hid hl0
  clear h hc hcg h0 hn hgb hl0
  go_enter Try.func70, Try.ntmps70
  go_wp2_with fail
  go_at_call 75
  refine HIX.out.mono ?_
  rintro e w1 ⟨rfl, hb⟩
  have HO1 := Lib.hid (HO.out.below hb)
  have HC1 := Lib.hid (HC.out.below hb HC.out.lt)
  have HB1 := Lib.hid (hb.mono hbase)
  clear hb HIX
  go_wp2_with fail
  go_loopg [5, 6] (L.length + 1) (fun k s t wr => ∃ (j i : Nat), j + k = L.length + i0 + 2 ∧ i0 + 1 ≤ j ∧ j ≤ L.length ∧ j = i + 1 ∧ s = .int .i64 (i : Int) ∧ t = .int .i64 (j : Int) ∧ Hid (Own accK wr base 76 (.slice (some ⟨g, 0, none⟩) L.length cap) (m5 (mvL L i0 j))) ∧ Hid (LastAt wr c q) ∧ Hid (Below base w wr))
  case atStart => exact ⟨i0 + 1, i0, by omega, by omega, by have := HL0.out; omega, rfl, rfl, by first | rfl | simp, Lib.hid (by rw [mv_start HL0.out]; exact HO1.out), HC1, HB1⟩
  case round =>
    obtain ⟨j, i, hjk, hj0, hjl, hji, rfl, rfl, HOj, HCj, HBj⟩ := hrel
    clear HO1 HC1 HB1
    have HJK := Lib.hid (And.intro hjk (And.intro hj0 (And.intro hjl hji)))
    have hi0 : (0 : Int) ≤ (i : Int) := Int.natCast_nonneg _
    have hj00 : (0 : Int) ≤ (j : Int) := Int.natCast_nonneg _
    have hil : i < L.length := by omega
    have hil' : (i : Int) < (L.length : Int) := by omega
    have hwi : IntKind.i64.wrap ((i : Int) + 1) = ((i + 1 : Nat) : Int) := by rw [w_id ⟨by omega, by omega⟩]; omega
    have hwj : IntKind.i64.wrap ((j : Int) + 1) = ((j + 1 : Nat) : Int) := by rw [w_id ⟨by omega, by omega⟩]; omega
    clear hjk hj0 hji
    by_cases hlt : j < L.length
    · have hlt' : (j : Int) < (L.length : Int) := by omega
      obtain ⟨x, hx⟩ : ∃ x, L[j]? = some x := ⟨_, List.getElem?_eq_getElem hlt⟩
      have HX := Lib.hid hx
      have qy := HOj.out.at (m5_at (mv_at HL0.out (by have := HJK.out; omega) hx))
      have c0 := qy 0 _ (by decide) rfl
      have c1 := qy 1 _ (by decide) rfl
      simp only [show accK.k = 2 from rfl, Nat.add_zero] at c0 c1
      obtain ⟨W2, hW2⟩ : ∃ W2, W2 = wr.alloc (.cells #[.int .i64 5, .int .i64 x] 76) := ⟨_, rfl⟩
      have hb2 : Below wr.heap.size wr W2 := by rw [hW2]; exact (Below.refl _ _).alloc (Nat.le_refl _) _
      have hn2 : W2.heap[wr.heap.size]? = some (.cells #[.int .i64 5, .int .i64 x] 76 (0, 0)) := by rw [hW2]; exact heap_alloc_new wr _
      have s0 : W2.cell? ⟨wr.heap.size, 0, none⟩ = some (.int .i64 5) := by simp [World.cell?, hn2]
      have s1 : W2.cell? ⟨wr.heap.size, 1, none⟩ = some (.int .i64 x) := by simp [World.cell?, hn2]
      have HN2 := Lib.hid hn2
      have HO2 := Lib.hid (HOj.out.below hb2)
      have HC2 := Lib.hid (HCj.out.below hb2 HCj.out.lt)
      have HB2 := Lib.hid (HBj.out.trans (hb2.mono (Nat.le_trans hbase HBj.out.size)))
      have HLT := Lib.hid hlt
      have HW2 := Lib.hid hW2
      clear hb2 hn2 hlt hx qy hjl hW2 hil
      go_upto_region 8 with fail
      rw [← HW2.out]
      generalize wr.heap.size = b at *
      clear c0 c1
      go_wp2_with fail
      go_at_call 71
      refine (quit_any x q HC2.out).mono ?_
      have hz : decide (x = q) = false := by have := HN.out j _ HX.out (by have := HJK.out; omega); simpa using this
      rw [hz]
      rintro r w3 ⟨rfl, hb3⟩
      have HO3 := Lib.hid (HO2.out.below hb3)
      have HC3 := Lib.hid (HC2.out.below hb3 HC2.out.lt)
      have HB3 := Lib.hid (HB2.out.trans (hb3.mono (Nat.le_trans hbase HB2.out.size)))
      have hblt : b < W2.heap.size := (Array.getElem?_eq_some_iff.1 HN2.out).1
      have r0 := (hb3.cell (p := ⟨b, 0, none⟩) hblt).trans s0
      have r1 := (hb3.cell (p := ⟨b, 1, none⟩) hblt).trans s1
      have hil2 : i < (mvL L i0 j).length := by rw [mv_len HL0.out (by have := HJK.out; omega) (by have := HLT.out; omega)]; have := HJK.out; omega
      have k0 := acc_cells HO3.out (t := i * 2) (by omega)
      have k1 := acc_cells HO3.out (t := i * 2 + 1) (by omega)
      obtain ⟨y0, k00⟩ := Option.isSome_iff_exists.1 k0.1
      obtain ⟨y1, k10⟩ := Option.isSome_iff_exists.1 k1.1
      have k01 := k0.2
      have k11 := k1.2
      have m1 : (w3.setCell ⟨g, i * 2, none⟩ (.int .i64 5)).cell? ⟨g, i * 2 + 1, none⟩ = some y1 := (World.cell?_setCell_other _ _ _ _ (by simp)).trans k10
      have HIL := Lib.hid hil2
      clear hz hb3 s0 s1 hblt k0 k1 hil2
      go_upto_region 10 with fail
      have HO4 := Lib.hid (own_setAcc HO3.out HIL.out x)
      have HC4 : Hid (LastAt ((w3.setCell ⟨g, i * 2, none⟩ (.int .i64 5)).setCell ⟨g, i * 2 + 1, none⟩ (.int .i64 x)) c q) := Lib.hid ⟨(World.cell?_setCell_far _ _ _ _ (Ne.symm HCG.out)).trans ((World.cell?_setCell_far _ _ _ _ (Ne.symm HCG.out)).trans HC3.out.1), (World.cell?_setCell_far _ _ _ _ (Ne.symm HCG.out)).trans ((World.cell?_setCell_far _ _ _ _ (Ne.symm HCG.out)).trans HC3.out.2)⟩
      have HB4 := Lib.hid ((HB3.out.setCell (p := ⟨g, i * 2, none⟩) HGB.out.1 (.int .i64 5)).setCell (p := ⟨g, i * 2 + 1, none⟩) HGB.out.1 (.int .i64 x))
      have hmv := mv_step HL0.out (by have := HJK.out; omega) HX.out
      rw [show j - 1 = i by have := HJK.out; omega] at hmv
      rw [hmv] at HO4
      clear r0 r1 k00 k01 k10 k11 m1 hmv
      generalize (w3.setCell ⟨g, i * 2, none⟩ (.int .i64 5)).setCell ⟨g, i * 2 + 1, none⟩ (.int .i64 x) = w4 at *
      go_wp2_with fail
      go_roundg (gk - 1)
      case measure => have := HJK.out; have := HLT.out; omega
      case rel => exact ⟨j + 1, i + 1, by have := HJK.out; have := HLT.out; omega, by have := HJK.out; omega, by have := HLT.out; omega, by have := HJK.out; omega, by first | rfl | simp, by first | rfl | simp, HO4, HC4, HB4⟩
    · have hje : j = L.length := by omega
      have hlt' : ¬ (j : Int) < (L.length : Int) := by omega
      have hk : L.length = i + 1 := by have := HJK.out; omega
      have hlen := mv_len HL0.out (show i0 < L.length from HL0.out) (Nat.le_refl L.length)
      subst hje
      have hOn : Own accK wr base 76 (.slice (some ⟨g, 0, none⟩) (mvL L i0 L.length).length cap) (m5 (mvL L i0 L.length)) := by rw [hlen]; exact HOj.out
      have HCUT := Lib.hid (own_cutA hOn (by rw [hlen]; exact hk))
      have hcl : ∀ ty, (Builtin.clear_ #[69] ty #[.slice (some ⟨g, i * 2, none⟩) 1 (cap - i)]).run Try.prog wr = .ok (.tuple #[]) (wr.setCells g (i * 2) [.int .i64 0, .int .i64 0]) := by
        intro ty
        have hz := zeroA 1 rfl
        have hin : ∀ t, t < 2 → (wr.cell? ⟨g, i * 2 + t, none⟩).isSome = true ∧ wr.frozen? ⟨g, i * 2 + t, none⟩ = false := fun t ht => acc_cells HOj.out (by rw [hlen]; omega)
        have := Rw.run_clear_any (P := Try.prog) wr 69 76 ty _ Try.underlying69 zeroAcc g (i * 2) 1 (cap - i) (by decide) (by rw [hz]; intro v hv; simp at hv; rcases hv with rfl | rfl <;> rfl) (by rw [hz]; exact fun t ht => (hin t ht).1) (by rw [hz]; exact fun t ht => (hin t ht).2)
        rw [hz] at this
        exact this
      have hmv := mv_end HL0.out
      rw [show L.length - 1 = i by omega] at hmv
      rw [hmv] at HCUT
      have hL1 : L.length - i = 1 := by omega
      have hic : i ≤ cap := by omega
      have hicne : ¬ cap = i := by omega
      have hic' : (i : Int) ≤ (cap : Int) := by omega
      have hilL : (i : Int) ≤ (L.length : Int) := by omega
      have hilN : i ≤ L.length := by omega
      have HB5 := Lib.hid (Rw.below_setCells HGB.out.1 [.int .i64 0, .int .i64 0] (i * 2) wr HBj.out)
      have HC5 : Hid (LastAt (wr.setCells g (i * 2) [.int .i64 0, .int .i64 0]) c q) := Lib.hid ⟨(World.cell?_setCell_far _ _ _ _ (Ne.symm HCG.out)).trans ((World.cell?_setCell_far _ _ _ _ (Ne.symm HCG.out)).trans HCj.out.1), (World.cell?_setCell_far _ _ _ _ (Ne.symm HCG.out)).trans ((World.cell?_setCell_far _ _ _ _ (Ne.symm HCG.out)).trans HCj.out.2)⟩
      have HMV := Lib.hid hmv
      clear hOn hlen hmv hk hlt
      go_wp2_with fail
      go_ret
      exact ⟨_, rfl, HCUT.out, HB5.out, HC5.out⟩
end Go.Proofs.Ytmggnalobfihnaa.Pl
