/-
  THE DOCUMENT'S OWN ANSWER for ring: a queue's Push that finds room.
-/
import Derived.Test.YtjmkcgkkgamafaaJoined10
import Derived.Test.YtjmkcgkkgamafaaJoined1
import Derived.Test.YtjmkcgkkgamafaaJoined12
namespace Go.Proofs.Ytjmkcgkkgamafaa.Rg
open Go.RowKit Rw Pk Go.Maps Mm
set_option linter.unusedVariables false
theorem infoR3 : (Try.prog.info? 37).map (fun i => (i.zero, i.size, i.bytes)) = some (some (.slice none 0 0), 1, 24) := by kernel_rfl
theorem ownq0 (w : World) (T : TypeId) : (w.alloc (.cells #[] T)).ownsRow w.heap.size T 1 (.slice (some ⟨w.heap.size, 0, none⟩) 0 0) 0 [] :=
  ⟨rfl, .inr ⟨w.heap.size, 0, #[], rfl, Nat.le_refl _, heap_alloc_new w _, Nat.le_refl _, by decide, rfl, rfl⟩⟩
/-- A slice of slices, as it reads. -/
def QRow (w : World) (v : Value) (ss : List Sv) : Prop := ∃ ao cap, v = .slice ao ss.length cap ∧ ((ao = none ∧ ss = []) ∨ ∃ g, ao = some ⟨g, 0, none⟩ ∧ ∀ (j : Nat) (s : Sv), ss[j]? = some s → w.cell? ⟨g, j, none⟩ = some s.val) ∧ ss.length ≤ cap ∧ cap ≤ maxLen
theorem QRow.block {w w' : World} {v : Value} {ss : List Sv} (h : QRow w v ss) (hb : ∀ g, v.ownBlock = some g → w'.heap[g]? = w.heap[g]?) : QRow w' v ss := by
  obtain ⟨ao, cap, rfl, h, hcp⟩ := h
  refine ⟨ao, cap, rfl, ?_, hcp⟩
  rcases h with h | ⟨g, rfl, h⟩
  · exact .inl h
  · exact .inr ⟨g, rfl, fun j s hs => (World.cell?_of_block (w := w) (hb g rfl)).trans (h j s hs)⟩
theorem add_pl (g j : Nat) : (⟨g, 0, none⟩ : Addr).add j = ⟨g, j, none⟩ := by unfold Addr.add; split <;> simp_all
theorem QRow.src {w : World} {ao : Option Addr} {n cap : Nat} {ss : List Sv} (h : QRow w (.slice ao n cap) ss) : n = ss.length ∧ Batch.Src w ao ss.length (ss.map Sv.val) := by
  obtain ⟨ao', cap', hv, h, _⟩ := h
  simp only [Value.slice.injEq] at hv
  obtain ⟨rfl, rfl, rfl⟩ := hv
  refine ⟨rfl, ?_⟩
  rcases h with ⟨rfl, rfl⟩ | ⟨g, rfl, h⟩
  · exact .inl ⟨rfl, rfl, rfl⟩
  · refine .inr ⟨_, rfl, fun j u hu => ?_⟩
    obtain ⟨s, hs, rfl⟩ := List.getElem?_map .. ▸ hu |> fun (h : (ss[j]?).map Sv.val = some u) => Option.map_eq_some_iff.1 h
    rw [add_pl]
    exact h j s hs
set_option maxRecDepth 1000000 in
set_option maxHeartbeats 8000000 in
theorem rgqpush_yes {w : World} {q N : Nat} {v : Value} {ss : List Sv} (h : QAt w q N v) (hr : QRow w v ss) (hn : ss.length < N) (hN : N ≤ 64) (sa : Option Addr) (sn sc : Nat) :
    Calls Try.prog 27 #[.pointer (some ⟨q, 0, none⟩), .slice sa sn sc] w fun e w' => e = .returned (.bool true) ∧ ∃ w1 v', Below w.heap.size w w1 ∧ w1.ownsRow w.heap.size 37 1 v' (ss.length + 1) (ss.map Sv.val ++ [.slice sa sn sc]) ∧ w' = w1.setCell ⟨q, 0, none⟩ v' := by
  obtain ⟨c0, c1, cf⟩ := h.cells
  have hql := (Array.getElem?_eq_some_iff.1 h).1
  obtain ⟨ao, cap, rfl, hsrc⟩ : ∃ ao cap, v = .slice ao ss.length cap ∧ Batch.Src w ao ss.length (ss.map Sv.val) := by
    obtain ⟨ao, cap, rfl, h1, h2⟩ := hr
    exact ⟨ao, cap, rfl, (QRow.src (cap := cap) ⟨ao, cap, rfl, h1, h2⟩).2⟩
  obtain ⟨i0, hi, hz0, hz1, hz2⟩ := info_partsP infoR3
  have hd : ¬ (N : Int) ≤ (ss.length : Int) := by omega
  have HSRC := Lib.hid hsrc
  have HN := Lib.hid (And.intro hn hN)
  clear h hsrc hn hN
  go_enter Try.func27, Try.ntmps27
  go_wp2_with fail
  go_quiet (fail)
  have k0 : (w.drewN nq).cell? ⟨q, 0, none⟩ = some (.slice ao ss.length cap) := c0
  have kf : ∀ o, (w.drewN nq).frozen? ⟨q, o, none⟩ = false := cf
  have kl : q < (w.drewN nq).heap.size := hql
  have kz : (w.drewN nq).heap.size = w.heap.size := rfl
  have HBW : Hid (Below w.heap.size w (w.drewN nq)) := Lib.hid (below_drewN (Below.refl _ _) _)
  have HSW : Hid (Batch.Src (w.drewN nq) ao ss.length (ss.map Sv.val)) := Lib.hid HSRC.out
  clear c0 c1 cf hql HSRC
  generalize w.drewN nq = W at *
  have h0 := ownq0 W 37
  have hB0 : Below W.heap.size W (W.alloc (.cells #[] 37)) := (Below.refl _ _).alloc (Nat.le_refl _) _
  have HAr : Hid (Batch.Src (W.alloc (.cells #[] 37)) ao ss.length (ss.map Sv.val)) := Lib.hid (by
    rcases HSW.out with h | ⟨ad, e, h⟩
    · exact .inl h
    · refine .inr ⟨ad, e, fun j u hu => ?_⟩
      have hc := h j u hu
      exact (hB0.cell (Lib.lt_of_cell hc)).trans hc)
  have HB0 := Lib.hid (HBW.out.trans (hB0.mono (Nat.le_of_eq kz.symm)))
  have hs0 : W.heap.size ≤ (W.alloc (.cells #[] 37)).heap.size := hB0.size
  clear hB0
  replace kz := Lib.hid kz
  have HK0 := Lib.hid k0
  have HKF := Lib.hid kf
  have HKL := Lib.hid kl
  have hone : ∀ u ∈ ss.map Sv.val, u.oneCell' = true := by
    intro u hu
    obtain ⟨y, _, rfl⟩ := List.mem_map.1 hu
    rfl
  go_wp2_with (first
    | (at_builtin
       refine Batch.wpList_append_any _ rfl (.tmp 16) (.tmp 20) _ _ rfl W.heap.size 37 37 i0 (.slice none 0 0) 1 24 Try.underlying22 Try.underlying22 hi hz0 hz1 hz2 rfl (by decide) _ 0 [] rfl h0 ao ss.length cap (ss.map Sv.val) rfl (by simp) HAr.out hone (by have := HN.out; unfold maxLen; omega) (by have := HN.out; omega) hs0 ?_
       intro v1 w1 hown1 hg1 hat1
       have hbw1 : Below W.heap.size W w1 := ((Below.refl _ _).alloc (Nat.le_refl _) _).grown hg1 hs0 (fun k e => (h0.lt k e).1)
       have HB1 := Lib.hid hbw1
       have HO1 := Lib.hid hown1
       have k1 : w1.cell? ⟨q, 0, none⟩ = some (.slice ao ss.length cap) := (hbw1.cell (p := ⟨q, 0, none⟩) kl).trans k0
       have kf1 : ∀ o, w1.frozen? ⟨q, o, none⟩ = false := fun o => (hbw1.frozen (p := ⟨q, o, none⟩) kl).trans (kf o)
       have kl1 : q < w1.heap.size := Nat.lt_of_lt_of_le kl hbw1.size
       clear hg1 hat1 hbw1 h0 hown1 hs0 k0 kf kl)
    | (at_builtin
       have hbw2 : Below w1.heap.size w1 (w1.alloc (.cells #[.slice sa sn sc] 37)) := (Below.refl _ _).alloc (Nat.le_refl _) _
       refine Batch.wpList_append_any _ rfl (.tmp 21) (.tmp 23) _ _ rfl W.heap.size 37 37 i0 (.slice none 0 0) 1 24 Try.underlying22 Try.underlying22 hi hz0 hz1 hz2 rfl (by decide) v1 (0 + ss.length) ([] ++ ss.map Sv.val) rfl (HO1.out.alloc _) (some ⟨w1.heap.size, 0, none⟩) 1 1 [.slice sa sn sc] rfl rfl (.inr ⟨_, rfl, World.news_of_block (cs := #[.slice sa sn sc]) (heap_alloc_new w1 _)⟩) (fun u hu => by simp at hu; subst hu; rfl) (by have := HN.out; unfold maxLen; omega) (by have := HN.out; omega) (Nat.le_trans HB1.out.size hbw2.size) ?_
       intro v2 w2 hown2 hg2 hat2
       have hbw3 : Below W.heap.size W w2 := (HB1.out.trans (hbw2.mono HB1.out.size)).grown hg2 (Nat.le_trans HB1.out.size hbw2.size) (fun k e => (HO1.out.lt k e).1)
       have HB3 := Lib.hid hbw3
       have HO3 := Lib.hid hown2
       obtain ⟨ao2, n2, c2, rfl⟩ : ∃ ao n c, v2 = .slice ao n c := by
         rcases hown2.2 with ⟨hv, _⟩ | ⟨_, _, _, hv, _⟩
         · exact ⟨_, _, _, hv⟩
         · exact ⟨_, _, _, hv⟩
       have k3 : w2.cell? ⟨q, 0, none⟩ = some (.slice ao ss.length cap) := (hbw3.cell (p := ⟨q, 0, none⟩) HKL.out).trans HK0.out
       have kf3 : ∀ o, w2.frozen? ⟨q, o, none⟩ = false := fun o => (hbw3.frozen (p := ⟨q, o, none⟩) HKL.out).trans (HKF.out o)
       clear hg2 hat2 hbw2 hbw3 hown2 k1 kf1 kl1))
  go_wp2_with fail
  go_ret
  refine ⟨rfl, w2, .slice ao2 n2 c2, HBW.out.trans (HB3.out.mono (Nat.le_of_eq kz.out.symm)), ?_, rfl⟩
  have h3 := HO3.out
  rw [kz.out, Nat.zero_add, List.nil_append] at h3
  exact h3
theorem src_tail {w : World} {g : Nat} {s : Sv} {ss : List Sv} (h : ∀ (j : Nat) (x : Sv), (s :: ss)[j]? = some x → w.cell? ⟨g, j, none⟩ = some x.val) : Batch.Src w (some ⟨g, 0 + 1, none⟩) ss.length (ss.map Sv.val) := by
  refine .inr ⟨_, rfl, fun j u hu => ?_⟩
  obtain ⟨x, hx, rfl⟩ := List.getElem?_map .. ▸ hu |> fun (h : (ss[j]?).map Sv.val = some u) => Option.map_eq_some_iff.1 h
  rw [show (⟨g, 0 + 1, none⟩ : Addr).add j = ⟨g, j + 1, none⟩ by unfold Addr.add; split <;> simp_all; omega]
  exact h (j + 1) x (by simpa using hx)
theorem src_none {w : World} {a : Addr} {ss : List Sv} (h : ss = []) : Batch.Src w (some a) ss.length (ss.map Sv.val) := by
  subst h
  exact .inr ⟨a, rfl, by simp⟩
set_option maxRecDepth 1000000 in
set_option maxHeartbeats 8000000 in
theorem rgqpop_yes {w : World} {q N : Nat} {v : Value} {s : Sv} {ss : List Sv} (h : QAt w q N v) (hr : QRow w v (s :: ss)) (hN : ss.length ≤ 64) :
    Calls Try.prog 18 #[.pointer (some ⟨q, 0, none⟩)] w fun e w' => e = .returned (.tuple #[s.val, .bool true]) ∧ ∃ w1 v', Below w.heap.size w w1 ∧ w1.ownsRow w.heap.size 37 1 v' ss.length (ss.map Sv.val) ∧ w' = w1.setCell ⟨q, 0, none⟩ v' := by
  obtain ⟨c0, c1, cf⟩ := h.cells
  have hql := (Array.getElem?_eq_some_iff.1 h).1
  obtain ⟨ao, cap, rfl, hsr, hn1, hn2⟩ := hr
  rcases hsr with ⟨_, h0⟩ | ⟨g, rfl, hsr⟩
  · cases h0
  obtain ⟨i0, hi, hz0, hz1, hz2⟩ := info_partsP infoR3
  have e0 := hsr 0 s rfl
  have hgl := Lib.lt_of_cell e0
  have HTL : Hid (Batch.Src w (some ⟨g, 0 + 1, none⟩) ss.length (ss.map Sv.val)) := Lib.hid (src_tail hsr)
  obtain ⟨sa, sn, sc⟩ := s
  simp only [Sv.val] at e0 ⊢
  simp only [List.length_cons] at c0 hn1 ⊢
  have hlt : (1 : Int) ≤ (ss.length : Int) + 1 := by omega
  have hl0 : (0 : Int) < (ss.length : Int) + 1 := by omega
  have hne : ¬ (ss.length : Int) + 1 = 0 := by omega
  have hcm : cap ≤ 9223372036854775807 := by unfold maxLen at hn2; omega
  have HN := Lib.hid hN
  have hone : ∀ u ∈ ss.map Sv.val, u.oneCell' = true := by
    intro u hu
    obtain ⟨y, _, rfl⟩ := List.mem_map.1 hu
    rfl
  clear h hsr hN hn2
  have h0 := ownq0 w 37
  have hs0 : w.heap.size ≤ (w.alloc (.cells #[] 37)).heap.size := ((Below.refl _ _).alloc (Nat.le_refl _) _).size
  have hB0 : Below w.heap.size w (w.alloc (.cells #[] 37)) := (Below.refl _ _).alloc (Nat.le_refl _) _
  rcases (show cap = 1 ∨ cap ≠ 1 by omega) with rfl | hcap
  · obtain rfl : ss = [] := List.length_eq_zero_iff.1 (by omega)
    have HAr : Hid (Batch.Src (w.alloc (.cells #[] 37)) (some ⟨g, 0, none⟩) 0 []) := Lib.hid (.inr ⟨_, rfl, by simp⟩)
    simp only [List.length_nil, List.map_nil] at *
    clear hB0 HTL
    go_enter Try.func18, Try.ntmps18
    go_wp2_with (first
      | (at_builtin
         refine Batch.wpList_append_any _ rfl (.tmp 18) (.tmp 23) _ _ rfl w.heap.size 37 37 i0 (.slice none 0 0) 1 24 Try.underlying22 Try.underlying22 hi hz0 hz1 hz2 rfl (by decide) _ 0 [] rfl h0 (some ⟨g, 0, none⟩) 0 0 [] rfl (by simp) HAr.out hone (by decide) (by decide) hs0 ?_
         intro v1 w1 hown1 hg1 hat1
         have hbw1 : Below w.heap.size w w1 := ((Below.refl _ _).alloc (Nat.le_refl _) _).grown hg1 hs0 (fun k e => (h0.lt k e).1)
         have HB1 := Lib.hid hbw1
         have HO1 := Lib.hid hown1
         obtain ⟨ao1, n1, c1', rfl⟩ : ∃ ao n c, v1 = .slice ao n c := by
           rcases hown1.2 with ⟨hv, _⟩ | ⟨_, _, _, hv, _⟩
           · exact ⟨_, _, _, hv⟩
           · exact ⟨_, _, _, hv⟩
         have k1 := (hbw1.cell (p := ⟨q, 0, none⟩) hql).trans c0
         have kf1 : ∀ o, w1.frozen? ⟨q, o, none⟩ = false := fun o => (hbw1.frozen (p := ⟨q, o, none⟩) hql).trans (cf o)
         have kl1 : q < w1.heap.size := Nat.lt_of_lt_of_le hql hbw1.size
         clear hg1 hat1 hbw1 h0 hown1 hs0 c0 cf hql HAr))
    go_wp2_with fail
    go_ret2
    first | refine ⟨rfl, w1, .slice ao1 n1 c1', HB1.out, ?_, rfl⟩ | refine ⟨rfl, w1, HB1.out, .slice ao1 n1 c1', ?_, rfl⟩
    have h3 := HO1.out
    rw [Nat.zero_add, List.nil_append] at h3
    exact h3
  · have HAr : Hid (Batch.Src (w.alloc (.cells #[] 37)) (some ⟨g, 1, none⟩) ss.length (ss.map Sv.val)) := Lib.hid (by
      rcases HTL.out with ⟨h, _⟩ | ⟨ad, e, h⟩
      · cases h
      · refine .inr ⟨ad, e, fun j u hu => ?_⟩
        have hc := h j u hu
        exact (hB0.cell (Lib.lt_of_cell hc)).trans hc)
    clear hB0 HTL
    go_enter Try.func18, Try.ntmps18
    go_wp2_with (first
      | (at_builtin
         refine Batch.wpList_append_any _ rfl (.tmp 18) (.tmp 23) _ _ rfl w.heap.size 37 37 i0 (.slice none 0 0) 1 24 Try.underlying22 Try.underlying22 hi hz0 hz1 hz2 rfl (by decide) _ 0 [] rfl h0 (some ⟨g, 1, none⟩) ss.length (cap - 1) (ss.map Sv.val) rfl (by simp) HAr.out hone (by have := HN.out; unfold maxLen; omega) (by have := HN.out; omega) hs0 ?_
         intro v1 w1 hown1 hg1 hat1
         have hbw1 : Below w.heap.size w w1 := ((Below.refl _ _).alloc (Nat.le_refl _) _).grown hg1 hs0 (fun k e => (h0.lt k e).1)
         have HB1 := Lib.hid hbw1
         have HO1 := Lib.hid hown1
         obtain ⟨ao1, n1, c1', rfl⟩ : ∃ ao n c, v1 = .slice ao n c := by
           rcases hown1.2 with ⟨hv, _⟩ | ⟨_, _, _, hv, _⟩
           · exact ⟨_, _, _, hv⟩
           · exact ⟨_, _, _, hv⟩
         have k1 := (hbw1.cell (p := ⟨q, 0, none⟩) hql).trans c0
         have kf1 : ∀ o, w1.frozen? ⟨q, o, none⟩ = false := fun o => (hbw1.frozen (p := ⟨q, o, none⟩) hql).trans (cf o)
         have kl1 : q < w1.heap.size := Nat.lt_of_lt_of_le hql hbw1.size
         clear hg1 hat1 hbw1 h0 hown1 hs0 c0 cf hql HAr))
    go_wp2_with fail
    go_ret2
    first | refine ⟨rfl, w1, .slice ao1 n1 c1', HB1.out, ?_, rfl⟩ | refine ⟨rfl, w1, HB1.out, .slice ao1 n1 c1', ?_, rfl⟩
    have h3 := HO1.out
    rw [Nat.zero_add, List.nil_append] at h3
    exact h3
end Go.Proofs.Ytjmkcgkkgamafaa.Rg
