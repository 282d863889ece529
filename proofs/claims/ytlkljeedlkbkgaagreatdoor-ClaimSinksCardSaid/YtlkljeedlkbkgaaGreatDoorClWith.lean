/-
  YtlkljeedlkbkgaaGreatDoorClWith
-/
import Derived.Test.YtlkljeedlkbkgaaGreatDoorJoined9
import Derived.Test.YtlkljeedlkbkgaaGreatDoorJoined1
import Derived.Test.YtlkljeedlkbkgaaGreatDoorJoined4
import Derived.Deep.RegionHeldLaw
import Derived.BigQuiet
namespace Go.Proofs.YtlkljeedlkbkgaaGreatDoor.Cl
open Go.RowKit Gr
set_option linter.unusedVariables false
theorem infoRH : (Tryz.prog.info? 50).map (fun i => (i.zero, i.size, i.bytes)) = some (some (.agg #[.int .i64 0, .int .i64 0, .int .u64 0]), 3, 24) := by kernel_rfl
def lowA (H : List Ed) (h : Ed) : Bool := H.all (lowB h.f)
def wiL (H : List Ed) (h : Ed) (i : Nat) : List Ed := if lowA (H.take i) h = true then H.take i else withL (H.take i) h
theorem lowA_iff {H : List Ed} {h : Ed} : lowA H h = true ↔ ∀ x ∈ H, x.f < h.f := by
  unfold lowA
  rw [List.all_eq_true]
  exact ⟨fun a x hx => of_decide_eq_true (a x hx), fun a x hx => decide_eq_true (a x hx)⟩
theorem lowA_zero (H : List Ed) (h : Ed) : lowA (H.take 0) h = true := lowA_iff.2 (by simp)
theorem with_low {H : List Ed} {h : Ed} (hl : lowA H h = true) : withL H h = H ++ [h] := by
  unfold withL
  rw [filter_all (p := lowB h.f) (fun x hx => decide_eq_true (lowA_iff.1 hl x hx)), filter_none (p := highB h.f) (fun x hx => decide_eq_false (by have := lowA_iff.1 hl x hx; omega))]
theorem wi_end {H : List Ed} {h : Ed} (hl : lowA H h = false) : wiL H h H.length = withL H h := by
  unfold wiL
  rw [List.take_length, if_neg (by rw [hl]; decide)]
section
variable {H : List Ed} {h x : Ed} {i : Nat}
theorem low_yes (hx : H[i]? = some x) (hl : lowA (H.take i) h = true) (hlt : x.f < h.f) : lowA (H.take (i + 1)) h = true ∧ wiL H h (i + 1) = wiL H h i ++ [x] := by
  have e := Gr.take_succ' hx
  have h2 : lowA (H.take (i + 1)) h = true := lowA_iff.2 fun y hy => by
    rw [e] at hy
    rcases List.mem_append.1 hy with hy | hy
    · exact lowA_iff.1 hl y hy
    · simp at hy; subst hy; exact hlt
  refine ⟨h2, ?_⟩
  unfold wiL
  rw [if_pos h2, if_pos hl, e]
theorem low_no (hx : H[i]? = some x) (hge : ¬ x.f < h.f) : lowA (H.take (i + 1)) h = false := by
  cases e : lowA (H.take (i + 1)) h
  · rfl
  · exact absurd (lowA_iff.1 e x (by rw [Gr.take_succ' hx]; simp)) hge
theorem wi_same (hx : H[i]? = some x) (hl : lowA (H.take i) h = true) (he : x.f = h.f) : wiL H h (i + 1) = wiL H h i ++ [h] := by
  have h2 := low_no (h := h) hx (by omega)
  unfold wiL
  rw [if_neg (by rw [h2]; decide), if_pos hl, Gr.take_succ' hx]
  unfold withL
  rw [List.filter_append, List.filter_append, filter_all (l := H.take i) (p := lowB h.f) (fun y hy => decide_eq_true (lowA_iff.1 hl y hy)), filter_none (l := H.take i) (p := highB h.f) (fun y hy => decide_eq_false (by have := lowA_iff.1 hl y hy; omega))]
  rw [List.filter_cons_of_neg (by unfold lowB; simp; omega), List.filter_cons_of_neg (by unfold highB; simp; omega)]
  simp
theorem wi_both (hx : H[i]? = some x) (hl : lowA (H.take i) h = true) (hlt : h.f < x.f) : wiL H h (i + 1) = (wiL H h i ++ [h]) ++ [x] := by
  have h2 := low_no (h := h) hx (by omega)
  unfold wiL
  rw [if_neg (by rw [h2]; decide), if_pos hl, Gr.take_succ' hx]
  unfold withL
  rw [List.filter_append, List.filter_append, filter_all (l := H.take i) (p := lowB h.f) (fun y hy => decide_eq_true (lowA_iff.1 hl y hy)), filter_none (l := H.take i) (p := highB h.f) (fun y hy => decide_eq_false (by have := lowA_iff.1 hl y hy; omega))]
  rw [List.filter_cons_of_neg (by unfold lowB; simp; omega), List.filter_cons_of_pos (by unfold highB; simpa using hlt)]
  simp
theorem wi_more (hr : Rise H) (hx : H[i]? = some x) (hl : lowA (H.take i) h = false) : h.f < x.f ∧ lowA (H.take (i + 1)) h = false ∧ wiL H h (i + 1) = wiL H h i ++ [x] := by
  obtain ⟨y, hy, hge⟩ : ∃ y ∈ H.take i, ¬ y.f < h.f := by
    apply Classical.byContradiction
    intro hn
    have : lowA (H.take i) h = true := lowA_iff.2 fun y hy => Classical.byContradiction fun hc => hn ⟨y, hy, hc⟩
    rw [hl] at this
    cases this
  obtain ⟨k, hk⟩ := List.mem_iff_getElem?.1 hy
  have hki : k < i := by have := (List.getElem?_eq_some_iff.1 hk).1; rw [List.length_take] at this; omega
  rw [List.getElem?_take_of_lt hki] at hk
  have hyx := rise_lt hr hk hx hki
  have hlt : h.f < x.f := by omega
  have h2 : lowA (H.take (i + 1)) h = false := low_no hx (by omega)
  refine ⟨hlt, h2, ?_⟩
  unfold wiL
  rw [if_neg (by rw [h2]; decide), if_neg (by rw [hl]; decide), Gr.take_succ' hx]
  unfold withL
  rw [List.filter_append, List.filter_append, List.filter_cons_of_neg (by unfold lowB; simp; omega), List.filter_cons_of_pos (by unfold highB; simpa using hlt)]
  simp
theorem wi_len (H : List Ed) (h : Ed) (i : Nat) : (wiL H h i).length ≤ i + 1 := by
  unfold wiL
  split
  · rw [List.length_take]; omega
  · have := with_length (H := H.take i) h
    rw [List.length_take] at this
    omega
end
set_option maxRecDepth 1000000 in
set_option maxHeartbeats 16000000 in
theorem refwith_any {w : World} {v : Value} {H : List Ed} {h : Ed} (hv : Sl w v H) (hr : Rise H) (hl : H.length ≤ 10000) :
    Calls Tryz.prog 22 #[v, .agg #[.int .i64 h.f, .int .i64 h.t, .int .u64 h.a]] w fun e w' => ∃ v', e = .returned v' ∧ Own w' w.heap.size 50 v' (withL H h) ∧ Below w.heap.size w w' := by
  obtain ⟨i0, hi, hz0, hz1, hz2⟩ := info_parts infoRH
  obtain ⟨W1, hW1⟩ : ∃ W1, W1 = w.alloc (.cells #[.int .i64 h.f, .int .i64 h.t, .int .u64 h.a] 50) := ⟨_, rfl⟩
  have hb1 : Below w.heap.size w W1 := by rw [hW1]; exact (Below.refl _ _).alloc (Nat.le_refl _) _
  have hs1 : W1.heap.size = w.heap.size + 1 := by rw [hW1]; simp
  have hn : W1.heap[w.heap.size]? = some (.cells #[.int .i64 h.f, .int .i64 h.t, .int .u64 h.a] 50 (0, 0)) := by rw [hW1]; exact heap_alloc_new w _
  have HV := Lib.hid hv
  have HR := Lib.hid hr
  have HL := Lib.hid hl
  have HB1 := Lib.hid hb1
  have HS1 := Lib.hid hs1
  have HW1 := Lib.hid hW1
  have HBX : Hid (∀ W, Below (w.heap.size + 1) W1 W → W.cell? ⟨w.heap.size, 0, none⟩ = some (.int .i64 h.f) ∧ W.cell? ⟨w.heap.size, 1, none⟩ = some (.int .i64 h.t) ∧ W.cell? ⟨w.heap.size, 2, none⟩ = some (.int .u64 h.a)) := Lib.hid (fun W hW => ⟨(hW.cell (p := ⟨w.heap.size, 0, none⟩) (Nat.lt_succ_self _)).trans (by simp [World.cell?, hn]), (hW.cell (p := ⟨w.heap.size, 1, none⟩) (Nat.lt_succ_self _)).trans (by simp [World.cell?, hn]), (hW.cell (p := ⟨w.heap.size, 2, none⟩) (Nat.lt_succ_self _)).trans (by simp [World.cell?, hn])⟩)
  obtain ⟨ao, cap, rfl, hcell, hlc, hcm⟩ := hv
  have HC := Lib.hid hcell
  have hlm : H.length ≤ 9223372036854775807 := by omega
  clear hr hl hb1 hs1 hn hcell hlc hcm
  obtain ⟨hf, ht, ha⟩ := h
  go_enter Tryz.func22, Tryz.ntmps22
  go_upto_region 4 with fail
  rw [← HW1.out]
  have HB0 : Hid (Below (w.heap.size + 1) W1 W1) := Lib.hid (Below.refl _ _)
  go_loopg [5, 6, 7] (H.length + 1) (fun k o d t wr => ∃ (i : Nat) (b : Bool), i + k = H.length + 1 ∧ i ≤ H.length ∧ t = .int .i64 (i : Int) ∧ d = .bool b ∧ Hid (b = !lowA (H.take i) ⟨hf, ht, ha⟩) ∧ Hid (Own wr (w.heap.size + 1) 50 o (wiL H ⟨hf, ht, ha⟩ i)) ∧ Hid (Below (w.heap.size + 1) W1 wr))
  case atStart => exact ⟨0, false, by omega, by omega, rfl, rfl, Lib.hid (by rw [lowA_zero]; rfl), Lib.hid (Own.nil _ _ _), HB0⟩
  case round =>
    obtain ⟨i, b, hik, hil, rfl, rfl, HD, HO, HB⟩ := hrel
    have HIK := Lib.hid (And.intro hik hil)
    have hi0 : (0 : Int) ≤ (i : Int) := Int.natCast_nonneg _
    have HBW := Lib.hid (HB1.out.trans (HB.out.mono (Nat.le_succ _)))
    have hwi : IntKind.i64.wrap ((i : Int) + 1) = (i : Int) + 1 := by rw [IntKind.wrap_i64]; have := HL.out; omega
    clear hik HB0
    by_cases hlt : i < H.length
    · have hlt' : (i : Int) < (H.length : Int) := by omega
      obtain ⟨⟨xf, xt, xa⟩, hx⟩ : ∃ x, H[i]? = some x := ⟨_, List.getElem?_eq_getElem hlt⟩
      obtain ⟨bb, off, rfl, hcc⟩ := HC.out.resolve_left (fun h => by rw [h.2] at hx; simp at hx)
      have q := hcc i _ hx
      have hbl := q.lt
      obtain ⟨c0, c1, c2⟩ := q.below HBW.out hbl
      simp only at c0 c1 c2
      obtain ⟨d0, d1, d2⟩ := HBX.out _ HB.out
      have HX := Lib.hid hx
      have HLT := Lib.hid hlt
      have HBL := Lib.hid hbl
      clear hx hcc q hbl hlt hil
      cases b with
      | false =>
        have HLA : Hid (lowA (H.take i) ⟨hf, ht, ha⟩ = true) := Lib.hid (by have := HD.out; cases e : lowA (H.take i) ⟨hf, ht, ha⟩ with | true => rfl | false => rw [e] at this; cases this)
        clear HD
        by_cases hge : hf ≤ xf
        · have hge2 : decide (hf ≤ xf) = true := decide_eq_true hge
          have HXC : Hid (∀ W, Below (w.heap.size + 1) W1 W → W.cell? ⟨bb, off + i * 3, none⟩ = some (.int .i64 xf) ∧ W.cell? ⟨bb, off + i * 3 + 1, none⟩ = some (.int .i64 xt) ∧ W.cell? ⟨bb, off + i * 3 + 2, none⟩ = some (.int .u64 xa)) := Lib.hid (fun W hW => by
            have q := (HC.out.resolve_left (fun h => by have := HX.out; rw [h.2] at this; simp at this))
            obtain ⟨b2, o2, e, q⟩ := q
            simp only [Option.some.injEq, Addr.mk.injEq, and_true] at e
            obtain ⟨rfl, rfl⟩ := e
            obtain ⟨e0, e1, e2⟩ := (q i _ HX.out).below (HB1.out.trans (hW.mono (Nat.le_succ _))) HBL.out
            exact ⟨e0, e1, e2⟩)
          have HGE := Lib.hid hge
          clear hge
          go_upto_region 6 with fail
          refine wp_region_held_drew (S := (fun w' => w'.cell? ⟨bb, off + i * 3, none⟩ = some (.int .i64 xf) ∧ w'.cell? ⟨w.heap.size, 0, none⟩ = some (.int .i64 hf))) (by kernel_rfl) ?_ (fun hHeld => ?_)
          · ((try dsimp only); exact ⟨c0, d0⟩)
          refine wpAnyH_take (i := 0) (v := ?_) rfl (by kernel_rfl) (by kernel_rfl) (by kernel_rfl) (fun _ _ _ h => h) (Or.inl ⟨by rfl, ?_⟩) (by assumption) ?_
          rotate_left 1
          · (intro w hSw; (try dsimp only at hSw); first | (go_simp; done) | (go_simp; with_reducible rfl))
          try simp only [Act.put, List.setIfInBounds_toArray, List.set_cons_zero, List.set_cons_succ, List.getElem_toArray, List.getElem_cons_zero]
          refine wpAnyH_take (i := 1) (v := ?_) rfl (by kernel_rfl) (by kernel_rfl) (by kernel_rfl) (fun _ _ _ h => h) (Or.inl ⟨by rfl, ?_⟩) (by assumption) ?_
          rotate_left 1
          · (intro w hSw; (try dsimp only at hSw); first | (go_simp; done) | (go_simp; with_reducible rfl))
          try simp only [Act.put, List.setIfInBounds_toArray, List.set_cons_zero, List.set_cons_succ, List.getElem_toArray, List.getElem_cons_zero, List.getElem_cons_succ]
          refine wpAnyH_take (i := 2) (v := ?_) rfl (by kernel_rfl) (by kernel_rfl) (by kernel_rfl) (fun _ _ _ h => h) (Or.inl ⟨by rfl, ?_⟩) (by assumption) ?_
          rotate_left 1
          · (intro w hSw; (try dsimp only at hSw); first | (go_simp; done) | (go_simp; with_reducible rfl))
          try simp only [Act.put, List.setIfInBounds_toArray, List.set_cons_zero, List.set_cons_succ, List.getElem_toArray, List.getElem_cons_zero, List.getElem_cons_succ]
          refine wpAnyH_take (i := 3) (v := ?_) rfl (by kernel_rfl) (by kernel_rfl) (by kernel_rfl) (fun _ _ _ h => h) (Or.inl ⟨by rfl, ?_⟩) (by assumption) ?_
          rotate_left 1
          · (intro w hSw; (try dsimp only at hSw); first | (go_simp; done) | (go_simp; with_reducible rfl))
          try simp only [Act.put, List.setIfInBounds_toArray, List.set_cons_zero, List.set_cons_succ, List.getElem_toArray, List.getElem_cons_zero, List.getElem_cons_succ]
          refine wpAnyH_take (i := 4) (v := ?_) rfl (by kernel_rfl) (by kernel_rfl) (by kernel_rfl) (fun _ _ _ h => h) (Or.inl ⟨by rfl, ?_⟩) (by assumption) ?_
          rotate_left 1
          · (intro w hSw; (try dsimp only at hSw); first | (go_simp; done) | (go_simp; with_reducible rfl))
          try simp only [Act.put, List.setIfInBounds_toArray, List.set_cons_zero, List.set_cons_succ, List.getElem_toArray, List.getElem_cons_zero, List.getElem_cons_succ]
          refine wpAnyH_take (i := 5) (v := ?_) rfl (by kernel_rfl) (by kernel_rfl) (by kernel_rfl) (fun _ _ _ h => h) (Or.inl ⟨by rfl, ?_⟩) (by assumption) ?_
          rotate_left 1
          · (intro w hSw; (try dsimp only at hSw); first | (go_simp; done) | (go_simp; with_reducible rfl))
          try simp only [Act.put, List.setIfInBounds_toArray, List.set_cons_zero, List.set_cons_succ, List.getElem_toArray, List.getElem_cons_zero, List.getElem_cons_succ]
          refine wpAnyH_take (i := 6) (v := ?_) rfl (by kernel_rfl) (by kernel_rfl) (by kernel_rfl) (fun _ _ _ h => h) (Or.inl ⟨by rfl, ?_⟩) (by assumption) ?_
          rotate_left 1
          · (intro w hSw; (try dsimp only at hSw); first | (go_simp; done) | (go_simp; with_reducible rfl))
          try simp only [Act.put, List.setIfInBounds_toArray, List.set_cons_zero, List.set_cons_succ, List.getElem_toArray, List.getElem_cons_zero, List.getElem_cons_succ]
          refine wpAnyH_take (i := 7) (v := ?_) rfl (by kernel_rfl) (by kernel_rfl) (by kernel_rfl) (fun _ _ _ h => h) (Or.inl ⟨by rfl, ?_⟩) (by assumption) ?_
          rotate_left 1
          · (intro w hSw; (try dsimp only at hSw); first | (go_simp; done) | (go_simp; with_reducible rfl))
          try simp only [Act.put, List.setIfInBounds_toArray, List.set_cons_zero, List.set_cons_succ, List.getElem_toArray, List.getElem_cons_zero, List.getElem_cons_succ]
          refine wpAnyH_take (i := 8) (v := ?_) rfl (by kernel_rfl) (by kernel_rfl) (by kernel_rfl) (fun _ _ _ h => h) (Or.inl ⟨by rfl, ?_⟩) (by assumption) ?_
          rotate_left 1
          · (intro w hSw; (try dsimp only at hSw); first | (go_simp; done) | (go_simp; with_reducible rfl))
          try simp only [Act.put, List.setIfInBounds_toArray, List.set_cons_zero, List.set_cons_succ, List.getElem_toArray, List.getElem_cons_zero, List.getElem_cons_succ]
          refine wpAnyH_take (i := 9) (v := ?_) rfl (by kernel_rfl) (by kernel_rfl) (by kernel_rfl) (fun _ _ _ h => h) (Or.inl ⟨by rfl, ?_⟩) (by assumption) ?_
          rotate_left 1
          · (intro w hSw; (try dsimp only at hSw); first | (go_simp; done) | (go_simp; with_reducible rfl))
          try simp only [Act.put, List.setIfInBounds_toArray, List.set_cons_zero, List.set_cons_succ, List.getElem_toArray, List.getElem_cons_zero, List.getElem_cons_succ]
          refine wpAnyH_take (i := 10) (v := ?_) rfl (by kernel_rfl) (by kernel_rfl) (by kernel_rfl) (fun _ _ _ h => h) (Or.inl ⟨by rfl, ?_⟩) (by assumption) ?_
          rotate_left 1
          · (intro w hSw; (try dsimp only at hSw); first | (go_simp; done) | (go_simp; with_reducible rfl))
          try simp only [Act.put, List.setIfInBounds_toArray, List.set_cons_zero, List.set_cons_succ, List.getElem_toArray, List.getElem_cons_zero, List.getElem_cons_succ]
          refine wpAnyH_take (i := 11) (v := ?_) rfl (by kernel_rfl) (by kernel_rfl) (by kernel_rfl) (fun _ _ _ h => h) (Or.inl ⟨by rfl, ?_⟩) (by assumption) ?_
          rotate_left 1
          · (intro w hSw; (try dsimp only at hSw); first | (go_simp; done) | (go_simp; with_reducible rfl))
          try simp only [Act.put, List.setIfInBounds_toArray, List.set_cons_zero, List.set_cons_succ, List.getElem_toArray, List.getElem_cons_zero, List.getElem_cons_succ]
          refine wpAnyH_done (by kernel_rfl) ?_ _
          replace HO : Hid (Own wr.drew (w.heap.size + 1) 50 u5 (wiL H ⟨hf, ht, ha⟩ i)) := Lib.hid (HO.out.draw 1)
          replace HB := Lib.hid (HB.out.drew)
          generalize wr.drew = wa at *
          clear c0 c1 c2 d0 d1 d2
          obtain ⟨c0, c1, c2⟩ : wa.cell? ⟨bb, off + i * 3, none⟩ = some (.int .i64 xf) ∧ wa.cell? ⟨bb, off + i * 3 + 1, none⟩ = some (.int .i64 xt) ∧ wa.cell? ⟨bb, off + i * 3 + 2, none⟩ = some (.int .u64 xa) := HXC.out _ HB.out
          obtain ⟨d0, d1, d2⟩ := HBX.out _ HB.out
          have hlen3 : (wiL H ⟨hf, ht, ha⟩ i).length ≤ 20000 := by have := wi_len H ⟨hf, ht, ha⟩ i; have := HL.out; have := HLT.out; omega
          have hbs3 : w.heap.size + 1 ≤ wa.heap.size := by have := HB.out.size; have := HS1.out; omega
          go_wp2_with (at_builtin; refine Batch.wpList_append_any _ rfl _ _ 26 26 rfl (w.heap.size + 1) 50 50 i0 (.agg #[.int .i64 0, .int .i64 0, .int .u64 0]) 3 24 Tryz.underlying26 Tryz.underlying26 hi hz0 hz1 hz2 rfl (by decide) u5 (wiL H ⟨hf, ht, ha⟩ i).length (cellsL (wiL H ⟨hf, ht, ha⟩ i)) rfl (World.ownsRow.alloc HO.out _) (some ⟨wa.heap.size, 0, none⟩) 1 1 [.int .i64 hf, .int .i64 ht, .int .u64 ha] rfl rfl ?a3 ?b3 ?c3 ?d3 ?e3 ?_)
          case a3 => exact .inr ⟨_, rfl, World.news_of_block (cs := #[.int .i64 hf, .int .i64 ht, .int .u64 ha]) (heap_alloc_new wa _)⟩
          case b3 => first | exact ⟨rfl, rfl, rfl⟩ | (intro y hy; simp at hy; rcases hy with rfl | rfl | rfl <;> rfl)
          case c3 => unfold maxLen; omega
          case d3 => omega
          case e3 => first | omega | (simp; omega)
          intro vc wc hown hgrow hblk
          have HB2 := Lib.hid ((HB.out.alloc hbs3 _).grown hgrow (by simp; omega) (fun k e => (HO.out.lt k e).1))
          have HO2 : Hid (Own wc (w.heap.size + 1) 50 vc (wiL H ⟨hf, ht, ha⟩ i ++ [(⟨hf, ht, ha⟩ : Ed)])) := Lib.hid (by
            unfold Own
            rw [cellsL_snoc, List.length_append]
            exact hown)
          clear hown hgrow hblk hlen3 hbs3
          clear c0 c1 c2 d0 d1 d2
          obtain ⟨c0, c1, c2⟩ : wc.cell? ⟨bb, off + i * 3, none⟩ = some (.int .i64 xf) ∧ wc.cell? ⟨bb, off + i * 3 + 1, none⟩ = some (.int .i64 xt) ∧ wc.cell? ⟨bb, off + i * 3 + 2, none⟩ = some (.int .u64 xa) := HXC.out _ HB2.out
          obtain ⟨d0, d1, d2⟩ := HBX.out _ HB2.out
          by_cases he : xf = hf
          · have hneb : (xf != hf) = false := by simp [he]
            have HLY := Lib.hid (And.intro (low_no (h := ⟨hf, ht, ha⟩) HX.out (show ¬ xf < hf by omega)) (wi_same HX.out HLA.out he))
            clear he
            go_upto_region 9 with fail
            refine wp_region_held_drew (S := (fun w' => w'.cell? ⟨bb, off + i * 3, none⟩ = some (.int .i64 xf) ∧ w'.cell? ⟨w.heap.size, 0, none⟩ = some (.int .i64 hf))) (by kernel_rfl) ?_ (fun hHeld => ?_)
            · ((try dsimp only); exact ⟨c0, d0⟩)
            refine wpAnyH_take (i := 0) (v := ?_) rfl (by kernel_rfl) (by kernel_rfl) (by kernel_rfl) (fun _ _ _ h => h) (Or.inl ⟨by rfl, ?_⟩) (by assumption) ?_
            rotate_left 1
            · (intro w hSw; (try dsimp only at hSw); first | (go_simp; done) | (go_simp; with_reducible rfl))
            try simp only [Act.put, List.setIfInBounds_toArray, List.set_cons_zero, List.set_cons_succ, List.getElem_toArray, List.getElem_cons_zero]
            refine wpAnyH_take (i := 1) (v := ?_) rfl (by kernel_rfl) (by kernel_rfl) (by kernel_rfl) (fun _ _ _ h => h) (Or.inl ⟨by rfl, ?_⟩) (by assumption) ?_
            rotate_left 1
            · (intro w hSw; (try dsimp only at hSw); first | (go_simp; done) | (go_simp; with_reducible rfl))
            try simp only [Act.put, List.setIfInBounds_toArray, List.set_cons_zero, List.set_cons_succ, List.getElem_toArray, List.getElem_cons_zero, List.getElem_cons_succ]
            refine wpAnyH_take (i := 2) (v := ?_) rfl (by kernel_rfl) (by kernel_rfl) (by kernel_rfl) (fun _ _ _ h => h) (Or.inl ⟨by rfl, ?_⟩) (by assumption) ?_
            rotate_left 1
            · (intro w hSw; (try dsimp only at hSw); first | (go_simp; done) | (go_simp; with_reducible rfl))
            try simp only [Act.put, List.setIfInBounds_toArray, List.set_cons_zero, List.set_cons_succ, List.getElem_toArray, List.getElem_cons_zero, List.getElem_cons_succ]
            refine wpAnyH_take (i := 3) (v := ?_) rfl (by kernel_rfl) (by kernel_rfl) (by kernel_rfl) (fun _ _ _ h => h) (Or.inl ⟨by rfl, ?_⟩) (by assumption) ?_
            rotate_left 1
            · (intro w hSw; (try dsimp only at hSw); first | (go_simp; done) | (go_simp; with_reducible rfl))
            try simp only [Act.put, List.setIfInBounds_toArray, List.set_cons_zero, List.set_cons_succ, List.getElem_toArray, List.getElem_cons_zero, List.getElem_cons_succ]
            refine wpAnyH_take (i := 4) (v := ?_) rfl (by kernel_rfl) (by kernel_rfl) (by kernel_rfl) (fun _ _ _ h => h) (Or.inl ⟨by rfl, ?_⟩) (by assumption) ?_
            rotate_left 1
            · (intro w hSw; (try dsimp only at hSw); first | (go_simp; done) | (go_simp; with_reducible rfl))
            try simp only [Act.put, List.setIfInBounds_toArray, List.set_cons_zero, List.set_cons_succ, List.getElem_toArray, List.getElem_cons_zero, List.getElem_cons_succ]
            refine wpAnyH_take (i := 5) (v := ?_) rfl (by kernel_rfl) (by kernel_rfl) (by kernel_rfl) (fun _ _ _ h => h) (Or.inl ⟨by rfl, ?_⟩) (by assumption) ?_
            rotate_left 1
            · (intro w hSw; (try dsimp only at hSw); first | (go_simp; done) | (go_simp; with_reducible rfl))
            try simp only [Act.put, List.setIfInBounds_toArray, List.set_cons_zero, List.set_cons_succ, List.getElem_toArray, List.getElem_cons_zero, List.getElem_cons_succ]
            refine wpAnyH_take (i := 6) (v := ?_) rfl (by kernel_rfl) (by kernel_rfl) (by kernel_rfl) (fun _ _ _ h => h) (Or.inl ⟨by rfl, ?_⟩) (by assumption) ?_
            rotate_left 1
            · (intro w hSw; (try dsimp only at hSw); first | (go_simp; done) | (go_simp; with_reducible rfl))
            try simp only [Act.put, List.setIfInBounds_toArray, List.set_cons_zero, List.set_cons_succ, List.getElem_toArray, List.getElem_cons_zero, List.getElem_cons_succ]
            refine wpAnyH_take (i := 7) (v := ?_) rfl (by kernel_rfl) (by kernel_rfl) (by kernel_rfl) (fun _ _ _ h => h) (Or.inl ⟨by rfl, ?_⟩) (by assumption) ?_
            rotate_left 1
            · (intro w hSw; (try dsimp only at hSw); first | (go_simp; done) | (go_simp; with_reducible rfl))
            try simp only [Act.put, List.setIfInBounds_toArray, List.set_cons_zero, List.set_cons_succ, List.getElem_toArray, List.getElem_cons_zero, List.getElem_cons_succ]
            refine wpAnyH_done (by kernel_rfl) ?_ _
            replace HO2 : Hid (Own wc.drew (w.heap.size + 1) 50 vc (wiL H ⟨hf, ht, ha⟩ (i + 1))) := Lib.hid (by rw [HLY.out.2]; exact HO2.out.draw 1)
            replace HB2 := Lib.hid (HB2.out.drew)
            go_wp2_with fail
            go_roundg (gk - 1)
            case measure => have := HIK.out; have := HLT.out; omega
            case rel => exact ⟨i + 1, true, by have := HIK.out; have := HLT.out; omega, by have := HLT.out; omega, by first | rfl | simp, rfl, Lib.hid (by rw [HLY.out.1]; rfl), HO2, HB2⟩
          · have hneb : (xf != hf) = true := by rw [bne_iff_ne]; exact he
            have HLY := Lib.hid (And.intro (low_no (h := ⟨hf, ht, ha⟩) HX.out (show ¬ xf < hf by have := HGE.out; omega)) (wi_both HX.out HLA.out (show hf < xf by have := HGE.out; omega)))
            obtain ⟨L2, hL2⟩ : ∃ L2, wiL H ⟨hf, ht, ha⟩ i ++ [(⟨hf, ht, ha⟩ : Ed)] = L2 := ⟨_, rfl⟩
            have hL2n : L2.length ≤ 20000 := by rw [← hL2, List.length_append]; simp; have := wi_len H ⟨hf, ht, ha⟩ i; have := HL.out; have := HLT.out; omega
            rw [hL2] at HO2 HLY
            have HL2N := Lib.hid hL2n
            clear hL2 hL2n he
            go_upto_region 9 with fail
            refine wp_region_held_drew (S := (fun w' => w'.cell? ⟨bb, off + i * 3, none⟩ = some (.int .i64 xf) ∧ w'.cell? ⟨w.heap.size, 0, none⟩ = some (.int .i64 hf))) (by kernel_rfl) ?_ (fun hHeld => ?_)
            · ((try dsimp only); exact ⟨c0, d0⟩)
            refine wpAnyH_take (i := 0) (v := ?_) rfl (by kernel_rfl) (by kernel_rfl) (by kernel_rfl) (fun _ _ _ h => h) (Or.inl ⟨by rfl, ?_⟩) (by assumption) ?_
            rotate_left 1
            · (intro w hSw; (try dsimp only at hSw); first | (go_simp; done) | (go_simp; with_reducible rfl))
            try simp only [Act.put, List.setIfInBounds_toArray, List.set_cons_zero, List.set_cons_succ, List.getElem_toArray, List.getElem_cons_zero]
            refine wpAnyH_take (i := 1) (v := ?_) rfl (by kernel_rfl) (by kernel_rfl) (by kernel_rfl) (fun _ _ _ h => h) (Or.inl ⟨by rfl, ?_⟩) (by assumption) ?_
            rotate_left 1
            · (intro w hSw; (try dsimp only at hSw); first | (go_simp; done) | (go_simp; with_reducible rfl))
            try simp only [Act.put, List.setIfInBounds_toArray, List.set_cons_zero, List.set_cons_succ, List.getElem_toArray, List.getElem_cons_zero, List.getElem_cons_succ]
            refine wpAnyH_take (i := 2) (v := ?_) rfl (by kernel_rfl) (by kernel_rfl) (by kernel_rfl) (fun _ _ _ h => h) (Or.inl ⟨by rfl, ?_⟩) (by assumption) ?_
            rotate_left 1
            · (intro w hSw; (try dsimp only at hSw); first | (go_simp; done) | (go_simp; with_reducible rfl))
            try simp only [Act.put, List.setIfInBounds_toArray, List.set_cons_zero, List.set_cons_succ, List.getElem_toArray, List.getElem_cons_zero, List.getElem_cons_succ]
            refine wpAnyH_take (i := 3) (v := ?_) rfl (by kernel_rfl) (by kernel_rfl) (by kernel_rfl) (fun _ _ _ h => h) (Or.inl ⟨by rfl, ?_⟩) (by assumption) ?_
            rotate_left 1
            · (intro w hSw; (try dsimp only at hSw); first | (go_simp; done) | (go_simp; with_reducible rfl))
            try simp only [Act.put, List.setIfInBounds_toArray, List.set_cons_zero, List.set_cons_succ, List.getElem_toArray, List.getElem_cons_zero, List.getElem_cons_succ]
            refine wpAnyH_take (i := 4) (v := ?_) rfl (by kernel_rfl) (by kernel_rfl) (by kernel_rfl) (fun _ _ _ h => h) (Or.inl ⟨by rfl, ?_⟩) (by assumption) ?_
            rotate_left 1
            · (intro w hSw; (try dsimp only at hSw); first | (go_simp; done) | (go_simp; with_reducible rfl))
            try simp only [Act.put, List.setIfInBounds_toArray, List.set_cons_zero, List.set_cons_succ, List.getElem_toArray, List.getElem_cons_zero, List.getElem_cons_succ]
            refine wpAnyH_take (i := 5) (v := ?_) rfl (by kernel_rfl) (by kernel_rfl) (by kernel_rfl) (fun _ _ _ h => h) (Or.inl ⟨by rfl, ?_⟩) (by assumption) ?_
            rotate_left 1
            · (intro w hSw; (try dsimp only at hSw); first | (go_simp; done) | (go_simp; with_reducible rfl))
            try simp only [Act.put, List.setIfInBounds_toArray, List.set_cons_zero, List.set_cons_succ, List.getElem_toArray, List.getElem_cons_zero, List.getElem_cons_succ]
            refine wpAnyH_take (i := 6) (v := ?_) rfl (by kernel_rfl) (by kernel_rfl) (by kernel_rfl) (fun _ _ _ h => h) (Or.inl ⟨by rfl, ?_⟩) (by assumption) ?_
            rotate_left 1
            · (intro w hSw; (try dsimp only at hSw); first | (go_simp; done) | (go_simp; with_reducible rfl))
            try simp only [Act.put, List.setIfInBounds_toArray, List.set_cons_zero, List.set_cons_succ, List.getElem_toArray, List.getElem_cons_zero, List.getElem_cons_succ]
            refine wpAnyH_take (i := 7) (v := ?_) rfl (by kernel_rfl) (by kernel_rfl) (by kernel_rfl) (fun _ _ _ h => h) (Or.inl ⟨by rfl, ?_⟩) (by assumption) ?_
            rotate_left 1
            · (intro w hSw; (try dsimp only at hSw); first | (go_simp; done) | (go_simp; with_reducible rfl))
            try simp only [Act.put, List.setIfInBounds_toArray, List.set_cons_zero, List.set_cons_succ, List.getElem_toArray, List.getElem_cons_zero, List.getElem_cons_succ]
            refine wpAnyH_done (by kernel_rfl) ?_ _
            replace HO2 : Hid (Own wc.drew (w.heap.size + 1) 50 vc (L2)) := Lib.hid (HO2.out.draw 1)
            replace HB2 := Lib.hid (HB2.out.drew)
            generalize wc.drew = wd at *
            clear c0 c1 c2 d0 d1 d2
            obtain ⟨c0, c1, c2⟩ : wd.cell? ⟨bb, off + i * 3, none⟩ = some (.int .i64 xf) ∧ wd.cell? ⟨bb, off + i * 3 + 1, none⟩ = some (.int .i64 xt) ∧ wd.cell? ⟨bb, off + i * 3 + 2, none⟩ = some (.int .u64 xa) := HXC.out _ HB2.out
            obtain ⟨d0, d1, d2⟩ := HBX.out _ HB2.out
            have hlen4 : (L2).length ≤ 20000 := by exact HL2N.out
            have hbs4 : w.heap.size + 1 ≤ wd.heap.size := by have := HB2.out.size; have := HS1.out; omega
            go_wp2_with (at_builtin; refine Batch.wpList_append_any _ rfl _ _ 26 26 rfl (w.heap.size + 1) 50 50 i0 (.agg #[.int .i64 0, .int .i64 0, .int .u64 0]) 3 24 Tryz.underlying26 Tryz.underlying26 hi hz0 hz1 hz2 rfl (by decide) vc (L2).length (cellsL (L2)) rfl (World.ownsRow.alloc HO2.out _) (some ⟨wd.heap.size, 0, none⟩) 1 1 [.int .i64 xf, .int .i64 xt, .int .u64 xa] rfl rfl ?a4 ?b4 ?c4 ?d4 ?e4 ?_)
            case a4 => exact .inr ⟨_, rfl, World.news_of_block (cs := #[.int .i64 xf, .int .i64 xt, .int .u64 xa]) (heap_alloc_new wd _)⟩
            case b4 => first | exact ⟨rfl, rfl, rfl⟩ | (intro y hy; simp at hy; rcases hy with rfl | rfl | rfl <;> rfl)
            case c4 => unfold maxLen; omega
            case d4 => omega
            case e4 => first | omega | (simp; omega)
            intro ve we hown hgrow hblk
            have HB3 := Lib.hid ((HB2.out.alloc hbs4 _).grown hgrow (by simp; omega) (fun k e => (HO2.out.lt k e).1))
            have HO3 : Hid (Own we (w.heap.size + 1) 50 ve (L2 ++ [(⟨xf, xt, xa⟩ : Ed)])) := Lib.hid (by
              unfold Own
              rw [cellsL_snoc, List.length_append]
              exact hown)
            clear hown hgrow hblk hlen4 hbs4
            clear c0 c1 c2 d0 d1 d2
            replace HO3 := Lib.hid (show Own we (w.heap.size + 1) 50 ve (wiL H ⟨hf, ht, ha⟩ (i + 1)) by rw [HLY.out.2]; exact HO3.out)
            go_wp2_with fail
            go_roundg (gk - 1)
            case measure => have := HIK.out; have := HLT.out; omega
            case rel => exact ⟨i + 1, true, by have := HIK.out; have := HLT.out; omega, by have := HLT.out; omega, by first | rfl | simp, rfl, Lib.hid (by rw [HLY.out.1]; rfl), HO3, HB3⟩
        · have hge2 : decide (hf ≤ xf) = false := decide_eq_false hge
          obtain ⟨l1, l2⟩ := low_yes (h := ⟨hf, ht, ha⟩) HX.out HLA.out (show xf < hf by omega)
          have HLY := Lib.hid (And.intro l1 l2)
          have hne : (xf == hf) = false := by rw [beq_eq_false_iff_ne]; omega
          have hne2 : ¬ xf = hf := by omega
          have hneb : (xf != hf) = true := by rw [bne_iff_ne]; exact hne2
          clear l1 l2 hne2
          have HXC : Hid (∀ W, Below (w.heap.size + 1) W1 W → W.cell? ⟨bb, off + i * 3, none⟩ = some (.int .i64 xf) ∧ W.cell? ⟨bb, off + i * 3 + 1, none⟩ = some (.int .i64 xt) ∧ W.cell? ⟨bb, off + i * 3 + 2, none⟩ = some (.int .u64 xa)) := Lib.hid (fun W hW => by
            have q := (HC.out.resolve_left (fun h => by have := HX.out; rw [h.2] at this; simp at this))
            obtain ⟨b2, o2, e, q⟩ := q
            simp only [Option.some.injEq, Addr.mk.injEq, and_true] at e
            obtain ⟨rfl, rfl⟩ := e
            obtain ⟨e0, e1, e2⟩ := (q i _ HX.out).below (HB1.out.trans (hW.mono (Nat.le_succ _))) HBL.out
            exact ⟨e0, e1, e2⟩)
          go_upto_region 6 with fail
          refine wp_region_held_drew (S := (fun w' => w'.cell? ⟨bb, off + i * 3, none⟩ = some (.int .i64 xf) ∧ w'.cell? ⟨w.heap.size, 0, none⟩ = some (.int .i64 hf))) (by kernel_rfl) ?_ (fun hHeld => ?_)
          · ((try dsimp only); exact ⟨c0, d0⟩)
          refine wpAnyH_take (i := 0) (v := ?_) rfl (by kernel_rfl) (by kernel_rfl) (by kernel_rfl) (fun _ _ _ h => h) (Or.inl ⟨by rfl, ?_⟩) (by assumption) ?_
          rotate_left 1
          · (intro w hSw; (try dsimp only at hSw); first | (go_simp; done) | (go_simp; with_reducible rfl))
          try simp only [Act.put, List.setIfInBounds_toArray, List.set_cons_zero, List.set_cons_succ, List.getElem_toArray, List.getElem_cons_zero]
          refine wpAnyH_take (i := 1) (v := ?_) rfl (by kernel_rfl) (by kernel_rfl) (by kernel_rfl) (fun _ _ _ h => h) (Or.inl ⟨by rfl, ?_⟩) (by assumption) ?_
          rotate_left 1
          · (intro w hSw; (try dsimp only at hSw); first | (go_simp; done) | (go_simp; with_reducible rfl))
          try simp only [Act.put, List.setIfInBounds_toArray, List.set_cons_zero, List.set_cons_succ, List.getElem_toArray, List.getElem_cons_zero, List.getElem_cons_succ]
          refine wpAnyH_take (i := 2) (v := ?_) rfl (by kernel_rfl) (by kernel_rfl) (by kernel_rfl) (fun _ _ _ h => h) (Or.inl ⟨by rfl, ?_⟩) (by assumption) ?_
          rotate_left 1
          · (intro w hSw; (try dsimp only at hSw); first | (go_simp; done) | (go_simp; with_reducible rfl))
          try simp only [Act.put, List.setIfInBounds_toArray, List.set_cons_zero, List.set_cons_succ, List.getElem_toArray, List.getElem_cons_zero, List.getElem_cons_succ]
          refine wpAnyH_take (i := 3) (v := ?_) rfl (by kernel_rfl) (by kernel_rfl) (by kernel_rfl) (fun _ _ _ h => h) (Or.inl ⟨by rfl, ?_⟩) (by assumption) ?_
          rotate_left 1
          · (intro w hSw; (try dsimp only at hSw); first | (go_simp; done) | (go_simp; with_reducible rfl))
          try simp only [Act.put, List.setIfInBounds_toArray, List.set_cons_zero, List.set_cons_succ, List.getElem_toArray, List.getElem_cons_zero, List.getElem_cons_succ]
          refine wpAnyH_take (i := 4) (v := ?_) rfl (by kernel_rfl) (by kernel_rfl) (by kernel_rfl) (fun _ _ _ h => h) (Or.inl ⟨by rfl, ?_⟩) (by assumption) ?_
          rotate_left 1
          · (intro w hSw; (try dsimp only at hSw); first | (go_simp; done) | (go_simp; with_reducible rfl))
          try simp only [Act.put, List.setIfInBounds_toArray, List.set_cons_zero, List.set_cons_succ, List.getElem_toArray, List.getElem_cons_zero, List.getElem_cons_succ]
          refine wpAnyH_take (i := 5) (v := ?_) rfl (by kernel_rfl) (by kernel_rfl) (by kernel_rfl) (fun _ _ _ h => h) (Or.inl ⟨by rfl, ?_⟩) (by assumption) ?_
          rotate_left 1
          · (intro w hSw; (try dsimp only at hSw); first | (go_simp; done) | (go_simp; with_reducible rfl))
          try simp only [Act.put, List.setIfInBounds_toArray, List.set_cons_zero, List.set_cons_succ, List.getElem_toArray, List.getElem_cons_zero, List.getElem_cons_succ]
          refine wpAnyH_take (i := 6) (v := ?_) rfl (by kernel_rfl) (by kernel_rfl) (by kernel_rfl) (fun _ _ _ h => h) (Or.inl ⟨by rfl, ?_⟩) (by assumption) ?_
          rotate_left 1
          · (intro w hSw; (try dsimp only at hSw); first | (go_simp; done) | (go_simp; with_reducible rfl))
          try simp only [Act.put, List.setIfInBounds_toArray, List.set_cons_zero, List.set_cons_succ, List.getElem_toArray, List.getElem_cons_zero, List.getElem_cons_succ]
          refine wpAnyH_take (i := 7) (v := ?_) rfl (by kernel_rfl) (by kernel_rfl) (by kernel_rfl) (fun _ _ _ h => h) (Or.inl ⟨by rfl, ?_⟩) (by assumption) ?_
          rotate_left 1
          · (intro w hSw; (try dsimp only at hSw); first | (go_simp; done) | (go_simp; with_reducible rfl))
          try simp only [Act.put, List.setIfInBounds_toArray, List.set_cons_zero, List.set_cons_succ, List.getElem_toArray, List.getElem_cons_zero, List.getElem_cons_succ]
          refine wpAnyH_take (i := 8) (v := ?_) rfl (by kernel_rfl) (by kernel_rfl) (by kernel_rfl) (fun _ _ _ h => h) (Or.inl ⟨by rfl, ?_⟩) (by assumption) ?_
          rotate_left 1
          · (intro w hSw; (try dsimp only at hSw); first | (go_simp; done) | (go_simp; with_reducible rfl))
          try simp only [Act.put, List.setIfInBounds_toArray, List.set_cons_zero, List.set_cons_succ, List.getElem_toArray, List.getElem_cons_zero, List.getElem_cons_succ]
          refine wpAnyH_take (i := 9) (v := ?_) rfl (by kernel_rfl) (by kernel_rfl) (by kernel_rfl) (fun _ _ _ h => h) (Or.inl ⟨by rfl, ?_⟩) (by assumption) ?_
          rotate_left 1
          · (intro w hSw; (try dsimp only at hSw); first | (go_simp; done) | (go_simp; with_reducible rfl))
          try simp only [Act.put, List.setIfInBounds_toArray, List.set_cons_zero, List.set_cons_succ, List.getElem_toArray, List.getElem_cons_zero, List.getElem_cons_succ]
          refine wpAnyH_take (i := 10) (v := ?_) rfl (by kernel_rfl) (by kernel_rfl) (by kernel_rfl) (fun _ _ _ h => h) (Or.inl ⟨by rfl, ?_⟩) (by assumption) ?_
          rotate_left 1
          · (intro w hSw; (try dsimp only at hSw); first | (go_simp; done) | (go_simp; with_reducible rfl))
          try simp only [Act.put, List.setIfInBounds_toArray, List.set_cons_zero, List.set_cons_succ, List.getElem_toArray, List.getElem_cons_zero, List.getElem_cons_succ]
          refine wpAnyH_take (i := 11) (v := ?_) rfl (by kernel_rfl) (by kernel_rfl) (by kernel_rfl) (fun _ _ _ h => h) (Or.inl ⟨by rfl, ?_⟩) (by assumption) ?_
          rotate_left 1
          · (intro w hSw; (try dsimp only at hSw); first | (go_simp; done) | (go_simp; with_reducible rfl))
          try simp only [Act.put, List.setIfInBounds_toArray, List.set_cons_zero, List.set_cons_succ, List.getElem_toArray, List.getElem_cons_zero, List.getElem_cons_succ]
          refine wpAnyH_done (by kernel_rfl) ?_ _
          replace HO : Hid (Own wr.drew (w.heap.size + 1) 50 u5 (wiL H ⟨hf, ht, ha⟩ i)) := Lib.hid (HO.out.draw 1)
          replace HB := Lib.hid (HB.out.drew)
          generalize wr.drew = wa at *
          clear c0 c1 c2 d0 d1 d2
          obtain ⟨c0, c1, c2⟩ : wa.cell? ⟨bb, off + i * 3, none⟩ = some (.int .i64 xf) ∧ wa.cell? ⟨bb, off + i * 3 + 1, none⟩ = some (.int .i64 xt) ∧ wa.cell? ⟨bb, off + i * 3 + 2, none⟩ = some (.int .u64 xa) := HXC.out _ HB.out
          obtain ⟨d0, d1, d2⟩ := HBX.out _ HB.out
          go_upto_region 9 with fail
          refine wp_region_held_drew (S := (fun w' => w'.cell? ⟨bb, off + i * 3, none⟩ = some (.int .i64 xf) ∧ w'.cell? ⟨w.heap.size, 0, none⟩ = some (.int .i64 hf))) (by kernel_rfl) ?_ (fun hHeld => ?_)
          · ((try dsimp only); exact ⟨c0, d0⟩)
          refine wpAnyH_take (i := 0) (v := ?_) rfl (by kernel_rfl) (by kernel_rfl) (by kernel_rfl) (fun _ _ _ h => h) (Or.inl ⟨by rfl, ?_⟩) (by assumption) ?_
          rotate_left 1
          · (intro w hSw; (try dsimp only at hSw); first | (go_simp; done) | (go_simp; with_reducible rfl))
          try simp only [Act.put, List.setIfInBounds_toArray, List.set_cons_zero, List.set_cons_succ, List.getElem_toArray, List.getElem_cons_zero]
          refine wpAnyH_take (i := 1) (v := ?_) rfl (by kernel_rfl) (by kernel_rfl) (by kernel_rfl) (fun _ _ _ h => h) (Or.inl ⟨by rfl, ?_⟩) (by assumption) ?_
          rotate_left 1
          · (intro w hSw; (try dsimp only at hSw); first | (go_simp; done) | (go_simp; with_reducible rfl))
          try simp only [Act.put, List.setIfInBounds_toArray, List.set_cons_zero, List.set_cons_succ, List.getElem_toArray, List.getElem_cons_zero, List.getElem_cons_succ]
          refine wpAnyH_take (i := 2) (v := ?_) rfl (by kernel_rfl) (by kernel_rfl) (by kernel_rfl) (fun _ _ _ h => h) (Or.inl ⟨by rfl, ?_⟩) (by assumption) ?_
          rotate_left 1
          · (intro w hSw; (try dsimp only at hSw); first | (go_simp; done) | (go_simp; with_reducible rfl))
          try simp only [Act.put, List.setIfInBounds_toArray, List.set_cons_zero, List.set_cons_succ, List.getElem_toArray, List.getElem_cons_zero, List.getElem_cons_succ]
          refine wpAnyH_take (i := 3) (v := ?_) rfl (by kernel_rfl) (by kernel_rfl) (by kernel_rfl) (fun _ _ _ h => h) (Or.inl ⟨by rfl, ?_⟩) (by assumption) ?_
          rotate_left 1
          · (intro w hSw; (try dsimp only at hSw); first | (go_simp; done) | (go_simp; with_reducible rfl))
          try simp only [Act.put, List.setIfInBounds_toArray, List.set_cons_zero, List.set_cons_succ, List.getElem_toArray, List.getElem_cons_zero, List.getElem_cons_succ]
          refine wpAnyH_take (i := 4) (v := ?_) rfl (by kernel_rfl) (by kernel_rfl) (by kernel_rfl) (fun _ _ _ h => h) (Or.inl ⟨by rfl, ?_⟩) (by assumption) ?_
          rotate_left 1
          · (intro w hSw; (try dsimp only at hSw); first | (go_simp; done) | (go_simp; with_reducible rfl))
          try simp only [Act.put, List.setIfInBounds_toArray, List.set_cons_zero, List.set_cons_succ, List.getElem_toArray, List.getElem_cons_zero, List.getElem_cons_succ]
          refine wpAnyH_take (i := 5) (v := ?_) rfl (by kernel_rfl) (by kernel_rfl) (by kernel_rfl) (fun _ _ _ h => h) (Or.inl ⟨by rfl, ?_⟩) (by assumption) ?_
          rotate_left 1
          · (intro w hSw; (try dsimp only at hSw); first | (go_simp; done) | (go_simp; with_reducible rfl))
          try simp only [Act.put, List.setIfInBounds_toArray, List.set_cons_zero, List.set_cons_succ, List.getElem_toArray, List.getElem_cons_zero, List.getElem_cons_succ]
          refine wpAnyH_take (i := 6) (v := ?_) rfl (by kernel_rfl) (by kernel_rfl) (by kernel_rfl) (fun _ _ _ h => h) (Or.inl ⟨by rfl, ?_⟩) (by assumption) ?_
          rotate_left 1
          · (intro w hSw; (try dsimp only at hSw); first | (go_simp; done) | (go_simp; with_reducible rfl))
          try simp only [Act.put, List.setIfInBounds_toArray, List.set_cons_zero, List.set_cons_succ, List.getElem_toArray, List.getElem_cons_zero, List.getElem_cons_succ]
          refine wpAnyH_take (i := 7) (v := ?_) rfl (by kernel_rfl) (by kernel_rfl) (by kernel_rfl) (fun _ _ _ h => h) (Or.inl ⟨by rfl, ?_⟩) (by assumption) ?_
          rotate_left 1
          · (intro w hSw; (try dsimp only at hSw); first | (go_simp; done) | (go_simp; with_reducible rfl))
          try simp only [Act.put, List.setIfInBounds_toArray, List.set_cons_zero, List.set_cons_succ, List.getElem_toArray, List.getElem_cons_zero, List.getElem_cons_succ]
          refine wpAnyH_done (by kernel_rfl) ?_ _
          replace HO : Hid (Own wa.drew (w.heap.size + 1) 50 u5 (wiL H ⟨hf, ht, ha⟩ i)) := Lib.hid (HO.out.draw 1)
          replace HB := Lib.hid (HB.out.drew)
          generalize wa.drew = wb at *
          clear c0 c1 c2 d0 d1 d2
          obtain ⟨c0, c1, c2⟩ : wb.cell? ⟨bb, off + i * 3, none⟩ = some (.int .i64 xf) ∧ wb.cell? ⟨bb, off + i * 3 + 1, none⟩ = some (.int .i64 xt) ∧ wb.cell? ⟨bb, off + i * 3 + 2, none⟩ = some (.int .u64 xa) := HXC.out _ HB.out
          obtain ⟨d0, d1, d2⟩ := HBX.out _ HB.out
          have hlen1 : (wiL H ⟨hf, ht, ha⟩ i).length ≤ 20000 := by have := wi_len H ⟨hf, ht, ha⟩ i; have := HL.out; have := HLT.out; omega
          have hbs1 : w.heap.size + 1 ≤ wb.heap.size := by have := HB.out.size; have := HS1.out; omega
          go_wp2_with (at_builtin; refine Batch.wpList_append_any _ rfl _ _ 26 26 rfl (w.heap.size + 1) 50 50 i0 (.agg #[.int .i64 0, .int .i64 0, .int .u64 0]) 3 24 Tryz.underlying26 Tryz.underlying26 hi hz0 hz1 hz2 rfl (by decide) u5 (wiL H ⟨hf, ht, ha⟩ i).length (cellsL (wiL H ⟨hf, ht, ha⟩ i)) rfl (World.ownsRow.alloc HO.out _) (some ⟨wb.heap.size, 0, none⟩) 1 1 [.int .i64 xf, .int .i64 xt, .int .u64 xa] rfl rfl ?a1 ?b1 ?c1 ?d1 ?e1 ?_)
          case a1 => exact .inr ⟨_, rfl, World.news_of_block (cs := #[.int .i64 xf, .int .i64 xt, .int .u64 xa]) (heap_alloc_new wb _)⟩
          case b1 => first | exact ⟨rfl, rfl, rfl⟩ | (intro y hy; simp at hy; rcases hy with rfl | rfl | rfl <;> rfl)
          case c1 => unfold maxLen; omega
          case d1 => omega
          case e1 => first | omega | (simp; omega)
          intro vc wc hown hgrow hblk
          have HB2 := Lib.hid ((HB.out.alloc hbs1 _).grown hgrow (by simp; omega) (fun k e => (HO.out.lt k e).1))
          have HO2 : Hid (Own wc (w.heap.size + 1) 50 vc (wiL H ⟨hf, ht, ha⟩ i ++ [(⟨xf, xt, xa⟩ : Ed)])) := Lib.hid (by
            unfold Own
            rw [cellsL_snoc, List.length_append]
            exact hown)
          clear hown hgrow hblk hlen1 hbs1
          clear c0 c1 c2 d0 d1 d2
          replace HO2 := Lib.hid (show Own wc (w.heap.size + 1) 50 vc (wiL H ⟨hf, ht, ha⟩ (i + 1)) by rw [HLY.out.2]; exact HO2.out)
          go_wp2_with fail
          go_roundg (gk - 1)
          case measure => have := HIK.out; have := HLT.out; omega
          case rel => exact ⟨i + 1, false, by have := HIK.out; have := HLT.out; omega, by have := HLT.out; omega, by first | rfl | simp, rfl, Lib.hid (by rw [HLY.out.1]; rfl), HO2, HB2⟩
      | true =>
        have HLA : Hid (lowA (H.take i) ⟨hf, ht, ha⟩ = false) := Lib.hid (by have := HD.out; cases e : lowA (H.take i) ⟨hf, ht, ha⟩ with | false => rfl | true => rw [e] at this; cases this)
        obtain ⟨l0, l1, l2⟩ := wi_more HR.out HX.out HLA.out
        have HLY := Lib.hid (And.intro l1 l2)
        have hne : (xf == hf) = false := by rw [beq_eq_false_iff_ne]; have : hf < xf := l0; omega
        have hne2 : ¬ xf = hf := by have : hf < xf := l0; omega
        have hneb : (xf != hf) = true := by rw [bne_iff_ne]; exact hne2
        clear l0 l1 l2 HD hne2
        have HXC : Hid (∀ W, Below (w.heap.size + 1) W1 W → W.cell? ⟨bb, off + i * 3, none⟩ = some (.int .i64 xf) ∧ W.cell? ⟨bb, off + i * 3 + 1, none⟩ = some (.int .i64 xt) ∧ W.cell? ⟨bb, off + i * 3 + 2, none⟩ = some (.int .u64 xa)) := Lib.hid (fun W hW => by
          have q := (HC.out.resolve_left (fun h => by have := HX.out; rw [h.2] at this; simp at this))
          obtain ⟨b2, o2, e, q⟩ := q
          simp only [Option.some.injEq, Addr.mk.injEq, and_true] at e
          obtain ⟨rfl, rfl⟩ := e
          obtain ⟨e0, e1, e2⟩ := (q i _ HX.out).below (HB1.out.trans (hW.mono (Nat.le_succ _))) HBL.out
          exact ⟨e0, e1, e2⟩)
        go_upto_region 6 with fail
        refine wp_region_held_drew (S := (fun w' => w'.cell? ⟨bb, off + i * 3, none⟩ = some (.int .i64 xf) ∧ w'.cell? ⟨w.heap.size, 0, none⟩ = some (.int .i64 hf))) (by kernel_rfl) ?_ (fun hHeld => ?_)
        · ((try dsimp only); exact ⟨c0, d0⟩)
        refine wpAnyH_take (i := 0) (v := ?_) rfl (by kernel_rfl) (by kernel_rfl) (by kernel_rfl) (fun _ _ _ h => h) (Or.inl ⟨by rfl, ?_⟩) (by assumption) ?_
        rotate_left 1
        · (intro w hSw; (try dsimp only at hSw); first | (go_simp; done) | (go_simp; with_reducible rfl))
        try simp only [Act.put, List.setIfInBounds_toArray, List.set_cons_zero, List.set_cons_succ, List.getElem_toArray, List.getElem_cons_zero]
        refine wpAnyH_take (i := 1) (v := ?_) rfl (by kernel_rfl) (by kernel_rfl) (by kernel_rfl) (fun _ _ _ h => h) (Or.inl ⟨by rfl, ?_⟩) (by assumption) ?_
        rotate_left 1
        · (intro w hSw; (try dsimp only at hSw); first | (go_simp; done) | (go_simp; with_reducible rfl))
        try simp only [Act.put, List.setIfInBounds_toArray, List.set_cons_zero, List.set_cons_succ, List.getElem_toArray, List.getElem_cons_zero, List.getElem_cons_succ]
        refine wpAnyH_take (i := 2) (v := ?_) rfl (by kernel_rfl) (by kernel_rfl) (by kernel_rfl) (fun _ _ _ h => h) (Or.inl ⟨by rfl, ?_⟩) (by assumption) ?_
        rotate_left 1
        · (intro w hSw; (try dsimp only at hSw); first | (go_simp; done) | (go_simp; with_reducible rfl))
        try simp only [Act.put, List.setIfInBounds_toArray, List.set_cons_zero, List.set_cons_succ, List.getElem_toArray, List.getElem_cons_zero, List.getElem_cons_succ]
        refine wpAnyH_take (i := 3) (v := undef) rfl (by kernel_rfl) (by kernel_rfl) (by kernel_rfl) (fun _ _ _ h => h) (Or.inr ⟨by rfl, rfl⟩) (by assumption) ?_
        try simp only [Act.put, List.setIfInBounds_toArray, List.set_cons_zero, List.set_cons_succ, List.getElem_toArray, List.getElem_cons_zero, List.getElem_cons_succ]
        refine wpAnyH_take (i := 4) (v := undef) rfl (by kernel_rfl) (by kernel_rfl) (by kernel_rfl) (fun _ _ _ h => h) (Or.inr ⟨by rfl, rfl⟩) (by assumption) ?_
        try simp only [Act.put, List.setIfInBounds_toArray, List.set_cons_zero, List.set_cons_succ, List.getElem_toArray, List.getElem_cons_zero, List.getElem_cons_succ]
        refine wpAnyH_take (i := 5) (v := undef) rfl (by kernel_rfl) (by kernel_rfl) (by kernel_rfl) (fun _ _ _ h => h) (Or.inr ⟨by rfl, rfl⟩) (by assumption) ?_
        try simp only [Act.put, List.setIfInBounds_toArray, List.set_cons_zero, List.set_cons_succ, List.getElem_toArray, List.getElem_cons_zero, List.getElem_cons_succ]
        refine wpAnyH_take (i := 6) (v := undef) rfl (by kernel_rfl) (by kernel_rfl) (by kernel_rfl) (fun _ _ _ h => h) (Or.inr ⟨by rfl, rfl⟩) (by assumption) ?_
        try simp only [Act.put, List.setIfInBounds_toArray, List.set_cons_zero, List.set_cons_succ, List.getElem_toArray, List.getElem_cons_zero, List.getElem_cons_succ]
        refine wpAnyH_take (i := 7) (v := undef) rfl (by kernel_rfl) (by kernel_rfl) (by kernel_rfl) (fun _ _ _ h => h) (Or.inr ⟨by rfl, rfl⟩) (by assumption) ?_
        try simp only [Act.put, List.setIfInBounds_toArray, List.set_cons_zero, List.set_cons_succ, List.getElem_toArray, List.getElem_cons_zero, List.getElem_cons_succ]
        refine wpAnyH_take (i := 8) (v := undef) rfl (by kernel_rfl) (by kernel_rfl) (by kernel_rfl) (fun _ _ _ h => h) (Or.inr ⟨by rfl, rfl⟩) (by assumption) ?_
        try simp only [Act.put, List.setIfInBounds_toArray, List.set_cons_zero, List.set_cons_succ, List.getElem_toArray, List.getElem_cons_zero, List.getElem_cons_succ]
        refine wpAnyH_take (i := 9) (v := undef) rfl (by kernel_rfl) (by kernel_rfl) (by kernel_rfl) (fun _ _ _ h => h) (Or.inr ⟨by rfl, rfl⟩) (by assumption) ?_
        try simp only [Act.put, List.setIfInBounds_toArray, List.set_cons_zero, List.set_cons_succ, List.getElem_toArray, List.getElem_cons_zero, List.getElem_cons_succ]
        refine wpAnyH_take (i := 10) (v := undef) rfl (by kernel_rfl) (by kernel_rfl) (by kernel_rfl) (fun _ _ _ h => h) (Or.inr ⟨by rfl, rfl⟩) (by assumption) ?_
        try simp only [Act.put, List.setIfInBounds_toArray, List.set_cons_zero, List.set_cons_succ, List.getElem_toArray, List.getElem_cons_zero, List.getElem_cons_succ]
        refine wpAnyH_take (i := 11) (v := ?_) rfl (by kernel_rfl) (by kernel_rfl) (by kernel_rfl) (fun _ _ _ h => h) (Or.inl ⟨by rfl, ?_⟩) (by assumption) ?_
        rotate_left 1
        · (intro w hSw; (try dsimp only at hSw); first | (go_simp; done) | (go_simp; with_reducible rfl))
        try simp only [Act.put, List.setIfInBounds_toArray, List.set_cons_zero, List.set_cons_succ, List.getElem_toArray, List.getElem_cons_zero, List.getElem_cons_succ]
        refine wpAnyH_done (by kernel_rfl) ?_ _
        replace HO : Hid (Own wr.drew (w.heap.size + 1) 50 u5 (wiL H ⟨hf, ht, ha⟩ i)) := Lib.hid (HO.out.draw 1)
        replace HB := Lib.hid (HB.out.drew)
        generalize wr.drew = wa at *
        clear c0 c1 c2 d0 d1 d2
        obtain ⟨c0, c1, c2⟩ : wa.cell? ⟨bb, off + i * 3, none⟩ = some (.int .i64 xf) ∧ wa.cell? ⟨bb, off + i * 3 + 1, none⟩ = some (.int .i64 xt) ∧ wa.cell? ⟨bb, off + i * 3 + 2, none⟩ = some (.int .u64 xa) := HXC.out _ HB.out
        obtain ⟨d0, d1, d2⟩ := HBX.out _ HB.out
        go_upto_region 9 with fail
        refine wp_region_held_drew (S := (fun w' => w'.cell? ⟨bb, off + i * 3, none⟩ = some (.int .i64 xf) ∧ w'.cell? ⟨w.heap.size, 0, none⟩ = some (.int .i64 hf))) (by kernel_rfl) ?_ (fun hHeld => ?_)
        · ((try dsimp only); exact ⟨c0, d0⟩)
        refine wpAnyH_take (i := 0) (v := ?_) rfl (by kernel_rfl) (by kernel_rfl) (by kernel_rfl) (fun _ _ _ h => h) (Or.inl ⟨by rfl, ?_⟩) (by assumption) ?_
        rotate_left 1
        · (intro w hSw; (try dsimp only at hSw); first | (go_simp; done) | (go_simp; with_reducible rfl))
        try simp only [Act.put, List.setIfInBounds_toArray, List.set_cons_zero, List.set_cons_succ, List.getElem_toArray, List.getElem_cons_zero]
        refine wpAnyH_take (i := 1) (v := ?_) rfl (by kernel_rfl) (by kernel_rfl) (by kernel_rfl) (fun _ _ _ h => h) (Or.inl ⟨by rfl, ?_⟩) (by assumption) ?_
        rotate_left 1
        · (intro w hSw; (try dsimp only at hSw); first | (go_simp; done) | (go_simp; with_reducible rfl))
        try simp only [Act.put, List.setIfInBounds_toArray, List.set_cons_zero, List.set_cons_succ, List.getElem_toArray, List.getElem_cons_zero, List.getElem_cons_succ]
        refine wpAnyH_take (i := 2) (v := ?_) rfl (by kernel_rfl) (by kernel_rfl) (by kernel_rfl) (fun _ _ _ h => h) (Or.inl ⟨by rfl, ?_⟩) (by assumption) ?_
        rotate_left 1
        · (intro w hSw; (try dsimp only at hSw); first | (go_simp; done) | (go_simp; with_reducible rfl))
        try simp only [Act.put, List.setIfInBounds_toArray, List.set_cons_zero, List.set_cons_succ, List.getElem_toArray, List.getElem_cons_zero, List.getElem_cons_succ]
        refine wpAnyH_take (i := 3) (v := ?_) rfl (by kernel_rfl) (by kernel_rfl) (by kernel_rfl) (fun _ _ _ h => h) (Or.inl ⟨by rfl, ?_⟩) (by assumption) ?_
        rotate_left 1
        · (intro w hSw; (try dsimp only at hSw); first | (go_simp; done) | (go_simp; with_reducible rfl))
        try simp only [Act.put, List.setIfInBounds_toArray, List.set_cons_zero, List.set_cons_succ, List.getElem_toArray, List.getElem_cons_zero, List.getElem_cons_succ]
        refine wpAnyH_take (i := 4) (v := ?_) rfl (by kernel_rfl) (by kernel_rfl) (by kernel_rfl) (fun _ _ _ h => h) (Or.inl ⟨by rfl, ?_⟩) (by assumption) ?_
        rotate_left 1
        · (intro w hSw; (try dsimp only at hSw); first | (go_simp; done) | (go_simp; with_reducible rfl))
        try simp only [Act.put, List.setIfInBounds_toArray, List.set_cons_zero, List.set_cons_succ, List.getElem_toArray, List.getElem_cons_zero, List.getElem_cons_succ]
        refine wpAnyH_take (i := 5) (v := ?_) rfl (by kernel_rfl) (by kernel_rfl) (by kernel_rfl) (fun _ _ _ h => h) (Or.inl ⟨by rfl, ?_⟩) (by assumption) ?_
        rotate_left 1
        · (intro w hSw; (try dsimp only at hSw); first | (go_simp; done) | (go_simp; with_reducible rfl))
        try simp only [Act.put, List.setIfInBounds_toArray, List.set_cons_zero, List.set_cons_succ, List.getElem_toArray, List.getElem_cons_zero, List.getElem_cons_succ]
        refine wpAnyH_take (i := 6) (v := ?_) rfl (by kernel_rfl) (by kernel_rfl) (by kernel_rfl) (fun _ _ _ h => h) (Or.inl ⟨by rfl, ?_⟩) (by assumption) ?_
        rotate_left 1
        · (intro w hSw; (try dsimp only at hSw); first | (go_simp; done) | (go_simp; with_reducible rfl))
        try simp only [Act.put, List.setIfInBounds_toArray, List.set_cons_zero, List.set_cons_succ, List.getElem_toArray, List.getElem_cons_zero, List.getElem_cons_succ]
        refine wpAnyH_take (i := 7) (v := ?_) rfl (by kernel_rfl) (by kernel_rfl) (by kernel_rfl) (fun _ _ _ h => h) (Or.inl ⟨by rfl, ?_⟩) (by assumption) ?_
        rotate_left 1
        · (intro w hSw; (try dsimp only at hSw); first | (go_simp; done) | (go_simp; with_reducible rfl))
        try simp only [Act.put, List.setIfInBounds_toArray, List.set_cons_zero, List.set_cons_succ, List.getElem_toArray, List.getElem_cons_zero, List.getElem_cons_succ]
        refine wpAnyH_done (by kernel_rfl) ?_ _
        replace HO : Hid (Own wa.drew (w.heap.size + 1) 50 u5 (wiL H ⟨hf, ht, ha⟩ i)) := Lib.hid (HO.out.draw 1)
        replace HB := Lib.hid (HB.out.drew)
        generalize wa.drew = wb at *
        clear c0 c1 c2 d0 d1 d2
        obtain ⟨c0, c1, c2⟩ : wb.cell? ⟨bb, off + i * 3, none⟩ = some (.int .i64 xf) ∧ wb.cell? ⟨bb, off + i * 3 + 1, none⟩ = some (.int .i64 xt) ∧ wb.cell? ⟨bb, off + i * 3 + 2, none⟩ = some (.int .u64 xa) := HXC.out _ HB.out
        obtain ⟨d0, d1, d2⟩ := HBX.out _ HB.out
        have hlen2 : (wiL H ⟨hf, ht, ha⟩ i).length ≤ 20000 := by have := wi_len H ⟨hf, ht, ha⟩ i; have := HL.out; have := HLT.out; omega
        have hbs2 : w.heap.size + 1 ≤ wb.heap.size := by have := HB.out.size; have := HS1.out; omega
        go_wp2_with (at_builtin; refine Batch.wpList_append_any _ rfl _ _ 26 26 rfl (w.heap.size + 1) 50 50 i0 (.agg #[.int .i64 0, .int .i64 0, .int .u64 0]) 3 24 Tryz.underlying26 Tryz.underlying26 hi hz0 hz1 hz2 rfl (by decide) u5 (wiL H ⟨hf, ht, ha⟩ i).length (cellsL (wiL H ⟨hf, ht, ha⟩ i)) rfl (World.ownsRow.alloc HO.out _) (some ⟨wb.heap.size, 0, none⟩) 1 1 [.int .i64 xf, .int .i64 xt, .int .u64 xa] rfl rfl ?a2 ?b2 ?c2 ?d2 ?e2 ?_)
        case a2 => exact .inr ⟨_, rfl, World.news_of_block (cs := #[.int .i64 xf, .int .i64 xt, .int .u64 xa]) (heap_alloc_new wb _)⟩
        case b2 => first | exact ⟨rfl, rfl, rfl⟩ | (intro y hy; simp at hy; rcases hy with rfl | rfl | rfl <;> rfl)
        case c2 => unfold maxLen; omega
        case d2 => omega
        case e2 => first | omega | (simp; omega)
        intro vc wc hown hgrow hblk
        have HB2 := Lib.hid ((HB.out.alloc hbs2 _).grown hgrow (by simp; omega) (fun k e => (HO.out.lt k e).1))
        have HO2 : Hid (Own wc (w.heap.size + 1) 50 vc (wiL H ⟨hf, ht, ha⟩ i ++ [(⟨xf, xt, xa⟩ : Ed)])) := Lib.hid (by
          unfold Own
          rw [cellsL_snoc, List.length_append]
          exact hown)
        clear hown hgrow hblk hlen2 hbs2
        clear c0 c1 c2 d0 d1 d2
        replace HO2 := Lib.hid (show Own wc (w.heap.size + 1) 50 vc (wiL H ⟨hf, ht, ha⟩ (i + 1)) by rw [HLY.out.2]; exact HO2.out)
        go_wp2_with fail
        go_roundg (gk - 1)
        case measure => have := HIK.out; have := HLT.out; omega
        case rel => exact ⟨i + 1, true, by have := HIK.out; have := HLT.out; omega, by have := HLT.out; omega, by first | rfl | simp, rfl, Lib.hid (by rw [HLY.out.1]; rfl), HO2, HB2⟩
    · have hlt' : ¬ (i : Int) < (H.length : Int) := by omega
      obtain rfl : i = H.length := by omega
      cases b with
      | false =>
        have HLA : Hid (lowA H ⟨hf, ht, ha⟩ = true) := Lib.hid (by have := HD.out; rw [List.take_length] at this; cases e : lowA H ⟨hf, ht, ha⟩ with | true => rfl | false => rw [e] at this; cases this)
        have HOE : Hid (Own wr (w.heap.size + 1) 50 u5 H) := Lib.hid (by have := HO.out; unfold wiL at this; rw [List.take_length, if_pos HLA.out] at this; exact this)
        obtain ⟨d0, d1, d2⟩ := HBX.out _ HB.out
        clear HD HO hlt
        have hlen5 : (H).length ≤ 20000 := by have := HL.out; omega
        have hbs5 : w.heap.size + 1 ≤ wr.heap.size := by have := HB.out.size; have := HS1.out; omega
        go_wp2_with (at_builtin; refine Batch.wpList_append_any _ rfl _ _ 26 26 rfl (w.heap.size + 1) 50 50 i0 (.agg #[.int .i64 0, .int .i64 0, .int .u64 0]) 3 24 Tryz.underlying26 Tryz.underlying26 hi hz0 hz1 hz2 rfl (by decide) u5 (H).length (cellsL (H)) rfl (World.ownsRow.alloc HOE.out _) (some ⟨wr.heap.size, 0, none⟩) 1 1 [.int .i64 hf, .int .i64 ht, .int .u64 ha] rfl rfl ?a5 ?b5 ?c5 ?d5 ?e5 ?_)
        case a5 => exact .inr ⟨_, rfl, World.news_of_block (cs := #[.int .i64 hf, .int .i64 ht, .int .u64 ha]) (heap_alloc_new wr _)⟩
        case b5 => first | exact ⟨rfl, rfl, rfl⟩ | (intro y hy; simp at hy; rcases hy with rfl | rfl | rfl <;> rfl)
        case c5 => unfold maxLen; omega
        case d5 => omega
        case e5 => first | omega | (simp; omega)
        intro vc wc hown hgrow hblk
        have HB2 := Lib.hid ((HB.out.alloc hbs5 _).grown hgrow (by simp; omega) (fun k e => (HOE.out.lt k e).1))
        have HO2 : Hid (Own wc (w.heap.size + 1) 50 vc (H ++ [(⟨hf, ht, ha⟩ : Ed)])) := Lib.hid (by
          unfold Own
          rw [cellsL_snoc, List.length_append]
          exact hown)
        clear hown hgrow hblk hlen5 hbs5
        clear d0 d1 d2
        go_wp2_with fail
        go_ret
        exact ⟨_, rfl, by rw [with_low HLA.out]; exact HO2.out.mono (Nat.le_succ _), HB1.out.trans (HB2.out.mono (Nat.le_succ _))⟩
      | true =>
        have HLA : Hid (lowA H ⟨hf, ht, ha⟩ = false) := Lib.hid (by have := HD.out; rw [List.take_length] at this; cases e : lowA H ⟨hf, ht, ha⟩ with | false => rfl | true => rw [e] at this; cases this)
        clear HD hlt
        go_wp2_with fail
        go_ret
        exact ⟨_, rfl, by have := HO.out; rw [wi_end HLA.out] at this; exact this.mono (Nat.le_succ _), HBW.out⟩
end Go.Proofs.YtlkljeedlkbkgaaGreatDoor.Cl
