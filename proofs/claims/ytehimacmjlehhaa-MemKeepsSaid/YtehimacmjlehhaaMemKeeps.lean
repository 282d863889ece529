/-
  THE WALK OF THE LAW MemKeeps.
-/
import Derived.Test.YtehimacmjlehhaaMemArr
import Derived.Test.YtehimacmjlehhaaBatchLawMath
import Derived.Test.YtehimacmjlehhaaFrOpenL
import Derived.Test.YtehimacmjlehhaaBatchTo
namespace Go.Proofs.Ytehimacmjlehhaa.Mm
open Go.RowKit Rw Pk Go.Maps
set_option linter.unusedVariables false

theorem u64_at1 {w : World} {b o : Nat} {g : Int} (h : AtK u64K w b o g) : w.cell? ⟨b, o, none⟩ = some (.int .u64 g) := h 0 _ (by decide) rfl
theorem rdl_at {w : World} {ao : Option Addr} {n cap : Nat} {L : List (List Batch.Ch)} (h : Fr.RdL w (.slice ao n cap) L) {i : Nat} {l : List Batch.Ch} (hl : L[i]? = some l) : ∃ b off u, ao = some ⟨b, off, none⟩ ∧ w.cell? ⟨b, off + i, none⟩ = some u ∧ Batch.Rd w u l := by
  obtain ⟨ao', cap', hv, _, h4⟩ := h
  simp only [Value.slice.injEq] at hv
  obtain ⟨rfl, _, rfl⟩ := hv
  rcases h4 with rfl | ⟨b, off, rfl, h4⟩
  · simp at hl
  · obtain ⟨u, hu, hr⟩ := h4 i l hl
    exact ⟨b, off, u, rfl, hu, hr⟩
theorem bown_rd {w : World} {base : Nat} {T : TypeId} {v : Value} {l : List Batch.Ch} (h : Batch.Own w base T v l) (hw : ∀ x ∈ l, x.Wf) : Batch.Rd w v l := Batch.Own.rd h hw
theorem row_own {w : World} {v : Value} {l : List Batch.Ch} {τ : Nat → Nat} {t : Nat} {T : TypeId} (h : Row chK w τ t T v l) : Batch.Own w 0 T v l := h.1

theorem same_yes {w : World} {v1 v2 : Value} {a : List Batch.Ch} (h1 : Batch.Rd w v1 a) (h2 : Batch.Rd w v2 a) : Calls Try.prog 18 #[v1, v2] w fun e w' => e = .returned (.bool true) ∧ Below w.heap.size w w' :=
  (Batch.refsame_any h1 h2).mono fun _ _ ⟨h, hb⟩ => ⟨by rw [h]; exact pbool (Batch.eqL_self a), hb⟩
theorem kp_start {w w1 w2 : World} {p : Nat} {τ : Nat → Nat} (hm : MemAt τ w1 p (initS 5 5 0)) (ht : ∀ j, j < w.heap.size → τ j = 0) (hb1 : Below w.heap.size w w1) (hb2 : Below w1.heap.size w1 w2) :
    Kp w.heap.size p w2.heap.size (w2.heap.size + 1) w (List.replicate 5 0) (List.replicate 5 0) (List.replicate 5 []) (List.replicate 5 []) (List.replicate 5 ⟨none, 0, 0⟩) 0 ((w2.alloc (.cells #[.int .u64 0, .int .u64 0, .int .u64 0, .int .u64 0, .int .u64 0] 64)).alloc (.cells #[.slice none 0 0, .slice none 0 0, .slice none 0 0, .slice none 0 0, .slice none 0 0] 65)) := by
  have hm2 := hm.below hb2
  have h1 := hb1.size
  have h2 := hb2.size
  have hb3 : Below w2.heap.size w2 ((w2.alloc (.cells #[.int .u64 0, .int .u64 0, .int .u64 0, .int .u64 0, .int .u64 0] 64)).alloc (.cells #[.slice none 0 0, .slice none 0 0, .slice none 0 0, .slice none 0 0, .slice none 0 0] 65)) := ((Below.refl _ _).alloc (Nat.le_refl _) _).alloc (by simp) _
  refine ⟨τ, _, hm2.below hb3, good_init 5 5 0, rfl, rfl, fun _ => rfl, ht, by simp; omega, (hb1.trans (hb2.mono h1)).trans (hb3.mono (by omega)), by omega, by omega, ⟨hm2.zero (Nat.le_refl _), hm2.zero (Nat.le_succ _), by omega, ?_, ?_, rfl, rfl, rfl, fun j s l hs hl => ?_⟩⟩
  · rw [heap_alloc_old _ _ (by simp)]; exact heap_alloc_new w2 _
  · have := heap_alloc_new (w2.alloc (.cells #[.int .u64 0, .int .u64 0, .int .u64 0, .int .u64 0, .int .u64 0] 64)) (.cells #[.slice none 0 0, .slice none 0 0, .slice none 0 0, .slice none 0 0, .slice none 0 0] 65)
    rw [World.size_alloc] at this
    exact this
  · obtain rfl := (List.mem_replicate.1 (List.mem_of_getElem? hs)).2
    obtain rfl := (List.mem_replicate.1 (List.mem_of_getElem? hl)).2
    exact ⟨⟨Own.nil (S := chK) _ _ _, fun g hg => by simp [Value.ownBlock, Sv.val] at hg⟩, by simp [Value.ownBlock, Sv.val], by simp [Value.ownBlock, Sv.val]⟩
set_option maxRecDepth 1000000 in
set_option maxHeartbeats 16000000 in
theorem memKeeps_any {w : World} {v1 v2 v3 : Value} {V : List Int} {L : List (List Batch.Ch)} {A : List Int} (hv : Rr u64K w v1 V) (hl : Fr.RdL w v2 L) (ha : Rr intK w v3 A) :
    Calls Try.prog 5 #[v1, v2, v3] w fun e w' => e = .returned (.bool true) ∧ Below w.heap.size w w' := by
  have HV := Lib.hid hv
  have HL := Lib.hid hl
  have HA := Lib.hid ha
  obtain ⟨vo, vc, rfl, hv1, hv2⟩ := hv.form
  obtain ⟨ao, ac, rfl, ha1, ha2⟩ := ha.form
  obtain ⟨lo, lc, rfl, hl1, _⟩ := hl
  have hlV : V.length ≤ 9223372036854775807 := by omega
  have hlA : A.length ≤ 9223372036854775807 := by omega
  clear hv ha hv1 ha1
  go_enter Try.func5, Try.ntmps5
  go_wp2_with fail
  go_at_call 12
  refine (memNew_any 5 5 0 (by decide) (by decide) (by decide) _).mono ?_
  rintro e w1 ⟨p, τ, rfl, hm, ht, hb⟩
  have HM := Lib.hid hm
  have HTT := Lib.hid ht
  have HB1 := Lib.hid hb
  clear hm ht hb
  go_wp2_with fail
  go_at_call 14
  refine (mtold_any _).mono ?_
  rintro e w2 ⟨rfl, hbt⟩
  have HB2 := Lib.hid hbt
  clear hbt
  go_wp2_with fail
  have hK0 : Kp w.heap.size p w2.heap.size (w2.heap.size + 1) w (List.replicate 5 0) (List.replicate 5 0) (List.replicate 5 []) (List.replicate 5 []) (List.replicate 5 ⟨none, 0, 0⟩) 0 ((w2.alloc (.cells #[.int .u64 0, .int .u64 0, .int .u64 0, .int .u64 0, .int .u64 0] 64)).alloc (.cells #[.slice none 0 0, .slice none 0 0, .slice none 0 0, .slice none 0 0, .slice none 0 0] 65)) :=
    kp_start HM.out HTT.out HB1.out HB2.out
  have HK0 := Lib.hid hK0
  clear hK0 HM HTT HB1
  go_loopg [11] 100 (fun k t wr => ∃ (i : Nat) (W : List Int) (B : List (List Batch.Ch)) (bv : List Sv), i + k = 100 ∧ i ≤ A.length ∧ t = .int .i64 (i : Int) ∧ Hid (Kp w.heap.size p w2.heap.size (w2.heap.size + 1) w W W B B bv (5 * i) wr))
  case atStart => exact ⟨0, _, _, _, rfl, by omega, rfl, HK0⟩
  case round =>
    obtain ⟨i, W, B, bv, hik, hil, rfl, HK⟩ := hrel
    have HIK := Lib.hid hik
    have hi3 : i ≤ 100 := by omega
    have hi0 : (0 : Int) ≤ (i : Int) := Int.natCast_nonneg _
    clear hik HK0
    by_cases hend : i < A.length ∧ i < 100
    · obtain ⟨h1, h2⟩ := hend
      have h1' : (i : Int) < (A.length : Int) := by omega
      have h2' : (i : Int) < 100 := by omega
      have HEND := Lib.hid h1
      have HEND2 := Lib.hid h2
      obtain ⟨x, hx⟩ : ∃ x, A[i]? = some x := ⟨_, List.getElem?_eq_getElem h1⟩
      obtain ⟨b, off, rfl, hbl, qx⟩ := HA.out.at hx
      have c0 := at1 (qx.below HK.out.kept hbl)
      simp only [intK_k, Nat.mul_one] at c0
      have hm9 := whoF_in (p := x) (m := 5) (by decide)
      obtain ⟨k, hk⟩ : ∃ k : Nat, whoF x 5 = (k : Int) := ⟨(whoF x 5).toNat, by omega⟩
      have hk5 : k < 5 := by omega
      have hke : wrap64 ((IntKind.u64.wrap x).tmod 5) = (k : Int) := by rw [← hk]; exact whoF_of (by decide) (by decide)
      obtain ⟨j, hj⟩ : ∃ j : Nat, j = 4 - k := ⟨_, rfl⟩
      have hj5 : j < 5 := by omega
      have hje : (4 : Int) - (k : Int) = (j : Int) := by omega
      have hk0 : (0 : Int) ≤ (k : Int) := Int.natCast_nonneg _
      have hk6 : (k : Int) < 5 := by omega
      have hj0 : (0 : Int) ≤ (j : Int) := Int.natCast_nonneg _
      have hj6 : (j : Int) < 5 := by omega
      clear hx qx hm9 hk hj h1 h2 hbl
      go_upto_if 47 with fail
      clear c0
      try simp only [hke]
      go_cut [12] from 27 to 112 (fun s wx => s = .int .i64 (k : Int) ∧ ∃ W', Hid (Kp w.heap.size p w2.heap.size (w2.heap.size + 1) w W' W' B B bv (5 * i + 1) wx))
      case first =>
        by_cases hvl : i < V.length
        · obtain ⟨y, hy⟩ : ∃ y, V[i]? = some y := ⟨_, List.getElem?_eq_getElem hvl⟩
          obtain ⟨b', off', rfl, hbl', qy⟩ := HV.out.at hy
          have HQ : ∀ wx, Below w.heap.size w wx → Hid (wx.cell? ⟨b', off' + i, none⟩ = some (.int .u64 y)) := fun wx hwx => by
            have c0 := u64_at1 (qy.below hwx hbl')
            simp only [show u64K.k = 1 from rfl, Nat.mul_one] at c0
            exact Lib.hid c0
          have hcell := (HQ wr HK.out.kept).out
          have hvl' : (i : Int) < (V.length : Int) := by omega
          have HQQ := Lib.hid HQ
          clear hy qy HQ hbl'
          go_wp2_with fail
          go_at_call 26
          refine (kp_store HK.out (by omega) ⟨by omega, by omega⟩ hk5 y).mono ?_
          rintro e w3 ⟨rfl, hk1⟩
          have hcell3 := (HQQ.out w3 hk1.kept).out
          obtain ⟨z0, z1, _, _⟩ := hk1.cells hk5
          have HN := Lib.hid (hk1.word hk5 y)
          clear hcell hk1
          go_wp2_with fail
          go_meet
          exact ⟨rfl, _, HN⟩
        · have hvl' : ¬ (i : Int) < (V.length : Int) := by omega
          have HN := Lib.hid (HK.out.more (Nat.le_succ _))
          go_wp2_with fail
          go_meet
          exact ⟨rfl, _, HN⟩
      case rest =>
        obtain ⟨rfl, W2, HK2⟩ := hcut
        clear HK
        go_upto_if 65 with fail
        go_cut [12] from 27 to 112 (fun s wx => s = .int .i64 (k : Int) ∧ ∃ B' bv, Hid (Kp w.heap.size p w2.heap.size (w2.heap.size + 1) w W2 W2 B' B' bv (5 * i + 2) wx))
        case first =>
          by_cases hll : i < L.length
          · obtain ⟨l, hl⟩ : ∃ l, L[i]? = some l := ⟨_, List.getElem?_eq_getElem hll⟩
            obtain ⟨b', off', u, rfl, hu, hr⟩ := rdl_at HL.out hl
            have hcell := (HK2.out.kept.cell (p := ⟨b', off' + i, none⟩) (Lib.lt_of_cell hu)).trans hu
            have HR := Lib.hid hr
            have HN := Lib.hid (Batch.fix_nice hr.wf)
            obtain ⟨uo, uc, rfl, _⟩ := id hr
            have hll' : (i : Int) < (L.length : Int) := by omega
            clear hl hu hr
            go_wp2_with fail
            go_at_call 15
            refine (Batch.fix_any (HR.out.below (HK2.out.kept))).mono ?_
            rintro e w3 ⟨vx, rfl, ho, hb⟩
            obtain ⟨xo, xn, xc, rfl⟩ := bown_form ho
            have HO := Lib.hid ho
            obtain ⟨_, _, ⟨s0, _, z0, _⟩, z1⟩ := (HK2.out.below hb).cells hj5
            have z0' : w3.cell? ⟨w2.heap.size + 1, j, none⟩ = some (.slice s0.ao s0.n s0.c) := z0
            have hkb := HK2.out.box hb hj5 (s := ⟨xo, xn, xc⟩) ho
            have HKB := Lib.hid hkb
            have HZ0 := Lib.hid z0'
            obtain ⟨_, _, ⟨s9, _, y0, _⟩, _⟩ := HK2.out.cells hj5
            have HO4 := Lib.hid (RowKit.ownsRow_setCell_below ho (a := ⟨w2.heap.size + 1, j, none⟩) (Lib.lt_of_cell y0) (.slice xo xn xc))
            have HBB := Lib.hid hb
            clear ho hb z0 y0 hkb
            go_wp2_with fail
            go_at_call 34
            have hbblt := Lib.lt_of_cell HZ0.out
            have ho4 := HO4.out
            refine (Batch.to_any (bown_rd ho4 HN.out.wf) (by have := HN.out.len; omega)).mono ?_
            rintro e w5 ⟨vt, rfl, hot, hbt⟩
            have HST := Lib.hid (Batch.Own.sl hot HN.out.wf)
            have HS := Lib.hid (kp_set HKB.out (by omega) hbt (who := (i : Int)) ⟨by omega, by omega⟩ hj5 (Batch.Own.sl hot HN.out.wf) ⟨by have := HN.out.len; omega, HN.out.wf⟩ (fun g e => (World.ownsRow.lt hot g e).1))
            clear hot hbt hbblt ho4
            go_wp2_with fail
            go_at_call 27
            refine HS.out.mono ?_
            rintro e w6 ⟨rfl, hk6'⟩
            have HN6 := Lib.hid hk6'
            clear hk6'
            go_wp2_with fail
            go_meet
            exact ⟨rfl, _, _, HN6⟩
          · have hll' : ¬ (i : Int) < (L.length : Int) := by omega
            have HN := Lib.hid (HK2.out.more (Nat.le_succ _))
            go_wp2_with fail
            go_meet
            exact ⟨rfl, _, _, HN⟩
        case rest =>
          obtain ⟨rfl, B2, bv2, HK⟩ := hcut
          clear HK2
          obtain ⟨_, _, ⟨s, hs, _, _⟩, _⟩ := HK.out.cells hj5
          have HCL : Hid (∀ (q : Nat) (wx : World), Kp w.heap.size p w2.heap.size (w2.heap.size + 1) w W2 W2 B2 B2 bv2 q wx → wx.cell? ⟨w2.heap.size, k, none⟩ = some (.int .u64 (W2.getD k 0)) ∧ wx.cell? ⟨w2.heap.size + 1, j, none⟩ = some (.slice s.ao s.n s.c)) := Lib.hid (fun q wx h => ⟨(h.cells hk5).1, h.cellB hs⟩)
          have HSR : Hid (∀ (q : Nat) (wx : World), Kp w.heap.size p w2.heap.size (w2.heap.size + 1) w W2 W2 B2 B2 bv2 q wx → Batch.Rd wx (.slice s.ao s.n s.c) (B2.getD j [])) := Lib.hid (fun q wx h => h.rd hj5 hs)
          have hne : (W2.getD k 0 != W2.getD k 0) = false := by simp
          have hcl0 := HCL.out _ _ (HK.out.below (Below.refl _ _).drew)
          have hq2 : 5 * i + 2 ≤ 90000 := by omega
          have hq3 : 5 * i + 2 + 1 ≤ 90000 := by omega
          have hq4 : 5 * i + 2 + 1 + 1 ≤ 90000 := by omega
          have hwj : IntKind.i64.wrap (j : Int) = (j : Int) := by rw [IntKind.wrap_i64]; omega
          clear hs
          go_upto_region 16 with fail
          replace HK := Lib.hid (HK.out.below (Below.refl _ _).drew)
          refine wp_region_held_drew (S := (fun w' => w'.cell? ⟨w2.heap.size, k, none⟩ = some (.int .u64 (W2.getD k 0)) ∧ w'.cell? ⟨w2.heap.size + 1, j, none⟩ = some (.slice s.ao s.n s.c))) (by kernel_rfl) ?_ (fun hHeld => ?_)
          · ((try dsimp only); exact hcl0)
          refine wpAnyH_take (i := 0) (v := ?_) rfl (by kernel_rfl) (by kernel_rfl) (by kernel_rfl) (fun _ _ _ h => h) (Or.inl ⟨by rfl, ?_⟩) (by assumption) ?_
          rotate_left 1
          · (intro w hSw; (try dsimp only at hSw); first | (go_simp; done) | (go_simp; with_reducible rfl))
          try simp only [Act.put, List.setIfInBounds_toArray, List.set_cons_zero, List.set_cons_succ, List.getElem_toArray, List.getElem_cons_zero]
          refine wpAnyH_take (i := 1) (v := ?_) rfl (by kernel_rfl) (by kernel_rfl) (by kernel_rfl) (fun _ _ _ h => h) (Or.inl ⟨by rfl, ?_⟩) (by assumption) ?_
          rotate_left 1
          · (intro w hSw; (try dsimp only at hSw); first | (go_simp; done) | (go_simp; with_reducible rfl))
          try simp only [Act.put, List.setIfInBounds_toArray, List.set_cons_zero, List.set_cons_succ, List.getElem_toArray, List.getElem_cons_zero, List.getElem_cons_succ]
          refine wpAnyH_take (i := 3) (v := ?_) rfl (by kernel_rfl) (by kernel_rfl) (by kernel_rfl) (fun _ _ _ h => h) (Or.inl ⟨by rfl, ?_⟩) (by assumption) ?_
          rotate_left 1
          · (intro w hSw; (try dsimp only at hSw); first | (go_simp; done) | (go_simp; with_reducible rfl))
          try simp only [Act.put, List.setIfInBounds_toArray, List.set_cons_zero, List.set_cons_succ, List.getElem_toArray, List.getElem_cons_zero, List.getElem_cons_succ]
          refine wpAnyH_take (i := 4) (v := ?_) rfl (by kernel_rfl) (by kernel_rfl) (by kernel_rfl) (fun _ _ _ h => h) (Or.inl ⟨by rfl, ?_⟩) (by assumption) ?_
          rotate_left 1
          · (intro w hSw; (try dsimp only at hSw); first | (go_simp; done) | (go_simp; with_reducible rfl))
          try simp only [Act.put, List.setIfInBounds_toArray, List.set_cons_zero, List.set_cons_succ, List.getElem_toArray, List.getElem_cons_zero, List.getElem_cons_succ]
          refine wpAnyH_take (i := 5) (v := ?_) rfl (by kernel_rfl) (by kernel_rfl) (by kernel_rfl) (fun _ _ _ h => h) (Or.inl ⟨by rfl, ?_⟩) (by assumption) ?_
          rotate_left 1
          · (intro w hSw; (try dsimp only at hSw); first | (go_simp; done) | (go_simp; with_reducible rfl))
          try simp only [Act.put, List.setIfInBounds_toArray, List.set_cons_zero, List.set_cons_succ, List.getElem_toArray, List.getElem_cons_zero, List.getElem_cons_succ]
          refine wpAnyH_ready (rs := [2]) (by kernel_rfl) (by simp) ?_
          refine AllReadyH.cons rfl (fun K hK => ?_) AllReadyH.nil
          go_simp
          go_at_call 28
          refine (kp_load HK.out (by assumption) ⟨by decide, by decide⟩ hk5).mono ?_
          rintro e wk ⟨rfl, hkk⟩
          replace HK := Lib.hid hkk
          have hcl := (HCL.out _ _ hkk)
          clear hkk
          try go_wp2_with fail
          refine hK.out _ _ ?_ (fun hHeld => ?_)
          · ((try dsimp only); exact hcl)
          clear hK K
          try simp only [Act.put, List.setIfInBounds_toArray, List.set_cons_zero, List.set_cons_succ, List.getElem_toArray, List.getElem_cons_zero, List.getElem_cons_succ]
          clear hcl
          refine wpAnyH_take (i := 6) (v := ?_) rfl (by kernel_rfl) (by kernel_rfl) (by kernel_rfl) (fun _ _ _ h => h) (Or.inl ⟨by rfl, ?_⟩) (by assumption) ?_
          rotate_left 1
          · (intro w hSw; (try dsimp only at hSw); first | (go_simp; done) | (go_simp; with_reducible rfl))
          try simp only [Act.put, List.setIfInBounds_toArray, List.set_cons_zero, List.set_cons_succ, List.getElem_toArray, List.getElem_cons_zero, List.getElem_cons_succ]
          refine wpAnyH_take (i := 7) (v := ?_) rfl (by kernel_rfl) (by kernel_rfl) (by kernel_rfl) (fun _ _ _ h => h) (Or.inl ⟨by rfl, ?_⟩) (by assumption) ?_
          rotate_left 1
          · (intro w hSw; (try dsimp only at hSw); first | (go_simp; done) | (go_simp; with_reducible rfl))
          try simp only [Act.put, List.setIfInBounds_toArray, List.set_cons_zero, List.set_cons_succ, List.getElem_toArray, List.getElem_cons_zero, List.getElem_cons_succ]
          refine wpAnyH_take (i := 8) (v := ?_) rfl (by kernel_rfl) (by kernel_rfl) (by kernel_rfl) (fun _ _ _ h => h) (Or.inl ⟨by rfl, ?_⟩) (by assumption) ?_
          rotate_left 1
          · (intro w hSw; (try dsimp only at hSw); first | (go_simp; done) | (go_simp; with_reducible rfl))
          try simp only [Act.put, List.setIfInBounds_toArray, List.set_cons_zero, List.set_cons_succ, List.getElem_toArray, List.getElem_cons_zero, List.getElem_cons_succ]
          refine wpAnyH_take (i := 9) (v := ?_) rfl (by kernel_rfl) (by kernel_rfl) (by kernel_rfl) (fun _ _ _ h => h) (Or.inl ⟨by rfl, ?_⟩) (by assumption) ?_
          rotate_left 1
          · (intro w hSw; (try dsimp only at hSw); first | (go_simp; done) | (go_simp; with_reducible rfl))
          try simp only [Act.put, List.setIfInBounds_toArray, List.set_cons_zero, List.set_cons_succ, List.getElem_toArray, List.getElem_cons_zero, List.getElem_cons_succ]
          refine wpAnyH_take (i := 11) (v := ?_) rfl (by kernel_rfl) (by kernel_rfl) (by kernel_rfl) (fun _ _ _ h => h) (Or.inl ⟨by rfl, ?_⟩) (by assumption) ?_
          rotate_left 1
          · (intro w hSw; (try dsimp only at hSw); first | (go_simp; done) | (go_simp; with_reducible rfl))
          try simp only [Act.put, List.setIfInBounds_toArray, List.set_cons_zero, List.set_cons_succ, List.getElem_toArray, List.getElem_cons_zero, List.getElem_cons_succ]
          refine wpAnyH_take (i := 12) (v := ?_) rfl (by kernel_rfl) (by kernel_rfl) (by kernel_rfl) (fun _ _ _ h => h) (Or.inl ⟨by rfl, ?_⟩) (by assumption) ?_
          rotate_left 1
          · (intro w hSw; (try dsimp only at hSw); first | (go_simp; done) | (go_simp; with_reducible rfl))
          try simp only [Act.put, List.setIfInBounds_toArray, List.set_cons_zero, List.set_cons_succ, List.getElem_toArray, List.getElem_cons_zero, List.getElem_cons_succ]
          refine wpAnyH_take (i := 13) (v := ?_) rfl (by kernel_rfl) (by kernel_rfl) (by kernel_rfl) (fun _ _ _ h => h) (Or.inl ⟨by rfl, ?_⟩) (by assumption) ?_
          rotate_left 1
          · (intro w hSw; (try dsimp only at hSw); first | (go_simp; done) | (go_simp; with_reducible rfl))
          try simp only [Act.put, List.setIfInBounds_toArray, List.set_cons_zero, List.set_cons_succ, List.getElem_toArray, List.getElem_cons_zero, List.getElem_cons_succ]
          refine wpAnyH_ready (rs := [10]) (by kernel_rfl) (by simp) ?_
          refine AllReadyH.cons rfl (fun K hK => ?_) AllReadyH.nil
          go_simp
          go_at_call 28
          refine (kp_load HK.out (by assumption) ⟨by decide, by decide⟩ hk5).mono ?_
          rintro e wk ⟨rfl, hkk⟩
          replace HK := Lib.hid hkk
          have hcl := (HCL.out _ _ hkk)
          clear hkk
          try go_wp2_with fail
          refine hK.out _ _ ?_ (fun hHeld => ?_)
          · ((try dsimp only); exact hcl)
          clear hK K
          try simp only [Act.put, List.setIfInBounds_toArray, List.set_cons_zero, List.set_cons_succ, List.getElem_toArray, List.getElem_cons_zero, List.getElem_cons_succ]
          clear hcl
          refine wpAnyH_take (i := 14) (v := ?_) rfl (by kernel_rfl) (by kernel_rfl) (by kernel_rfl) (fun _ _ _ h => h) (Or.inl ⟨by rfl, ?_⟩) (by assumption) ?_
          rotate_left 1
          · (intro w hSw; (try dsimp only at hSw); first | (go_simp; done) | (go_simp; with_reducible rfl))
          try simp only [Act.put, List.setIfInBounds_toArray, List.set_cons_zero, List.set_cons_succ, List.getElem_toArray, List.getElem_cons_zero, List.getElem_cons_succ]
          refine wpAnyH_take (i := 15) (v := ?_) rfl (by kernel_rfl) (by kernel_rfl) (by kernel_rfl) (fun _ _ _ h => h) (Or.inl ⟨by rfl, ?_⟩) (by assumption) ?_
          rotate_left 1
          · (intro w hSw; (try dsimp only at hSw); first | (go_simp; done) | (go_simp; with_reducible rfl))
          try simp only [Act.put, List.setIfInBounds_toArray, List.set_cons_zero, List.set_cons_succ, List.getElem_toArray, List.getElem_cons_zero, List.getElem_cons_succ]
          refine wpAnyH_take (i := 16) (v := ?_) rfl (by kernel_rfl) (by kernel_rfl) (by kernel_rfl) (fun _ _ _ h => h) (Or.inl ⟨by rfl, ?_⟩) (by assumption) ?_
          rotate_left 1
          · (intro w hSw; (try dsimp only at hSw); first | (go_simp; done) | (go_simp; with_reducible rfl))
          try simp only [Act.put, List.setIfInBounds_toArray, List.set_cons_zero, List.set_cons_succ, List.getElem_toArray, List.getElem_cons_zero, List.getElem_cons_succ]
          refine wpAnyH_take (i := 17) (v := ?_) rfl (by kernel_rfl) (by kernel_rfl) (by kernel_rfl) (fun _ _ _ h => h) (Or.inl ⟨by rfl, ?_⟩) (by assumption) ?_
          rotate_left 1
          · (intro w hSw; (try dsimp only at hSw); first | (go_simp; done) | (go_simp; with_reducible rfl))
          try simp only [Act.put, List.setIfInBounds_toArray, List.set_cons_zero, List.set_cons_succ, List.getElem_toArray, List.getElem_cons_zero, List.getElem_cons_succ]
          refine wpAnyH_take (i := 18) (v := ?_) rfl (by kernel_rfl) (by kernel_rfl) (by kernel_rfl) (fun _ _ _ h => h) (Or.inl ⟨by rfl, ?_⟩) (by assumption) ?_
          rotate_left 1
          · (intro w hSw; (try dsimp only at hSw); first | (go_simp; done) | (go_simp; with_reducible rfl))
          try simp only [Act.put, List.setIfInBounds_toArray, List.set_cons_zero, List.set_cons_succ, List.getElem_toArray, List.getElem_cons_zero, List.getElem_cons_succ]
          refine wpAnyH_take (i := 19) (v := ?_) rfl (by kernel_rfl) (by kernel_rfl) (by kernel_rfl) (fun _ _ _ h => h) (Or.inl ⟨by rfl, ?_⟩) (by assumption) ?_
          rotate_left 1
          · (intro w hSw; (try dsimp only at hSw); first | (go_simp; done) | (go_simp; with_reducible rfl))
          try simp only [Act.put, List.setIfInBounds_toArray, List.set_cons_zero, List.set_cons_succ, List.getElem_toArray, List.getElem_cons_zero, List.getElem_cons_succ]
          refine wpAnyH_take (i := 22) (v := ?_) rfl (by kernel_rfl) (by kernel_rfl) (by kernel_rfl) (fun _ _ _ h => h) (Or.inl ⟨by rfl, ?_⟩) (by assumption) ?_
          rotate_left 1
          · (intro w hSw; (try dsimp only at hSw); first | (go_simp; done) | (go_simp; with_reducible rfl))
          try simp only [Act.put, List.setIfInBounds_toArray, List.set_cons_zero, List.set_cons_succ, List.getElem_toArray, List.getElem_cons_zero, List.getElem_cons_succ]
          refine wpAnyH_take (i := 23) (v := ?_) rfl (by kernel_rfl) (by kernel_rfl) (by kernel_rfl) (fun _ _ _ h => h) (Or.inl ⟨by rfl, ?_⟩) (by assumption) ?_
          rotate_left 1
          · (intro w hSw; (try dsimp only at hSw); first | (go_simp; done) | (go_simp; with_reducible rfl))
          try simp only [Act.put, List.setIfInBounds_toArray, List.set_cons_zero, List.set_cons_succ, List.getElem_toArray, List.getElem_cons_zero, List.getElem_cons_succ]
          refine wpAnyH_take (i := 24) (v := ?_) rfl (by kernel_rfl) (by kernel_rfl) (by kernel_rfl) (fun _ _ _ h => h) (Or.inl ⟨by rfl, ?_⟩) (by assumption) ?_
          rotate_left 1
          · (intro w hSw; (try dsimp only at hSw); first | (go_simp; done) | (go_simp; with_reducible rfl))
          try simp only [Act.put, List.setIfInBounds_toArray, List.set_cons_zero, List.set_cons_succ, List.getElem_toArray, List.getElem_cons_zero, List.getElem_cons_succ]
          refine wpAnyH_take (i := 25) (v := ?_) rfl (by kernel_rfl) (by kernel_rfl) (by kernel_rfl) (fun _ _ _ h => h) (Or.inl ⟨by rfl, ?_⟩) (by assumption) ?_
          rotate_left 1
          · (intro w hSw; (try dsimp only at hSw); first | (go_simp; done) | (go_simp; with_reducible rfl))
          try simp only [Act.put, List.setIfInBounds_toArray, List.set_cons_zero, List.set_cons_succ, List.getElem_toArray, List.getElem_cons_zero, List.getElem_cons_succ]
          refine wpAnyH_ready (rs := [20]) (by kernel_rfl) (by simp) ?_
          refine AllReadyH.cons rfl (fun K hK => ?_) AllReadyH.nil
          go_simp
          go_at_call 29
          refine (kp_get HK.out (by assumption) ⟨by decide, by decide⟩ hj5).mono ?_
          rintro e wk ⟨vg, rfl, hog, hgw, hgl, hkk⟩
          have HRG := Lib.hid (bown_rd hog hgw)
          have HGL := Lib.hid hgl
          have HGW := Lib.hid hgw
          replace HK := Lib.hid hkk
          have hcl := (HCL.out _ _ hkk)
          clear hkk hog hgw hgl
          try go_wp2_with fail
          refine hK.out _ _ ?_ (fun hHeld => ?_)
          · ((try dsimp only); exact hcl)
          clear hK K
          try simp only [Act.put, List.setIfInBounds_toArray, List.set_cons_zero, List.set_cons_succ, List.getElem_toArray, List.getElem_cons_zero, List.getElem_cons_succ]
          clear hcl
          refine wpAnyH_ready (rs := [21]) (by kernel_rfl) (by simp) ?_
          refine AllReadyH.cons rfl (fun K hK => ?_) AllReadyH.nil
          go_simp
          go_at_call 19
          refine (Batch.from_any HRG.out (Nat.le_trans HGL.out (by decide))).mono ?_
          rintro e wk ⟨vf, rfl, hof, hbf⟩
          have HRF := Lib.hid (bown_rd hof HGW.out)
          have hkk := HK.out.below hbf
          replace HK := Lib.hid hkk
          have hcl := (HCL.out _ _ hkk)
          clear hkk hof hbf
          try go_wp2_with fail
          refine hK.out _ _ ?_ (fun hHeld => ?_)
          · ((try dsimp only); exact hcl)
          clear hK K
          try simp only [Act.put, List.setIfInBounds_toArray, List.set_cons_zero, List.set_cons_succ, List.getElem_toArray, List.getElem_cons_zero, List.getElem_cons_succ]
          clear hcl
          refine wpAnyH_ready (rs := [26]) (by kernel_rfl) (by simp) ?_
          refine AllReadyH.cons rfl (fun K hK => ?_) AllReadyH.nil
          go_simp
          go_at_call 18
          refine (same_yes HRF.out (HSR.out _ _ HK.out)).mono ?_
          rintro e wk ⟨rfl, hbs⟩
          have hkk := HK.out.below hbs
          replace HK := Lib.hid hkk
          have hcl := (HCL.out _ _ hkk)
          clear hkk hbs
          try go_wp2_with fail
          refine hK.out _ _ ?_ (fun hHeld => ?_)
          · ((try dsimp only); exact hcl)
          clear hK K
          try simp only [Act.put, List.setIfInBounds_toArray, List.set_cons_zero, List.set_cons_succ, List.getElem_toArray, List.getElem_cons_zero, List.getElem_cons_succ]
          clear hcl
          refine wpAnyH_take (i := 27) (v := ?_) rfl (by kernel_rfl) (by kernel_rfl) (by kernel_rfl) (fun _ _ _ h => h) (Or.inl ⟨by rfl, ?_⟩) (by assumption) ?_
          rotate_left 1
          · (intro w hSw; (try dsimp only at hSw); first | (go_simp; done) | (go_simp; with_reducible rfl))
          try simp only [Act.put, List.setIfInBounds_toArray, List.set_cons_zero, List.set_cons_succ, List.getElem_toArray, List.getElem_cons_zero, List.getElem_cons_succ]
          refine wpAnyH_take (i := 28) (v := ?_) rfl (by kernel_rfl) (by kernel_rfl) (by kernel_rfl) (fun _ _ _ h => h) (Or.inl ⟨by rfl, ?_⟩) (by assumption) ?_
          rotate_left 1
          · (intro w hSw; (try dsimp only at hSw); first | (go_simp; done) | (go_simp; with_reducible rfl))
          try simp only [Act.put, List.setIfInBounds_toArray, List.set_cons_zero, List.set_cons_succ, List.getElem_toArray, List.getElem_cons_zero, List.getElem_cons_succ]
          refine wpAnyH_done (by kernel_rfl) ?_ _
          go_wp2_with fail
          clear hwj hq2 hq3 hq4
          have HK5 := Lib.hid (HK.out.more (q' := 5 * (i + 1)) (by omega))
          go_roundg (gk - 1)
          case measure => have := HIK.out; have := HEND2.out; omega
          case rel => exact ⟨i + 1, _, _, _, by have := HIK.out; have := HEND2.out; omega, HEND.out, by go_num, HK5⟩
    · have HB := Lib.hid HK.out.kept
      by_cases hlt : i < A.length
      case' pos =>
        have hj0 : (i : Int) < (A.length : Int) := by omega
        have hj1 : ¬ ((i : Int) < 100) := by omega
      case' neg => have hj0 : ¬ ((i : Int) < (A.length : Int)) := by omega
      all_goals
        clear hend hlt HK
        go_wp2_with fail
        go_ret
        exact ⟨rfl, HB.out⟩
end Go.Proofs.Ytehimacmjlehhaa.Mm
