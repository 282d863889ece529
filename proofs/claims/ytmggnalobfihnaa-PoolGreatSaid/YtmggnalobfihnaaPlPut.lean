/-
  PACKAGE pool: a Put begins.
-/
import Derived.Test.YtmggnalobfihnaaPlEach
import Derived.Test.YtmggnalobfihnaaJoined11
import Derived.Deep.CutRange
import Derived.Deep.RegionHeldLaw
import Derived.Deep.AppendLies
import Derived.BigQuiet
namespace Go.Proofs.Ytmggnalobfihnaa.Pl
open Go.RowKit Rw Pk Go.Maps Mm
set_option linter.unusedVariables false
section
variable {w w' w1 : World} {S : Pi} {A A' : Pa} {n a s p i : Nat} {w0 wr : World} {fs fs' zs : List Nat} {P : List Int} {D D' : List (Int × Int)} {B B' : Nat → List Batch.Ch} {T l : List Batch.Ch} {M M' : Mm.St}
set_option maxRecDepth 1000000 in
set_option maxHeartbeats 16000000 in
theorem plput_any (h : Pq n w0 wr fs zs s S M w) {N : Nat} (hN : S.n = (N : Int)) (hN1 : 1 ≤ N) (hN8 : N ≤ 8) {v : Value} (hv : Batch.Sl w v l) (hl : l.length ≤ 1000) (hp : ∀ c ∈ l, 0 ≤ c.p ∧ c.p < 64) (who : Int) (hw : 0 ≤ who) :
    Calls Try.prog 9 #[.pointer (some ⟨s, 0, none⟩), .int .i64 who, v] w fun e w' => ∃ a, e = .returned (.pointer (some ⟨a, 0, none⟩)) ∧ w.heap.size ≤ a ∧ ∃ sv bx dv zs', (∀ j ∈ zs, j ∈ zs') ∧ (∀ j ∈ zs', j ∈ zs ∨ w.heap.size ≤ j) ∧ (∀ g, Blk ⟨s, who, false, sv, bx, dv, .slice none 0 0, 0, true, 0⟩ g → w.heap.size ≤ g) ∧
      Pg n w0 wr fs zs' a s S ⟨s, who, false, sv, bx, dv, .slice none 0 0, 0, true, 0⟩ (shP (shB N l) 8) (putD (shP (shB N l) 8)) (shB N l) [] M w' := by
  have HQ := Lib.hid h
  have HNO := Lib.hid (plnone_any h.pi)
  have HV := Lib.hid hv
  have HLL := Lib.hid hl
  have HPO := Lib.hid hp
  have HNN := Lib.hid (And.intro hN1 hN8)
  have HN64 : Hid (0 ≤ (N : Int) ∧ (N : Int) ≤ 9223372036854775807) := Lib.hid ⟨by omega, by omega⟩
  obtain ⟨s0, s1, s2, s3, s4⟩ := h.pi.cells
  rw [hN] at s4
  have HS4 : Hid (∀ (W : World), Below w.heap.size w W → W.cell? ⟨s, 4, none⟩ = some (.int .i64 (N : Int))) := by
    have hlt := h.pi.lt
    exact Lib.hid (fun W hW => (hW.cell (p := ⟨s, 4, none⟩) hlt).trans s4)
  obtain ⟨i0, hi, hz0, hz1, hz2⟩ := info_partsP infoCP
  obtain ⟨j0, hj, hy0, hy1, hy2⟩ := info_partsP infoIP
  obtain ⟨bo, bc, rfl, hv1⟩ := hv
  have HC := Lib.hid hv1
  have hlm : l.length ≤ 9223372036854775807 := by omega
  have h1 : ¬ who < 0 := by omega
  have hN0 : ((N : Int) == 0) = false := by rw [beq_eq_false_iff_ne]; omega
  clear h hN hN1 hN8 hl hp hw hv1 s0 s1 s2 s3 s4
  go_enter Try.func9, Try.ntmps9
  go_wp2_with fail
  go_at_call 29
  refine HNO.out.mono ?_
  rintro e w2 ⟨rfl, rfl⟩
  go_upto_region 4 with fail
  have hn := heap_alloc_new w (.cells #[.pointer (some ⟨s, 0, none⟩), .int .i64 who, .bool false, .slice none 0 0, .slice none 0 0, .slice none 0 0, .slice none 0 0, .slice none 0 0, .slice none 0 0, .slice none 0 0, .slice none 0 0, .slice none 0 0, .slice none 0 0, .slice none 0 0, .int .u64 0, .bool true, .int .i64 0] 71)
  have HP0 : Hid (Pb w (w.alloc (.cells #[.pointer (some ⟨s, 0, none⟩), .int .i64 who, .bool false, .slice none 0 0, .slice none 0 0, .slice none 0 0, .slice none 0 0, .slice none 0 0, .slice none 0 0, .slice none 0 0, .slice none 0 0, .slice none 0 0, .slice none 0 0, .slice none 0 0, .int .u64 0, .bool true, .int .i64 0] 71)) w.heap.size ⟨s, who, false, .slice none 0 0, fun _ => .slice none 0 0, .slice none 0 0, .slice none 0 0, 0, true, 0⟩ [] (shB N [])) :=
    Lib.hid ⟨hn, Own.nil _ _ _, fun i _ => Batch.Own.nil _ _ _, (Below.refl _ _).alloc (Nat.le_refl _) _, Nat.le_refl _, by simp [Value.ownBlock], fun i _ => by simp [Value.ownBlock], fun i j _ _ _ g hg => by simp [Value.ownBlock] at hg, fun i _ g hg => by simp [Value.ownBlock] at hg⟩
  clear hn
  generalize hX : w.heap.size = a at *
  replace hX := Lib.hid hX
  generalize w.alloc (.cells #[.pointer (some ⟨s, 0, none⟩), .int .i64 who, .bool false, .slice none 0 0, .slice none 0 0, .slice none 0 0, .slice none 0 0, .slice none 0 0, .slice none 0 0, .slice none 0 0, .slice none 0 0, .slice none 0 0, .slice none 0 0, .slice none 0 0, .int .u64 0, .bool true, .int .i64 0] 71) = W0 at *
  go_wp2_with fail
  go_loopg [25] (l.length + 1) (fun k t wr => ∃ (i : Nat) (bx : Nat → Value), i + k = l.length + 1 ∧ i ≤ l.length ∧ t = .int .i64 (i : Int) ∧ Hid (Pb w wr a ⟨s, who, false, .slice none 0 0, bx, .slice none 0 0, .slice none 0 0, 0, true, 0⟩ [] (shB N (l.take i))))
  case atStart => exact ⟨0, _, by omega, by omega, rfl, HP0⟩
  case round =>
    obtain ⟨i, bx, hik, hil, rfl, HP⟩ := hrel
    have HIK := Lib.hid hik
    clear hik HP0
    by_cases hlt1 : i < l.length
    · obtain ⟨x, hx, hxm⟩ := Batch.at_of hlt1
      have HX := Lib.hid hx
      have hpx := HPO.out x hxm
      obtain ⟨b, off, rfl, hcc⟩ := HC.out.1.resolve_left (fun h => by rw [h.2] at hlt1; simp at hlt1)
      have q3 := hcc i x hx
      have hbl := q3.lt
      obtain ⟨c0, c1, c2⟩ := q3.below HP.out.bel hbl
      have HLT := Lib.hid hlt1
      have hi0' : (0 : Int) ≤ (i : Int) := Int.natCast_nonneg _
      have hi1 : (i : Int) < (l.length : Int) := by omega
      obtain ⟨q, hq⟩ : ∃ q : Nat, x.p % (N : Int) = (q : Int) := ⟨(x.p % (N : Int)).toNat, by have := Int.emod_nonneg x.p (show (N : Int) ≠ 0 by have := HNN.out.1; omega); omega⟩
      have hqN : q < N := by have := Int.emod_lt_of_pos x.p (show (0 : Int) < (N : Int) by have := HNN.out.1; omega); omega
      have hq8 : q < 8 := by have := HNN.out.2; omega
      have hnz : ¬ (N : Int) = 0 := by have := HNN.out; omega
      have hwi : IntKind.i64.wrap ((i : Int) + 1) = (i : Int) + 1 := w_id ⟨by omega, by omega⟩
      have hum : IntKind.u64.wrap (x.p) = x.p := u_id ⟨hpx.1, by omega⟩
      have hun : IntKind.u64.wrap (N : Int) = (N : Int) := u_id HN64.out
      have htm : x.p.tmod (N : Int) = (q : Int) := by rw [Int.tmod_eq_emod_of_nonneg hpx.1]; exact hq
      have hwq : IntKind.i64.wrap (q : Int) = (q : Int) := w_id (i64_nat hq8)
      have hwq2 : wrap64 (q : Int) = (q : Int) := w64_id (i64_nat hq8)
      have hq0 : (0 : Int) ≤ (q : Int) := Int.natCast_nonneg _
      have hq1 : (q : Int) < 8 := Int.ofNat_lt.2 hq8
      have HQ8 := Lib.hid (And.intro hq8 hq)
      obtain ⟨p, t, d⟩ := x
      simp only at c0 c1 c2 hum htm
      have s4 := HS4.out _ (hX.out ▸ HP.out.bel)
      have hsl := Lib.lt_of_cell s4
      have HXD : Hid (∀ i x, l[i]? = some x → Batch.At3 w b (off + i * 3) x) := Lib.hid hcc
      clear hx hxm hcc hbl hlt1 hpx hqN hq hq8 HC
      go_upto_region 7 with fail
      have hn := heap_alloc_new wr (.cells #[.int .i64 p, .int .u64 t, .int .i64 d] 58)
      have x0 : (wr.alloc (.cells #[.int .i64 p, .int .u64 t, .int .i64 d] 58)).cell? ⟨wr.heap.size, 0, none⟩ = some (.int .i64 p) := cell_of_row _ _ _ _ _ _ hn
      have x1 : (wr.alloc (.cells #[.int .i64 p, .int .u64 t, .int .i64 d] 58)).cell? ⟨wr.heap.size, 1, none⟩ = some (.int .u64 t) := cell_of_row _ _ _ _ _ _ hn
      have x2 : (wr.alloc (.cells #[.int .i64 p, .int .u64 t, .int .i64 d] 58)).cell? ⟨wr.heap.size, 2, none⟩ = some (.int .i64 d) := cell_of_row _ _ _ _ _ _ hn
      have HP1 := Lib.hid (HP.out.more ((Below.refl _ _).alloc (Nat.le_refl _) (.cells #[.int .i64 p, .int .u64 t, .int .i64 d] 58)))
      have hXlt : wr.heap.size < (wr.alloc (.cells #[.int .i64 p, .int .u64 t, .int .i64 d] 58)).heap.size := (Array.getElem?_eq_some_iff.1 hn).1
      have s4 := HS4.out _ (hX.out ▸ HP1.out.bel)
      have hXa : wr.heap.size ≠ a := by have := HP.out.pa.lt; omega
      have HXV : Hid (w.heap.size ≤ wr.heap.size) := Lib.hid HP.out.bel.size
      have HXB0 : Hid (∀ j, j < 8 → (bx j).ownBlock ≠ some wr.heap.size) := Lib.hid (fun j hj e => by have := (World.ownsRow.lt (HP.out.bx j hj) _ e).2; omega)
      clear hn c0 c1 c2 HP
      generalize hXX : wr.heap.size = X at *
      replace hXX := Lib.hid hXX
      generalize wr.alloc (.cells #[.int .i64 p, .int .u64 t, .int .i64 d] 58) = Wc at *
      go_quiet (fail)
      go_wp2_with fail
      have HP2 := Lib.hid (HP1.out.more (below_drewN (Below.refl _ _) nq))
      have x0' : (Wc.drewN nq).cell? ⟨X, 0, none⟩ = some (.int .i64 p) := x0
      have x1' : (Wc.drewN nq).cell? ⟨X, 1, none⟩ = some (.int .u64 t) := x1
      have x2' : (Wc.drewN nq).cell? ⟨X, 2, none⟩ = some (.int .i64 d) := x2
      have hXlt' : X < (Wc.drewN nq).heap.size := hXlt
      clear x0 x1 x2 HP1 s4 hXlt
      generalize Wc.drewN nq = Wd at *
      have HP3 := Lib.hid (HP2.out.more ((Below.refl _ _).drew))
      obtain ⟨k0, k1, k2, k3, k12, k13, k14, k15, k16, kf⟩ := HP3.out.pa.cells
      have kb := HP3.out.pa.boxAt HQ8.out.1
      have x0 : Wd.drew.cell? ⟨X, 0, none⟩ = some (.int .i64 p) := x0'
      have x1 : Wd.drew.cell? ⟨X, 1, none⟩ = some (.int .u64 t) := x1'
      have x2 : Wd.drew.cell? ⟨X, 2, none⟩ = some (.int .i64 d) := x2'
      have hown : Wd.drew.ownsRow w.heap.size 58 3 (bx q) (shB N (l.take i) q).length (Batch.cellsL (shB N (l.take i) q)) := HP3.out.bx q HQ8.out.1
      have hlen : (shB N (l.take i) q).length ≤ 1000 := Nat.le_trans shB_len (Nat.le_trans (by simp; omega) HLL.out)
      have HLEN := Lib.hid hlen
      have HNB : Hid ((bx q).ownBlock ≠ some a) := Lib.hid (HP3.out.nb q HQ8.out.1)
      have HBLT : Hid (∀ g, (bx q).ownBlock = some g → w.heap.size ≤ g ∧ g < Wd.drew.heap.size) := Lib.hid (fun g e => World.ownsRow.lt hown g e)
      have HXB : Hid ((bx q).ownBlock ≠ some X) := Lib.hid (HXB0.out q HQ8.out.1)
      obtain ⟨bq, nq', cq, hbq⟩ : ∃ ao n c, bx q = .slice ao n c := own_open2 hown
      have HBQ := Lib.hid hbq
      rw [show ((⟨s, who, false, .slice none 0 0, bx, .slice none 0 0, .slice none 0 0, 0, true, 0⟩ : Pa)).bx q = bx q from rfl, hbq] at kb
      rw [hbq] at hown
      have HOWN := Lib.hid hown
      clear hown hlen hbq x0' x1' x2'
      refine wp_region_held_drew (S := (fun w' => w'.cell? ⟨X, 0, none⟩ = some (.int .i64 p) ∧ w'.cell? ⟨X, 1, none⟩ = some (.int .u64 t) ∧ w'.cell? ⟨X, 2, none⟩ = some (.int .i64 d))) (by kernel_rfl) ?_ (fun hHeld => ?_)
      · ((try dsimp only); exact ⟨x0, x1, x2⟩)
      refine wpAnyH_take (i := 0) (v := ?_) rfl (by kernel_rfl) (by kernel_rfl) (by kernel_rfl) (fun _ _ _ h => h) (Or.inl ⟨by rfl, ?_⟩) (by assumption) ?_
      rotate_left 1
      · (intro w hSw; (try dsimp only at hSw); first | (go_simp; done) | (go_simp; with_reducible rfl))
      try simp only [Act.put, List.setIfInBounds_toArray, List.set_cons_zero, List.set_cons_succ, List.getElem_toArray, List.getElem_cons_zero]
      refine wpAnyH_take (i := 1) (v := ?_) rfl (by kernel_rfl) (by kernel_rfl) (by kernel_rfl) (fun _ _ _ h => h) (Or.inl ⟨by rfl, ?_⟩) (by assumption) ?_
      rotate_left 1
      · (intro w hSw; (try dsimp only at hSw); first | (go_simp; done) | (go_simp; with_reducible rfl))
      try simp only [Act.put, List.setIfInBounds_toArray, List.set_cons_zero, List.set_cons_succ, List.getElem_toArray, List.getElem_cons_zero, List.getElem_cons_succ]
      refine wpAnyH_take (i := 2) (v := ?_) rfl (by kernel_rfl) (by kernel_rfl) (by kernel_rfl) (fun _ _ _ h => h) (Or.inl ⟨by rfl, ?_⟩) (by assumption) ?_
      rotate_left 1
      · (intro w hSw; (try dsimp only at hSw); first | (go_simp; done) | (go_simp; with_reducible rfl))
      try simp only [Act.put, List.setIfInBounds_toArray, List.set_cons_zero, List.set_cons_succ, List.getElem_toArray, List.getElem_cons_zero, List.getElem_cons_succ]
      refine wpAnyH_take (i := 3) (v := ?_) rfl (by kernel_rfl) (by kernel_rfl) (by kernel_rfl) (fun _ _ _ h => h) (Or.inl ⟨by rfl, ?_⟩) (by assumption) ?_
      rotate_left 1
      · (intro w hSw; (try dsimp only at hSw); first | (go_simp; done) | (go_simp; with_reducible rfl))
      try simp only [Act.put, List.setIfInBounds_toArray, List.set_cons_zero, List.set_cons_succ, List.getElem_toArray, List.getElem_cons_zero, List.getElem_cons_succ]
      refine wpAnyH_take (i := 4) (v := ?_) rfl (by kernel_rfl) (by kernel_rfl) (by kernel_rfl) (fun _ _ _ h => h) (Or.inl ⟨by rfl, ?_⟩) (by assumption) ?_
      rotate_left 1
      · (intro w hSw; (try dsimp only at hSw); first | (go_simp; done) | (go_simp; with_reducible rfl))
      try simp only [Act.put, List.setIfInBounds_toArray, List.set_cons_zero, List.set_cons_succ, List.getElem_toArray, List.getElem_cons_zero, List.getElem_cons_succ]
      refine wpAnyH_take (i := 5) (v := ?_) rfl (by kernel_rfl) (by kernel_rfl) (by kernel_rfl) (fun _ _ _ h => h) (Or.inl ⟨by rfl, ?_⟩) (by assumption) ?_
      rotate_left 1
      · (intro w hSw; (try dsimp only at hSw); first | (go_simp; done) | (go_simp; with_reducible rfl))
      try simp only [Act.put, List.setIfInBounds_toArray, List.set_cons_zero, List.set_cons_succ, List.getElem_toArray, List.getElem_cons_zero, List.getElem_cons_succ]
      refine wpAnyH_take (i := 6) (v := ?_) rfl (by kernel_rfl) (by kernel_rfl) (by kernel_rfl) (fun _ _ _ h => h) (Or.inl ⟨by rfl, ?_⟩) (by assumption) ?_
      rotate_left 1
      · (intro w hSw; (try dsimp only at hSw); first | (go_simp; done) | (go_simp; with_reducible rfl))
      try simp only [Act.put, List.setIfInBounds_toArray, List.set_cons_zero, List.set_cons_succ, List.getElem_toArray, List.getElem_cons_zero, List.getElem_cons_succ]
      refine wpAnyH_take (i := 8) (v := ?_) rfl (by kernel_rfl) (by kernel_rfl) (by kernel_rfl) (fun _ _ _ h => h) (Or.inl ⟨by rfl, ?_⟩) (by assumption) ?_
      rotate_left 1
      · (intro w hSw; (try dsimp only at hSw); first | (go_simp; done) | (go_simp; with_reducible rfl))
      try simp only [Act.put, List.setIfInBounds_toArray, List.set_cons_zero, List.set_cons_succ, List.getElem_toArray, List.getElem_cons_zero, List.getElem_cons_succ]
      refine wpAnyH_take (i := 11) (v := ?_) rfl (by kernel_rfl) (by kernel_rfl) (by kernel_rfl) (fun _ _ _ h => h) (Or.inl ⟨by rfl, ?_⟩) (by assumption) ?_
      rotate_left 1
      · (intro w hSw; (try dsimp only at hSw); first | (go_simp; done) | (go_simp; with_reducible rfl))
      try simp only [Act.put, List.setIfInBounds_toArray, List.set_cons_zero, List.set_cons_succ, List.getElem_toArray, List.getElem_cons_zero, List.getElem_cons_succ]
      refine wpAnyH_take (i := 12) (v := ?_) rfl (by kernel_rfl) (by kernel_rfl) (by kernel_rfl) (fun _ _ _ h => h) (Or.inl ⟨by rfl, ?_⟩) (by assumption) ?_
      rotate_left 1
      · (intro w hSw; (try dsimp only at hSw); first | (go_simp; done) | (go_simp; with_reducible rfl))
      try simp only [Act.put, List.setIfInBounds_toArray, List.set_cons_zero, List.set_cons_succ, List.getElem_toArray, List.getElem_cons_zero, List.getElem_cons_succ]
      refine wpAnyH_ready (rs := [7, 9]) (by kernel_rfl) (by simp) ?_
      refine AllReadyH.cons rfl (fun K hK => ?_) (AllReadyH.cons rfl (fun K hK => ?_) AllReadyH.nil)
      · go_simp
        try go_wp2_with fail
        refine hK.out _ _ ?_ (fun hHeld => ?_)
        · exact ⟨x0, x1, x2⟩
        clear hK K
        try simp only [Act.put, List.setIfInBounds_toArray, List.set_cons_zero, List.set_cons_succ, List.getElem_toArray, List.getElem_cons_zero, List.getElem_cons_succ]
        refine wpAnyH_ready (rs := [9]) (by kernel_rfl) (by simp) ?_
        refine AllReadyH.cons rfl (fun K hK => ?_) AllReadyH.nil
        go_simp
        try go_wp2_with fail
        refine hK.out _ _ ?_ (fun hHeld => ?_)
        · exact ⟨(World.cell?_alloc_lt _ _ _ hXlt').trans x0, (World.cell?_alloc_lt _ _ _ hXlt').trans x1, (World.cell?_alloc_lt _ _ _ hXlt').trans x2⟩
        clear hK K
        try simp only [Act.put, List.setIfInBounds_toArray, List.set_cons_zero, List.set_cons_succ, List.getElem_toArray, List.getElem_cons_zero, List.getElem_cons_succ]
        refine wpAnyH_ready (rs := [10]) (by kernel_rfl) (by simp) ?_
        refine AllReadyH.cons rfl (fun K hK => ?_) AllReadyH.nil
        refine step_append_lies _ (by rfl) _ _ _ (by rfl) w.heap.size 58 i0 _ 3 24 Try.underlying50 hi hz0 hz1 hz2 rfl (by omega) (.slice bq nq' cq) (shB N (l.take i) q).length (Batch.cellsL (shB N (l.take i) q)) (by rfl) (HOWN.out.alloc _)
            ⟨Wd.drew.heap.size, 0, none⟩ 1 1 [.int .i64 p, .int .u64 t, .int .i64 d] (by rfl) (by rfl) (World.news_of_block (cs := #[.int .i64 p, .int .u64 t, .int .i64 d]) (t := 58) (fr := (0, 0)) (heap_alloc_new Wd.drew _)) (by simp [Value.oneCell'])
            (by omega) (by have := HLEN.out; unfold maxLen; omega) (by have := HLEN.out; omega) (by have := HP3.out.bel.size; have hd : Wd.drew.heap.size = Wd.heap.size := rfl; simp; omega) (Wd.drew.heap.size + 1) (by simp) ?_
        intro gg cap1 w6 hown6 hgrow hat hlt
        have hgr : Wd.drew.grownBy w6 (bx q).ownBlock := by
          rw [HBQ.out]
          exact ⟨hgrow.os, hgrow.tape, hgrow.output, by have := hgrow.size; have hd : Wd.drew.heap.size = Wd.heap.size := rfl; simp at this; omega, fun j hj hn => (hgrow.block j (by have hd : Wd.drew.heap.size = Wd.heap.size := rfl; simp; omega) hn).trans (heap_alloc_old Wd.drew _ hj)⟩
        have hX6 : ∀ o, w6.cell? ⟨X, o, none⟩ = Wd.drew.cell? ⟨X, o, none⟩ := fun o => World.cell?_of_block (w := Wd.drew) (a := ⟨X, o, none⟩) (hgr.block X hXlt' (fun e => by have := (HP3.out.bx q HQ8.out.1); exact HXB.out e.symm))
        have hc6 := (HP3.out.pa.of_block (hgr.block a (HP3.out.pa.lt) (fun e => HNB.out e.symm)))
        obtain ⟨m0, m1, m2, m3, m12, m13, m14, m15, m16, mf⟩ := hc6.cells
        have mb := hc6.boxAt HQ8.out.1
        have HP6 := Lib.hid (HP3.out.addB HQ8.out.1 (v := .slice (some ⟨gg, 0, none⟩) ((shB N (l.take i) q).length + 1) cap1) (l := shB N (l.take i) q ++ [⟨p, t, d⟩]) hgr (by
          unfold Batch.Own
          rw [List.length_append, Batch.cellsL_append]
          exact hown6) (fun g hg => by
          obtain rfl : gg = g := by simpa [Value.ownBlock] using hg
          rcases hat with e | e
          · left
            show (bx q).ownBlock = some gg
            rw [HBQ.out]
            exact e
          · right
            omega))
        rw [← shB_snoc (N := N) HX.out HQ8.out.2] at HP6
        refine hK.out _ _ ?_ (fun hHeld => ?_)
        · exact ⟨(hX6 0).trans x0, (hX6 1).trans x1, (hX6 2).trans x2⟩
        clear hK K hown6 hgrow hat hlt
        try simp only [Act.put, List.setIfInBounds_toArray, List.set_cons_zero, List.set_cons_succ, List.getElem_toArray, List.getElem_cons_zero, List.getElem_cons_succ]
        refine wpAnyH_take (i := 13) (v := ?_) rfl (by kernel_rfl) (by kernel_rfl) (by kernel_rfl) (fun _ _ _ h => h) (Or.inl ⟨by rfl, ?_⟩) (by assumption) ?_
        rotate_left 1
        · (intro w hSw; (try dsimp only at hSw); first | (go_simp; done) | (go_simp; with_reducible rfl))
        try simp only [Act.put, List.setIfInBounds_toArray, List.set_cons_zero, List.set_cons_succ, List.getElem_toArray, List.getElem_cons_zero, List.getElem_cons_succ]
        refine wpAnyH_ready (rs := [14]) (by kernel_rfl) (by simp) ?_
        refine AllReadyH.cons rfl (fun K hK => ?_) AllReadyH.nil
        go_simp
        try go_wp2_with fail
        refine hK.out _ _ ?_ (fun hHeld => ?_)
        · exact ⟨(World.cell?_setCell_far _ _ _ _ (Ne.symm hXa)).trans ((hX6 0).trans x0), (World.cell?_setCell_far _ _ _ _ (Ne.symm hXa)).trans ((hX6 1).trans x1), (World.cell?_setCell_far _ _ _ _ (Ne.symm hXa)).trans ((hX6 2).trans x2)⟩
        clear hK K
        try simp only [Act.put, List.setIfInBounds_toArray, List.set_cons_zero, List.set_cons_succ, List.getElem_toArray, List.getElem_cons_zero, List.getElem_cons_succ]
        refine wpAnyH_done (by kernel_rfl) ?_ _
        clear hgr hX6 hc6 m0 m1 m2 m3 m12 m13 m14 m15 m16 mf mb
        go_wp2_with fail
        go_roundg (gk - 1)
        case measure => have := HIK.out; have := HLT.out; omega
        case rel => exact ⟨i + 1, _, by have := HIK.out; have := HLT.out; omega, by have := HLT.out; omega, by simp, HP6⟩
      · go_simp
        try go_wp2_with fail
        refine hK.out _ _ ?_ (fun hHeld => ?_)
        · exact ⟨(World.cell?_alloc_lt _ _ _ hXlt').trans x0, (World.cell?_alloc_lt _ _ _ hXlt').trans x1, (World.cell?_alloc_lt _ _ _ hXlt').trans x2⟩
        clear hK K
        try simp only [Act.put, List.setIfInBounds_toArray, List.set_cons_zero, List.set_cons_succ, List.getElem_toArray, List.getElem_cons_zero, List.getElem_cons_succ]
        have kb' : (Wd.alloc (.cells #[.int .i64 p, .int .u64 t, .int .i64 d] 58)).drew.cell? ⟨a, 4 + q, none⟩ = some (.slice bq nq' cq) := (World.cell?_alloc_lt _ _ _ HP3.out.pa.lt).trans kb
        refine wpAnyH_ready (rs := [7]) (by kernel_rfl) (by simp) ?_
        refine AllReadyH.cons rfl (fun K hK => ?_) AllReadyH.nil
        go_simp
        try go_wp2_with fail
        refine hK.out _ _ ?_ (fun hHeld => ?_)
        · exact ⟨(World.cell?_alloc_lt _ _ _ hXlt').trans x0, (World.cell?_alloc_lt _ _ _ hXlt').trans x1, (World.cell?_alloc_lt _ _ _ hXlt').trans x2⟩
        clear hK K
        try simp only [Act.put, List.setIfInBounds_toArray, List.set_cons_zero, List.set_cons_succ, List.getElem_toArray, List.getElem_cons_zero, List.getElem_cons_succ]
        refine wpAnyH_ready (rs := [10]) (by kernel_rfl) (by simp) ?_
        refine AllReadyH.cons rfl (fun K hK => ?_) AllReadyH.nil
        refine step_append_lies _ (by rfl) _ _ _ (by rfl) w.heap.size 58 i0 _ 3 24 Try.underlying50 hi hz0 hz1 hz2 rfl (by omega) (.slice bq nq' cq) (shB N (l.take i) q).length (Batch.cellsL (shB N (l.take i) q)) (by rfl) (HOWN.out.alloc _)
            ⟨Wd.drew.heap.size, 0, none⟩ 1 1 [.int .i64 p, .int .u64 t, .int .i64 d] (by rfl) (by rfl) (World.news_of_block (cs := #[.int .i64 p, .int .u64 t, .int .i64 d]) (t := 58) (fr := (0, 0)) (heap_alloc_new Wd.drew _)) (by simp [Value.oneCell'])
            (by omega) (by have := HLEN.out; unfold maxLen; omega) (by have := HLEN.out; omega) (by have := HP3.out.bel.size; have hd : Wd.drew.heap.size = Wd.heap.size := rfl; simp; omega) (Wd.drew.heap.size + 1) (by simp) ?_
        intro gg cap1 w6 hown6 hgrow hat hlt
        have hgr : Wd.drew.grownBy w6 (bx q).ownBlock := by
          rw [HBQ.out]
          exact ⟨hgrow.os, hgrow.tape, hgrow.output, by have := hgrow.size; have hd : Wd.drew.heap.size = Wd.heap.size := rfl; simp at this; omega, fun j hj hn => (hgrow.block j (by have hd : Wd.drew.heap.size = Wd.heap.size := rfl; simp; omega) hn).trans (heap_alloc_old Wd.drew _ hj)⟩
        have hX6 : ∀ o, w6.cell? ⟨X, o, none⟩ = Wd.drew.cell? ⟨X, o, none⟩ := fun o => World.cell?_of_block (w := Wd.drew) (a := ⟨X, o, none⟩) (hgr.block X hXlt' (fun e => by have := (HP3.out.bx q HQ8.out.1); exact HXB.out e.symm))
        have hc6 := (HP3.out.pa.of_block (hgr.block a (HP3.out.pa.lt) (fun e => HNB.out e.symm)))
        obtain ⟨m0, m1, m2, m3, m12, m13, m14, m15, m16, mf⟩ := hc6.cells
        have mb := hc6.boxAt HQ8.out.1
        have HP6 := Lib.hid (HP3.out.addB HQ8.out.1 (v := .slice (some ⟨gg, 0, none⟩) ((shB N (l.take i) q).length + 1) cap1) (l := shB N (l.take i) q ++ [⟨p, t, d⟩]) hgr (by
          unfold Batch.Own
          rw [List.length_append, Batch.cellsL_append]
          exact hown6) (fun g hg => by
          obtain rfl : gg = g := by simpa [Value.ownBlock] using hg
          rcases hat with e | e
          · left
            show (bx q).ownBlock = some gg
            rw [HBQ.out]
            exact e
          · right
            omega))
        rw [← shB_snoc (N := N) HX.out HQ8.out.2] at HP6
        refine hK.out _ _ ?_ (fun hHeld => ?_)
        · exact ⟨(hX6 0).trans x0, (hX6 1).trans x1, (hX6 2).trans x2⟩
        clear hK K hown6 hgrow hat hlt
        try simp only [Act.put, List.setIfInBounds_toArray, List.set_cons_zero, List.set_cons_succ, List.getElem_toArray, List.getElem_cons_zero, List.getElem_cons_succ]
        refine wpAnyH_take (i := 13) (v := ?_) rfl (by kernel_rfl) (by kernel_rfl) (by kernel_rfl) (fun _ _ _ h => h) (Or.inl ⟨by rfl, ?_⟩) (by assumption) ?_
        rotate_left 1
        · (intro w hSw; (try dsimp only at hSw); first | (go_simp; done) | (go_simp; with_reducible rfl))
        try simp only [Act.put, List.setIfInBounds_toArray, List.set_cons_zero, List.set_cons_succ, List.getElem_toArray, List.getElem_cons_zero, List.getElem_cons_succ]
        refine wpAnyH_ready (rs := [14]) (by kernel_rfl) (by simp) ?_
        refine AllReadyH.cons rfl (fun K hK => ?_) AllReadyH.nil
        go_simp
        try go_wp2_with fail
        refine hK.out _ _ ?_ (fun hHeld => ?_)
        · exact ⟨(World.cell?_setCell_far _ _ _ _ (Ne.symm hXa)).trans ((hX6 0).trans x0), (World.cell?_setCell_far _ _ _ _ (Ne.symm hXa)).trans ((hX6 1).trans x1), (World.cell?_setCell_far _ _ _ _ (Ne.symm hXa)).trans ((hX6 2).trans x2)⟩
        clear hK K
        try simp only [Act.put, List.setIfInBounds_toArray, List.set_cons_zero, List.set_cons_succ, List.getElem_toArray, List.getElem_cons_zero, List.getElem_cons_succ]
        refine wpAnyH_done (by kernel_rfl) ?_ _
        clear hgr hX6 hc6 m0 m1 m2 m3 m12 m13 m14 m15 m16 mf mb
        go_wp2_with fail
        go_roundg (gk - 1)
        case measure => have := HIK.out; have := HLT.out; omega
        case rel => exact ⟨i + 1, _, by have := HIK.out; have := HLT.out; omega, by have := HLT.out; omega, by simp, HP6⟩
    · have hie : i = l.length := by omega
      subst hie
      have HPE : Hid (Pb w wr a ⟨s, who, false, .slice none 0 0, bx, .slice none 0 0, .slice none 0 0, 0, true, 0⟩ [] (shB N l)) := Lib.hid (by have := HP.out; rwa [List.take_length] at this)
      have hlt' : ¬ ((l.length : Int) < (l.length : Int)) := by omega
      clear hlt1 HP HIK hil
      obtain ⟨a0, n0, e0, hb0, hn0⟩ := own_len (HPE.out.bx 0 (by decide))
      obtain ⟨a1, n1, e1, hb1, hn1⟩ := own_len (HPE.out.bx 1 (by decide))
      obtain ⟨a2, n2, e2, hb2, hn2⟩ := own_len (HPE.out.bx 2 (by decide))
      obtain ⟨a3, n3, e3, hb3, hn3⟩ := own_len (HPE.out.bx 3 (by decide))
      obtain ⟨a4, n4, e4, hb4, hn4⟩ := own_len (HPE.out.bx 4 (by decide))
      obtain ⟨a5, n5, e5, hb5, hn5⟩ := own_len (HPE.out.bx 5 (by decide))
      obtain ⟨a6, n6, e6, hb6, hn6⟩ := own_len (HPE.out.bx 6 (by decide))
      obtain ⟨a7, n7, e7, hb7, hn7⟩ := own_len (HPE.out.bx 7 (by decide))
      obtain ⟨k0, k1, k2, k3, k12, k13, k14, k15, k16, kf⟩ := HPE.out.pa.cells
      obtain ⟨g0, g1, g2, g3, g4, g5, g6, g7⟩ := HPE.out.pa.boxes
      have g0' : wr.cell? ⟨a, 4, none⟩ = some (.slice a0 n0 e0) := g0.trans (congrArg some hb0)
      have HB0 := Lib.hid (And.intro hb0 hn0)
      have g1' : wr.cell? ⟨a, 5, none⟩ = some (.slice a1 n1 e1) := g1.trans (congrArg some hb1)
      have HB1 := Lib.hid (And.intro hb1 hn1)
      have g2' : wr.cell? ⟨a, 6, none⟩ = some (.slice a2 n2 e2) := g2.trans (congrArg some hb2)
      have HB2 := Lib.hid (And.intro hb2 hn2)
      have g3' : wr.cell? ⟨a, 7, none⟩ = some (.slice a3 n3 e3) := g3.trans (congrArg some hb3)
      have HB3 := Lib.hid (And.intro hb3 hn3)
      have g4' : wr.cell? ⟨a, 8, none⟩ = some (.slice a4 n4 e4) := g4.trans (congrArg some hb4)
      have HB4 := Lib.hid (And.intro hb4 hn4)
      have g5' : wr.cell? ⟨a, 9, none⟩ = some (.slice a5 n5 e5) := g5.trans (congrArg some hb5)
      have HB5 := Lib.hid (And.intro hb5 hn5)
      have g6' : wr.cell? ⟨a, 10, none⟩ = some (.slice a6 n6 e6) := g6.trans (congrArg some hb6)
      have HB6 := Lib.hid (And.intro hb6 hn6)
      have g7' : wr.cell? ⟨a, 11, none⟩ = some (.slice a7 n7 e7) := g7.trans (congrArg some hb7)
      have HB7 := Lib.hid (And.intro hb7 hn7)
      clear g0 g1 g2 g3 g4 g5 g6 g7 hb0 hb1 hb2 hb3 hb4 hb5 hb6 hb7 hn0 hn1 hn2 hn3 hn4 hn5 hn6 hn7
      go_wp2_with fail
      go_loopg [58] 9 (fun k t wy => ∃ (i : Nat) (sv : Value), i + k = 9 ∧ i ≤ 8 ∧ t = .int .i64 (i : Int) ∧ Hid (Pb w wy a ⟨s, who, false, sv, bx, .slice none 0 0, .slice none 0 0, 0, true, 0⟩ (shP (shB N l) i) (shB N l)))
      case atStart => exact ⟨0, _, by omega, by omega, rfl, HPE⟩
      case round =>
        clear HPE k0 k1 k2 k3 k12 k13 k14 k15 k16 kf g0' g1' g2' g3' g4' g5' g6' g7'
        obtain ⟨i, sv, hik, hil, rfl, HP⟩ := hrel
        have hcase : i = 0 ∨ i = 1 ∨ i = 2 ∨ i = 3 ∨ i = 4 ∨ i = 5 ∨ i = 6 ∨ i = 7 ∨ i = 8 := by omega
        obtain ⟨svo, svc, rfl⟩ := HP.out.sv.form2
        obtain ⟨k0, k1, k2, k3, k12, k13, k14, k15, k16, kf⟩ := HP.out.pa.cells
        have HPL : Hid ((shP (shB N l) i).length ≤ 8) := Lib.hid (Nat.le_trans (shP_len _ _) hil)
        rcases hcase with rfl | rfl | rfl | rfl | rfl | rfl | rfl | rfl | rfl
        · have hx8 := idx8_0
          by_cases hz : n0 = 0
          · have hP2 : shP (shB N l) 1 = shP (shB N l) 0 := by rw [shP_succ, if_pos (by rw [← HB0.out.2]; exact hz)]
            subst hz
            generalize hlp : (shP (shB N l) 0).length = np at *
            go_wp2_with fail
            go_roundg (gk - 1)
            case measure => omega
            case rel =>
              refine ⟨1, .slice svo np svc, by omega, by omega, by simp, ?_⟩
              rw [hP2]
              exact HP
          · have hzp : (0 : Int) < (n0 : Int) := by omega
            obtain ⟨P1, hP1⟩ : ∃ P1, shP (shB N l) 0 = P1 := ⟨_, rfl⟩
            rw [hP1] at HP HPL
            obtain ⟨np, hnp⟩ : ∃ np, P1.length = np := ⟨_, rfl⟩
            have k3' : wr.cell? ⟨a, 3, none⟩ = some (.slice svo np svc) := by rw [← hnp, ← hP1]; exact k3
            clear k3
            have hown : wr.ownsRow w.heap.size 3 1 (.slice svo np svc) np (intK.flat P1) := by have h := HP.out.sv; unfold Own at h; rw [hnp] at h; exact h
            rw [hnp] at HPL
            rw [hnp] at HP
            have HPN := Lib.hid (And.intro hP1.symm hnp)
            clear hP1 hnp
            go_wp2_with (at_builtin; refine Batch.wpList_append_any _ rfl _ _ 23 23 rfl w.heap.size 3 3 j0 (.int .i64 0) 1 8 Try.underlying23 Try.underlying23 hj hy0 hy1 hy2 rfl (by decide) (.slice svo np svc) np (intK.flat P1) rfl (hown.alloc _) (some ⟨wr.heap.size, 0, none⟩) 1 1 [.int .i64 0] rfl rfl ?c10 ?c20 ?c30 ?c40 ?c50 ?_)
            case c10 => exact .inr ⟨_, rfl, World.news_of_block (cs := #[.int .i64 0]) (heap_alloc_new wr _)⟩
            try (case c20 => first | (intro y hy; simp at hy; subst hy; rfl) | rfl | trivial | exact ⟨rfl, rfl⟩ | simp [Value.oneCell'])
            try (case c30 => have := HPL.out; unfold maxLen; omega)
            try (case c40 => have := HPL.out; omega)
            try (case c50 => have := HP.out.bel.size; simp; omega)
            intro v' w6 hown6 hg6 hblk
            have hg : wr.grownBy w6 (Value.slice svo np svc).ownBlock := ⟨hg6.os, hg6.tape, hg6.output, by have := hg6.size; simp at this; omega, fun j hj hn => (hg6.block j (by simp; omega) hn).trans (heap_alloc_old wr _ hj)⟩
            have hnew : Own intK w6 w.heap.size 3 v' (P1 ++ [0]) := by
              unfold Own
              rw [flat_append, List.length_append, HPN.out.2]
              exact hown6
            have hp6 := HP.out.addS hg hnew (fun g hgg => by
              rcases hblk with e | e
              · left; exact e.symm.trans hgg
              · right; have := e.symm.trans hgg; simp at this; omega)
            obtain ⟨vo, vc, rfl⟩ := hnew.form2
            obtain ⟨m0, m1, m2, m3, m12, m13, m14, m15, m16, mf⟩ := (HP.out.pa.of_block (hg.block a HP.out.pa.lt (fun e => HP.out.ns e.symm))).cells
            have HP6 := Lib.hid hp6
            have hP2 : P1 ++ [0] = shP (shB N l) 1 := by rw [shP_succ, if_neg (by rw [← HB0.out.2]; exact hz), HPN.out.1]; rfl
            have HPP := Lib.hid hP2
            generalize (P1 ++ [(0 : Int)]).length = np2 at *
            clear hown6 hg6 hblk hg hnew hp6 hP2 k0 k1 k2 k3' k12 k13 k14 k15 k16 kf
            go_wp2_with fail
            go_roundg (gk - 1)
            case measure => omega
            case rel =>
              refine ⟨1, .slice vo np2 vc, by omega, by omega, by simp, ?_⟩
              rw [← HPP.out]
              exact HP6
        · have hx8 := idx8_1
          by_cases hz : n1 = 0
          · have hP2 : shP (shB N l) 2 = shP (shB N l) 1 := by rw [shP_succ, if_pos (by rw [← HB1.out.2]; exact hz)]
            subst hz
            generalize hlp : (shP (shB N l) 1).length = np at *
            go_wp2_with fail
            go_roundg (gk - 1)
            case measure => omega
            case rel =>
              refine ⟨2, .slice svo np svc, by omega, by omega, by simp, ?_⟩
              rw [hP2]
              exact HP
          · have hzp : (0 : Int) < (n1 : Int) := by omega
            obtain ⟨P1, hP1⟩ : ∃ P1, shP (shB N l) 1 = P1 := ⟨_, rfl⟩
            rw [hP1] at HP HPL
            obtain ⟨np, hnp⟩ : ∃ np, P1.length = np := ⟨_, rfl⟩
            have k3' : wr.cell? ⟨a, 3, none⟩ = some (.slice svo np svc) := by rw [← hnp, ← hP1]; exact k3
            clear k3
            have hown : wr.ownsRow w.heap.size 3 1 (.slice svo np svc) np (intK.flat P1) := by have h := HP.out.sv; unfold Own at h; rw [hnp] at h; exact h
            rw [hnp] at HPL
            rw [hnp] at HP
            have HPN := Lib.hid (And.intro hP1.symm hnp)
            clear hP1 hnp
            go_wp2_with (at_builtin; refine Batch.wpList_append_any _ rfl _ _ 23 23 rfl w.heap.size 3 3 j0 (.int .i64 0) 1 8 Try.underlying23 Try.underlying23 hj hy0 hy1 hy2 rfl (by decide) (.slice svo np svc) np (intK.flat P1) rfl (hown.alloc _) (some ⟨wr.heap.size, 0, none⟩) 1 1 [.int .i64 1] rfl rfl ?c11 ?c21 ?c31 ?c41 ?c51 ?_)
            case c11 => exact .inr ⟨_, rfl, World.news_of_block (cs := #[.int .i64 1]) (heap_alloc_new wr _)⟩
            try (case c21 => first | (intro y hy; simp at hy; subst hy; rfl) | rfl | trivial | exact ⟨rfl, rfl⟩ | simp [Value.oneCell'])
            try (case c31 => have := HPL.out; unfold maxLen; omega)
            try (case c41 => have := HPL.out; omega)
            try (case c51 => have := HP.out.bel.size; simp; omega)
            intro v' w6 hown6 hg6 hblk
            have hg : wr.grownBy w6 (Value.slice svo np svc).ownBlock := ⟨hg6.os, hg6.tape, hg6.output, by have := hg6.size; simp at this; omega, fun j hj hn => (hg6.block j (by simp; omega) hn).trans (heap_alloc_old wr _ hj)⟩
            have hnew : Own intK w6 w.heap.size 3 v' (P1 ++ [1]) := by
              unfold Own
              rw [flat_append, List.length_append, HPN.out.2]
              exact hown6
            have hp6 := HP.out.addS hg hnew (fun g hgg => by
              rcases hblk with e | e
              · left; exact e.symm.trans hgg
              · right; have := e.symm.trans hgg; simp at this; omega)
            obtain ⟨vo, vc, rfl⟩ := hnew.form2
            obtain ⟨m0, m1, m2, m3, m12, m13, m14, m15, m16, mf⟩ := (HP.out.pa.of_block (hg.block a HP.out.pa.lt (fun e => HP.out.ns e.symm))).cells
            have HP6 := Lib.hid hp6
            have hP2 : P1 ++ [1] = shP (shB N l) 2 := by rw [shP_succ, if_neg (by rw [← HB1.out.2]; exact hz), HPN.out.1]; rfl
            have HPP := Lib.hid hP2
            generalize (P1 ++ [(1 : Int)]).length = np2 at *
            clear hown6 hg6 hblk hg hnew hp6 hP2 k0 k1 k2 k3' k12 k13 k14 k15 k16 kf
            go_wp2_with fail
            go_roundg (gk - 1)
            case measure => omega
            case rel =>
              refine ⟨2, .slice vo np2 vc, by omega, by omega, by simp, ?_⟩
              rw [← HPP.out]
              exact HP6
        · have hx8 := idx8_2
          by_cases hz : n2 = 0
          · have hP2 : shP (shB N l) 3 = shP (shB N l) 2 := by rw [shP_succ, if_pos (by rw [← HB2.out.2]; exact hz)]
            subst hz
            generalize hlp : (shP (shB N l) 2).length = np at *
            go_wp2_with fail
            go_roundg (gk - 1)
            case measure => omega
            case rel =>
              refine ⟨3, .slice svo np svc, by omega, by omega, by simp, ?_⟩
              rw [hP2]
              exact HP
          · have hzp : (0 : Int) < (n2 : Int) := by omega
            obtain ⟨P1, hP1⟩ : ∃ P1, shP (shB N l) 2 = P1 := ⟨_, rfl⟩
            rw [hP1] at HP HPL
            obtain ⟨np, hnp⟩ : ∃ np, P1.length = np := ⟨_, rfl⟩
            have k3' : wr.cell? ⟨a, 3, none⟩ = some (.slice svo np svc) := by rw [← hnp, ← hP1]; exact k3
            clear k3
            have hown : wr.ownsRow w.heap.size 3 1 (.slice svo np svc) np (intK.flat P1) := by have h := HP.out.sv; unfold Own at h; rw [hnp] at h; exact h
            rw [hnp] at HPL
            rw [hnp] at HP
            have HPN := Lib.hid (And.intro hP1.symm hnp)
            clear hP1 hnp
            go_wp2_with (at_builtin; refine Batch.wpList_append_any _ rfl _ _ 23 23 rfl w.heap.size 3 3 j0 (.int .i64 0) 1 8 Try.underlying23 Try.underlying23 hj hy0 hy1 hy2 rfl (by decide) (.slice svo np svc) np (intK.flat P1) rfl (hown.alloc _) (some ⟨wr.heap.size, 0, none⟩) 1 1 [.int .i64 2] rfl rfl ?c12 ?c22 ?c32 ?c42 ?c52 ?_)
            case c12 => exact .inr ⟨_, rfl, World.news_of_block (cs := #[.int .i64 2]) (heap_alloc_new wr _)⟩
            try (case c22 => first | (intro y hy; simp at hy; subst hy; rfl) | rfl | trivial | exact ⟨rfl, rfl⟩ | simp [Value.oneCell'])
            try (case c32 => have := HPL.out; unfold maxLen; omega)
            try (case c42 => have := HPL.out; omega)
            try (case c52 => have := HP.out.bel.size; simp; omega)
            intro v' w6 hown6 hg6 hblk
            have hg : wr.grownBy w6 (Value.slice svo np svc).ownBlock := ⟨hg6.os, hg6.tape, hg6.output, by have := hg6.size; simp at this; omega, fun j hj hn => (hg6.block j (by simp; omega) hn).trans (heap_alloc_old wr _ hj)⟩
            have hnew : Own intK w6 w.heap.size 3 v' (P1 ++ [2]) := by
              unfold Own
              rw [flat_append, List.length_append, HPN.out.2]
              exact hown6
            have hp6 := HP.out.addS hg hnew (fun g hgg => by
              rcases hblk with e | e
              · left; exact e.symm.trans hgg
              · right; have := e.symm.trans hgg; simp at this; omega)
            obtain ⟨vo, vc, rfl⟩ := hnew.form2
            obtain ⟨m0, m1, m2, m3, m12, m13, m14, m15, m16, mf⟩ := (HP.out.pa.of_block (hg.block a HP.out.pa.lt (fun e => HP.out.ns e.symm))).cells
            have HP6 := Lib.hid hp6
            have hP2 : P1 ++ [2] = shP (shB N l) 3 := by rw [shP_succ, if_neg (by rw [← HB2.out.2]; exact hz), HPN.out.1]; rfl
            have HPP := Lib.hid hP2
            generalize (P1 ++ [(2 : Int)]).length = np2 at *
            clear hown6 hg6 hblk hg hnew hp6 hP2 k0 k1 k2 k3' k12 k13 k14 k15 k16 kf
            go_wp2_with fail
            go_roundg (gk - 1)
            case measure => omega
            case rel =>
              refine ⟨3, .slice vo np2 vc, by omega, by omega, by simp, ?_⟩
              rw [← HPP.out]
              exact HP6
        · have hx8 := idx8_3
          by_cases hz : n3 = 0
          · have hP2 : shP (shB N l) 4 = shP (shB N l) 3 := by rw [shP_succ, if_pos (by rw [← HB3.out.2]; exact hz)]
            subst hz
            generalize hlp : (shP (shB N l) 3).length = np at *
            go_wp2_with fail
            go_roundg (gk - 1)
            case measure => omega
            case rel =>
              refine ⟨4, .slice svo np svc, by omega, by omega, by simp, ?_⟩
              rw [hP2]
              exact HP
          · have hzp : (0 : Int) < (n3 : Int) := by omega
            obtain ⟨P1, hP1⟩ : ∃ P1, shP (shB N l) 3 = P1 := ⟨_, rfl⟩
            rw [hP1] at HP HPL
            obtain ⟨np, hnp⟩ : ∃ np, P1.length = np := ⟨_, rfl⟩
            have k3' : wr.cell? ⟨a, 3, none⟩ = some (.slice svo np svc) := by rw [← hnp, ← hP1]; exact k3
            clear k3
            have hown : wr.ownsRow w.heap.size 3 1 (.slice svo np svc) np (intK.flat P1) := by have h := HP.out.sv; unfold Own at h; rw [hnp] at h; exact h
            rw [hnp] at HPL
            rw [hnp] at HP
            have HPN := Lib.hid (And.intro hP1.symm hnp)
            clear hP1 hnp
            go_wp2_with (at_builtin; refine Batch.wpList_append_any _ rfl _ _ 23 23 rfl w.heap.size 3 3 j0 (.int .i64 0) 1 8 Try.underlying23 Try.underlying23 hj hy0 hy1 hy2 rfl (by decide) (.slice svo np svc) np (intK.flat P1) rfl (hown.alloc _) (some ⟨wr.heap.size, 0, none⟩) 1 1 [.int .i64 3] rfl rfl ?c13 ?c23 ?c33 ?c43 ?c53 ?_)
            case c13 => exact .inr ⟨_, rfl, World.news_of_block (cs := #[.int .i64 3]) (heap_alloc_new wr _)⟩
            try (case c23 => first | (intro y hy; simp at hy; subst hy; rfl) | rfl | trivial | exact ⟨rfl, rfl⟩ | simp [Value.oneCell'])
            try (case c33 => have := HPL.out; unfold maxLen; omega)
            try (case c43 => have := HPL.out; omega)
            try (case c53 => have := HP.out.bel.size; simp; omega)
            intro v' w6 hown6 hg6 hblk
            have hg : wr.grownBy w6 (Value.slice svo np svc).ownBlock := ⟨hg6.os, hg6.tape, hg6.output, by have := hg6.size; simp at this; omega, fun j hj hn => (hg6.block j (by simp; omega) hn).trans (heap_alloc_old wr _ hj)⟩
            have hnew : Own intK w6 w.heap.size 3 v' (P1 ++ [3]) := by
              unfold Own
              rw [flat_append, List.length_append, HPN.out.2]
              exact hown6
            have hp6 := HP.out.addS hg hnew (fun g hgg => by
              rcases hblk with e | e
              · left; exact e.symm.trans hgg
              · right; have := e.symm.trans hgg; simp at this; omega)
            obtain ⟨vo, vc, rfl⟩ := hnew.form2
            obtain ⟨m0, m1, m2, m3, m12, m13, m14, m15, m16, mf⟩ := (HP.out.pa.of_block (hg.block a HP.out.pa.lt (fun e => HP.out.ns e.symm))).cells
            have HP6 := Lib.hid hp6
            have hP2 : P1 ++ [3] = shP (shB N l) 4 := by rw [shP_succ, if_neg (by rw [← HB3.out.2]; exact hz), HPN.out.1]; rfl
            have HPP := Lib.hid hP2
            generalize (P1 ++ [(3 : Int)]).length = np2 at *
            clear hown6 hg6 hblk hg hnew hp6 hP2 k0 k1 k2 k3' k12 k13 k14 k15 k16 kf
            go_wp2_with fail
            go_roundg (gk - 1)
            case measure => omega
            case rel =>
              refine ⟨4, .slice vo np2 vc, by omega, by omega, by simp, ?_⟩
              rw [← HPP.out]
              exact HP6
        · have hx8 := idx8_4
          by_cases hz : n4 = 0
          · have hP2 : shP (shB N l) 5 = shP (shB N l) 4 := by rw [shP_succ, if_pos (by rw [← HB4.out.2]; exact hz)]
            subst hz
            generalize hlp : (shP (shB N l) 4).length = np at *
            go_wp2_with fail
            go_roundg (gk - 1)
            case measure => omega
            case rel =>
              refine ⟨5, .slice svo np svc, by omega, by omega, by simp, ?_⟩
              rw [hP2]
              exact HP
          · have hzp : (0 : Int) < (n4 : Int) := by omega
            obtain ⟨P1, hP1⟩ : ∃ P1, shP (shB N l) 4 = P1 := ⟨_, rfl⟩
            rw [hP1] at HP HPL
            obtain ⟨np, hnp⟩ : ∃ np, P1.length = np := ⟨_, rfl⟩
            have k3' : wr.cell? ⟨a, 3, none⟩ = some (.slice svo np svc) := by rw [← hnp, ← hP1]; exact k3
            clear k3
            have hown : wr.ownsRow w.heap.size 3 1 (.slice svo np svc) np (intK.flat P1) := by have h := HP.out.sv; unfold Own at h; rw [hnp] at h; exact h
            rw [hnp] at HPL
            rw [hnp] at HP
            have HPN := Lib.hid (And.intro hP1.symm hnp)
            clear hP1 hnp
            go_wp2_with (at_builtin; refine Batch.wpList_append_any _ rfl _ _ 23 23 rfl w.heap.size 3 3 j0 (.int .i64 0) 1 8 Try.underlying23 Try.underlying23 hj hy0 hy1 hy2 rfl (by decide) (.slice svo np svc) np (intK.flat P1) rfl (hown.alloc _) (some ⟨wr.heap.size, 0, none⟩) 1 1 [.int .i64 4] rfl rfl ?c14 ?c24 ?c34 ?c44 ?c54 ?_)
            case c14 => exact .inr ⟨_, rfl, World.news_of_block (cs := #[.int .i64 4]) (heap_alloc_new wr _)⟩
            try (case c24 => first | (intro y hy; simp at hy; subst hy; rfl) | rfl | trivial | exact ⟨rfl, rfl⟩ | simp [Value.oneCell'])
            try (case c34 => have := HPL.out; unfold maxLen; omega)
            try (case c44 => have := HPL.out; omega)
            try (case c54 => have := HP.out.bel.size; simp; omega)
            intro v' w6 hown6 hg6 hblk
            have hg : wr.grownBy w6 (Value.slice svo np svc).ownBlock := ⟨hg6.os, hg6.tape, hg6.output, by have := hg6.size; simp at this; omega, fun j hj hn => (hg6.block j (by simp; omega) hn).trans (heap_alloc_old wr _ hj)⟩
            have hnew : Own intK w6 w.heap.size 3 v' (P1 ++ [4]) := by
              unfold Own
              rw [flat_append, List.length_append, HPN.out.2]
              exact hown6
            have hp6 := HP.out.addS hg hnew (fun g hgg => by
              rcases hblk with e | e
              · left; exact e.symm.trans hgg
              · right; have := e.symm.trans hgg; simp at this; omega)
            obtain ⟨vo, vc, rfl⟩ := hnew.form2
            obtain ⟨m0, m1, m2, m3, m12, m13, m14, m15, m16, mf⟩ := (HP.out.pa.of_block (hg.block a HP.out.pa.lt (fun e => HP.out.ns e.symm))).cells
            have HP6 := Lib.hid hp6
            have hP2 : P1 ++ [4] = shP (shB N l) 5 := by rw [shP_succ, if_neg (by rw [← HB4.out.2]; exact hz), HPN.out.1]; rfl
            have HPP := Lib.hid hP2
            generalize (P1 ++ [(4 : Int)]).length = np2 at *
            clear hown6 hg6 hblk hg hnew hp6 hP2 k0 k1 k2 k3' k12 k13 k14 k15 k16 kf
            go_wp2_with fail
            go_roundg (gk - 1)
            case measure => omega
            case rel =>
              refine ⟨5, .slice vo np2 vc, by omega, by omega, by simp, ?_⟩
              rw [← HPP.out]
              exact HP6
        · have hx8 := idx8_5
          by_cases hz : n5 = 0
          · have hP2 : shP (shB N l) 6 = shP (shB N l) 5 := by rw [shP_succ, if_pos (by rw [← HB5.out.2]; exact hz)]
            subst hz
            generalize hlp : (shP (shB N l) 5).length = np at *
            go_wp2_with fail
            go_roundg (gk - 1)
            case measure => omega
            case rel =>
              refine ⟨6, .slice svo np svc, by omega, by omega, by simp, ?_⟩
              rw [hP2]
              exact HP
          · have hzp : (0 : Int) < (n5 : Int) := by omega
            obtain ⟨P1, hP1⟩ : ∃ P1, shP (shB N l) 5 = P1 := ⟨_, rfl⟩
            rw [hP1] at HP HPL
            obtain ⟨np, hnp⟩ : ∃ np, P1.length = np := ⟨_, rfl⟩
            have k3' : wr.cell? ⟨a, 3, none⟩ = some (.slice svo np svc) := by rw [← hnp, ← hP1]; exact k3
            clear k3
            have hown : wr.ownsRow w.heap.size 3 1 (.slice svo np svc) np (intK.flat P1) := by have h := HP.out.sv; unfold Own at h; rw [hnp] at h; exact h
            rw [hnp] at HPL
            rw [hnp] at HP
            have HPN := Lib.hid (And.intro hP1.symm hnp)
            clear hP1 hnp
            go_wp2_with (at_builtin; refine Batch.wpList_append_any _ rfl _ _ 23 23 rfl w.heap.size 3 3 j0 (.int .i64 0) 1 8 Try.underlying23 Try.underlying23 hj hy0 hy1 hy2 rfl (by decide) (.slice svo np svc) np (intK.flat P1) rfl (hown.alloc _) (some ⟨wr.heap.size, 0, none⟩) 1 1 [.int .i64 5] rfl rfl ?c15 ?c25 ?c35 ?c45 ?c55 ?_)
            case c15 => exact .inr ⟨_, rfl, World.news_of_block (cs := #[.int .i64 5]) (heap_alloc_new wr _)⟩
            try (case c25 => first | (intro y hy; simp at hy; subst hy; rfl) | rfl | trivial | exact ⟨rfl, rfl⟩ | simp [Value.oneCell'])
            try (case c35 => have := HPL.out; unfold maxLen; omega)
            try (case c45 => have := HPL.out; omega)
            try (case c55 => have := HP.out.bel.size; simp; omega)
            intro v' w6 hown6 hg6 hblk
            have hg : wr.grownBy w6 (Value.slice svo np svc).ownBlock := ⟨hg6.os, hg6.tape, hg6.output, by have := hg6.size; simp at this; omega, fun j hj hn => (hg6.block j (by simp; omega) hn).trans (heap_alloc_old wr _ hj)⟩
            have hnew : Own intK w6 w.heap.size 3 v' (P1 ++ [5]) := by
              unfold Own
              rw [flat_append, List.length_append, HPN.out.2]
              exact hown6
            have hp6 := HP.out.addS hg hnew (fun g hgg => by
              rcases hblk with e | e
              · left; exact e.symm.trans hgg
              · right; have := e.symm.trans hgg; simp at this; omega)
            obtain ⟨vo, vc, rfl⟩ := hnew.form2
            obtain ⟨m0, m1, m2, m3, m12, m13, m14, m15, m16, mf⟩ := (HP.out.pa.of_block (hg.block a HP.out.pa.lt (fun e => HP.out.ns e.symm))).cells
            have HP6 := Lib.hid hp6
            have hP2 : P1 ++ [5] = shP (shB N l) 6 := by rw [shP_succ, if_neg (by rw [← HB5.out.2]; exact hz), HPN.out.1]; rfl
            have HPP := Lib.hid hP2
            generalize (P1 ++ [(5 : Int)]).length = np2 at *
            clear hown6 hg6 hblk hg hnew hp6 hP2 k0 k1 k2 k3' k12 k13 k14 k15 k16 kf
            go_wp2_with fail
            go_roundg (gk - 1)
            case measure => omega
            case rel =>
              refine ⟨6, .slice vo np2 vc, by omega, by omega, by simp, ?_⟩
              rw [← HPP.out]
              exact HP6
        · have hx8 := idx8_6
          by_cases hz : n6 = 0
          · have hP2 : shP (shB N l) 7 = shP (shB N l) 6 := by rw [shP_succ, if_pos (by rw [← HB6.out.2]; exact hz)]
            subst hz
            generalize hlp : (shP (shB N l) 6).length = np at *
            go_wp2_with fail
            go_roundg (gk - 1)
            case measure => omega
            case rel =>
              refine ⟨7, .slice svo np svc, by omega, by omega, by simp, ?_⟩
              rw [hP2]
              exact HP
          · have hzp : (0 : Int) < (n6 : Int) := by omega
            obtain ⟨P1, hP1⟩ : ∃ P1, shP (shB N l) 6 = P1 := ⟨_, rfl⟩
            rw [hP1] at HP HPL
            obtain ⟨np, hnp⟩ : ∃ np, P1.length = np := ⟨_, rfl⟩
            have k3' : wr.cell? ⟨a, 3, none⟩ = some (.slice svo np svc) := by rw [← hnp, ← hP1]; exact k3
            clear k3
            have hown : wr.ownsRow w.heap.size 3 1 (.slice svo np svc) np (intK.flat P1) := by have h := HP.out.sv; unfold Own at h; rw [hnp] at h; exact h
            rw [hnp] at HPL
            rw [hnp] at HP
            have HPN := Lib.hid (And.intro hP1.symm hnp)
            clear hP1 hnp
            go_wp2_with (at_builtin; refine Batch.wpList_append_any _ rfl _ _ 23 23 rfl w.heap.size 3 3 j0 (.int .i64 0) 1 8 Try.underlying23 Try.underlying23 hj hy0 hy1 hy2 rfl (by decide) (.slice svo np svc) np (intK.flat P1) rfl (hown.alloc _) (some ⟨wr.heap.size, 0, none⟩) 1 1 [.int .i64 6] rfl rfl ?c16 ?c26 ?c36 ?c46 ?c56 ?_)
            case c16 => exact .inr ⟨_, rfl, World.news_of_block (cs := #[.int .i64 6]) (heap_alloc_new wr _)⟩
            try (case c26 => first | (intro y hy; simp at hy; subst hy; rfl) | rfl | trivial | exact ⟨rfl, rfl⟩ | simp [Value.oneCell'])
            try (case c36 => have := HPL.out; unfold maxLen; omega)
            try (case c46 => have := HPL.out; omega)
            try (case c56 => have := HP.out.bel.size; simp; omega)
            intro v' w6 hown6 hg6 hblk
            have hg : wr.grownBy w6 (Value.slice svo np svc).ownBlock := ⟨hg6.os, hg6.tape, hg6.output, by have := hg6.size; simp at this; omega, fun j hj hn => (hg6.block j (by simp; omega) hn).trans (heap_alloc_old wr _ hj)⟩
            have hnew : Own intK w6 w.heap.size 3 v' (P1 ++ [6]) := by
              unfold Own
              rw [flat_append, List.length_append, HPN.out.2]
              exact hown6
            have hp6 := HP.out.addS hg hnew (fun g hgg => by
              rcases hblk with e | e
              · left; exact e.symm.trans hgg
              · right; have := e.symm.trans hgg; simp at this; omega)
            obtain ⟨vo, vc, rfl⟩ := hnew.form2
            obtain ⟨m0, m1, m2, m3, m12, m13, m14, m15, m16, mf⟩ := (HP.out.pa.of_block (hg.block a HP.out.pa.lt (fun e => HP.out.ns e.symm))).cells
            have HP6 := Lib.hid hp6
            have hP2 : P1 ++ [6] = shP (shB N l) 7 := by rw [shP_succ, if_neg (by rw [← HB6.out.2]; exact hz), HPN.out.1]; rfl
            have HPP := Lib.hid hP2
            generalize (P1 ++ [(6 : Int)]).length = np2 at *
            clear hown6 hg6 hblk hg hnew hp6 hP2 k0 k1 k2 k3' k12 k13 k14 k15 k16 kf
            go_wp2_with fail
            go_roundg (gk - 1)
            case measure => omega
            case rel =>
              refine ⟨7, .slice vo np2 vc, by omega, by omega, by simp, ?_⟩
              rw [← HPP.out]
              exact HP6
        · have hx8 := idx8_7
          by_cases hz : n7 = 0
          · have hP2 : shP (shB N l) 8 = shP (shB N l) 7 := by rw [shP_succ, if_pos (by rw [← HB7.out.2]; exact hz)]
            subst hz
            generalize hlp : (shP (shB N l) 7).length = np at *
            go_wp2_with fail
            go_roundg (gk - 1)
            case measure => omega
            case rel =>
              refine ⟨8, .slice svo np svc, by omega, by omega, by simp, ?_⟩
              rw [hP2]
              exact HP
          · have hzp : (0 : Int) < (n7 : Int) := by omega
            obtain ⟨P1, hP1⟩ : ∃ P1, shP (shB N l) 7 = P1 := ⟨_, rfl⟩
            rw [hP1] at HP HPL
            obtain ⟨np, hnp⟩ : ∃ np, P1.length = np := ⟨_, rfl⟩
            have k3' : wr.cell? ⟨a, 3, none⟩ = some (.slice svo np svc) := by rw [← hnp, ← hP1]; exact k3
            clear k3
            have hown : wr.ownsRow w.heap.size 3 1 (.slice svo np svc) np (intK.flat P1) := by have h := HP.out.sv; unfold Own at h; rw [hnp] at h; exact h
            rw [hnp] at HPL
            rw [hnp] at HP
            have HPN := Lib.hid (And.intro hP1.symm hnp)
            clear hP1 hnp
            go_wp2_with (at_builtin; refine Batch.wpList_append_any _ rfl _ _ 23 23 rfl w.heap.size 3 3 j0 (.int .i64 0) 1 8 Try.underlying23 Try.underlying23 hj hy0 hy1 hy2 rfl (by decide) (.slice svo np svc) np (intK.flat P1) rfl (hown.alloc _) (some ⟨wr.heap.size, 0, none⟩) 1 1 [.int .i64 7] rfl rfl ?c17 ?c27 ?c37 ?c47 ?c57 ?_)
            case c17 => exact .inr ⟨_, rfl, World.news_of_block (cs := #[.int .i64 7]) (heap_alloc_new wr _)⟩
            try (case c27 => first | (intro y hy; simp at hy; subst hy; rfl) | rfl | trivial | exact ⟨rfl, rfl⟩ | simp [Value.oneCell'])
            try (case c37 => have := HPL.out; unfold maxLen; omega)
            try (case c47 => have := HPL.out; omega)
            try (case c57 => have := HP.out.bel.size; simp; omega)
            intro v' w6 hown6 hg6 hblk
            have hg : wr.grownBy w6 (Value.slice svo np svc).ownBlock := ⟨hg6.os, hg6.tape, hg6.output, by have := hg6.size; simp at this; omega, fun j hj hn => (hg6.block j (by simp; omega) hn).trans (heap_alloc_old wr _ hj)⟩
            have hnew : Own intK w6 w.heap.size 3 v' (P1 ++ [7]) := by
              unfold Own
              rw [flat_append, List.length_append, HPN.out.2]
              exact hown6
            have hp6 := HP.out.addS hg hnew (fun g hgg => by
              rcases hblk with e | e
              · left; exact e.symm.trans hgg
              · right; have := e.symm.trans hgg; simp at this; omega)
            obtain ⟨vo, vc, rfl⟩ := hnew.form2
            obtain ⟨m0, m1, m2, m3, m12, m13, m14, m15, m16, mf⟩ := (HP.out.pa.of_block (hg.block a HP.out.pa.lt (fun e => HP.out.ns e.symm))).cells
            have HP6 := Lib.hid hp6
            have hP2 : P1 ++ [7] = shP (shB N l) 8 := by rw [shP_succ, if_neg (by rw [← HB7.out.2]; exact hz), HPN.out.1]; rfl
            have HPP := Lib.hid hP2
            generalize (P1 ++ [(7 : Int)]).length = np2 at *
            clear hown6 hg6 hblk hg hnew hp6 hP2 k0 k1 k2 k3' k12 k13 k14 k15 k16 kf
            go_wp2_with fail
            go_roundg (gk - 1)
            case measure => omega
            case rel =>
              refine ⟨8, .slice vo np2 vc, by omega, by omega, by simp, ?_⟩
              rw [← HPP.out]
              exact HP6
        · have hlt8 : ¬ ((8 : Int) < 8) := by decide
          have HPB := HP
          have HSV := Lib.hid ((HP.out.sv.sl (fun x hx => acc_i64 (shP_mem hx))).rr)
          have HPW : Hid (∀ x ∈ shP (shB N l) 8, 0 ≤ x ∧ x < 8) := Lib.hid (fun x hx => shP_mem hx)
          have HWP : Hid (∀ x ∈ shP (shB N l) 8, intK.wf x) := Lib.hid (fun x hx => acc_i64 (shP_mem hx))
          have HWB : Hid (∀ j, j < 8 → ∀ x ∈ shB N l j, x.Wf) := Lib.hid (fun j _ x hx => HV.out.wf x (shB_mem hx).1)
          have HB0 := Lib.hid HP.out.bel
          replace HPL : Hid ((shP (shB N l) 8).length ≤ 100) := Lib.hid (by have := HPL.out; omega)
          obtain ⟨P1, hP1⟩ : ∃ P1, shP (shB N l) 8 = P1 := ⟨_, rfl⟩
          rw [hP1] at HPB HSV HPW HWP HPL
          have HP1e := Lib.hid hP1
          clear HP hP1 k0 k1 k2 k3 k12 k13 k14 k15 k16 kf
          have hml : ∀ q : Int, (P1.map fun x => (q, x)).length = P1.length := fun q => List.length_map ..
          go_wp2_with fail
          go_at_call 31
          refine (pleach_any HPB.out.pa HSV.out HPL.out 4).mono ?_
          rintro e W2 ⟨v1, rfl, ho, hb⟩
          obtain ⟨o1, d1, rfl⟩ := ho.form2
          replace HPB := Lib.hid (HPB.out.more hb)
          replace HSV := Lib.hid (HSV.out.below hb)
          replace HB0 := Lib.hid (HB0.out.trans (hb.mono HB0.out.size))
          have HV1 := Lib.hid ((ho.sl (map_wf 4 ⟨by decide, by decide⟩ HPW.out)).rr)
          rw [hml] at HV1
          clear ho hb
          go_wp2_with fail
          go_at_call 31
          refine (pleach_any HPB.out.pa HSV.out HPL.out 2).mono ?_
          rintro e W3 ⟨v2, rfl, ho, hb⟩
          obtain ⟨o2, d2, rfl⟩ := ho.form2
          replace HPB := Lib.hid (HPB.out.more hb)
          replace HSV := Lib.hid (HSV.out.below hb)
          replace HB0 := Lib.hid (HB0.out.trans (hb.mono HB0.out.size))
          replace HV1 := Lib.hid (HV1.out.below hb)
          have HV2 := Lib.hid ((ho.sl (map_wf 2 ⟨by decide, by decide⟩ HPW.out)).rr)
          rw [hml] at HV2
          clear ho hb
          go_wp2_with fail
          go_at_call 31
          refine (pleach_any HPB.out.pa HSV.out HPL.out 3).mono ?_
          rintro e W4 ⟨v3, rfl, ho, hb⟩
          obtain ⟨o3, d3, rfl⟩ := ho.form2
          replace HPB := Lib.hid (HPB.out.more hb)
          replace HSV := Lib.hid (HSV.out.below hb)
          replace HB0 := Lib.hid (HB0.out.trans (hb.mono HB0.out.size))
          replace HV1 := Lib.hid (HV1.out.below hb)
          replace HV2 := Lib.hid (HV2.out.below hb)
          have HV3 := Lib.hid ((ho.sl (map_wf 3 ⟨by decide, by decide⟩ HPW.out)).rr)
          rw [hml] at HV3
          clear ho hb
          have hb4 : Below W4.heap.size W4 (W4.alloc (.cells #[.int .i64 0, .int .i64 0] 76)) := (Below.refl _ _).alloc (Nat.le_refl _) _
          have HV4 : Hid (Rr accK (W4.alloc (.cells #[.int .i64 0, .int .i64 0] 76)) (.slice (some ⟨W4.heap.size, 0, none⟩) 1 1) [(0, 0)]) := Lib.hid (lit_acc1 W4 _ 0)
          replace HPB := Lib.hid (HPB.out.more hb4)
          replace HSV := Lib.hid (HSV.out.below hb4)
          replace HB0 := Lib.hid (HB0.out.trans (hb4.mono HB0.out.size))
          replace HV1 := Lib.hid (HV1.out.below hb4)
          replace HV2 := Lib.hid (HV2.out.below hb4)
          replace HV3 := Lib.hid (HV3.out.below hb4)
          clear hb4
          go_wp2_with fail
          go_at_call 31
          generalize W4.heap.size = x4 at *
          generalize W4.alloc (.cells #[.int .i64 0, .int .i64 0] 76) = W5 at *
          refine (pleach_any HPB.out.pa HSV.out HPL.out 5).mono ?_
          rintro e W6 ⟨v5, rfl, ho, hb⟩
          obtain ⟨o5, d5, rfl⟩ := ho.form2
          replace HPB := Lib.hid (HPB.out.more hb)
          replace HB0 := Lib.hid (HB0.out.trans (hb.mono HB0.out.size))
          replace HV1 := Lib.hid (HV1.out.below hb)
          replace HV2 := Lib.hid (HV2.out.below hb)
          replace HV3 := Lib.hid (HV3.out.below hb)
          replace HV4 := Lib.hid (HV4.out.below hb)
          have HV5 := Lib.hid ((ho.sl (map_wf 5 ⟨by decide, by decide⟩ HPW.out)).rr)
          rw [hml] at HV5
          clear ho hb HSV
          generalize hnp : P1.length = np at *
          replace hnp := Lib.hid hnp
          go_wp2_with fail
          go_at_call 30
          refine (concat5_any (s1 := ⟨o1, np, d1⟩) (s2 := ⟨o2, np, d2⟩) (s3 := ⟨o3, np, d3⟩) (s4 := ⟨some ⟨x4, 0, none⟩, 1, 1⟩) (s5 := ⟨o5, np, d5⟩) HV1.out HV2.out HV3.out HV4.out HV5.out (by have h1 := HPL.out; have h2 := hnp.out; simp; omega)).mono ?_
          rintro e W7 ⟨v7, rfl, ho, hb⟩
          obtain ⟨o7, d7, rfl⟩ := ho.form2
          obtain ⟨zs', z1, z2, z3, hact⟩ := HQ.out.act HPB.out rfl hb ho (putD_wf HPW.out) HWP.out HWB.out rfl
          have HZ := Lib.hid (And.intro z1 (And.intro z2 z3))
          have HACT := Lib.hid hact
          obtain ⟨k0, k1, k2, k3, k12, k13, k14, k15, k16, kf⟩ := (HPB.out.more hb).pa.cells
          generalize hq7 : ((P1.map fun x => ((4 : Int), x)) ++ (P1.map fun x => ((2 : Int), x)) ++ (P1.map fun x => ((3 : Int), x)) ++ [(0, 0)] ++ (P1.map fun x => ((5 : Int), x))).length = q7 at *
          clear ho hb z1 z2 z3 hact hml
          go_wp2_with fail
          go_ret
          exact ⟨a, rfl, HPB.out.ha, _, bx, _, zs', HZ.out.1, HZ.out.2.1, HZ.out.2.2, (by rw [HP1e.out]; exact HACT.out)⟩
end
end Go.Proofs.Ytmggnalobfihnaa.Pl
