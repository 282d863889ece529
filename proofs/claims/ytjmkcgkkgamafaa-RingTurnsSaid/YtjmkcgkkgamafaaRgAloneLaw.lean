/-
  THE LAW RingAlone: its walk.
-/
import Derived.Test.YtjmkcgkkgamafaaJoined13
import Derived.Test.YtjmkcgkkgamafaaBatchTo
import Derived.Test.YtjmkcgkkgamafaaJoined12
import Derived.Test.YtjmkcgkkgamafaaJoined11
import Derived.Test.YtjmkcgkkgamafaaJoined14
import Derived.Test.YtjmkcgkkgamafaaCkAhMem
namespace Go.Proofs.Ytjmkcgkkgamafaa.Rg
open Go.RowKit Rw Pk Go.Maps Mm
set_option linter.unusedVariables false
theorem rgrdl_at {w : World} {ao : Option Addr} {n cap : Nat} {L : List (List Batch.Ch)} (h : Fr.RdL w (.slice ao n cap) L) {i : Nat} {l : List Batch.Ch} (hl : L[i]? = some l) : ∃ b off u, ao = some ⟨b, off, none⟩ ∧ w.cell? ⟨b, off + i, none⟩ = some u ∧ Batch.Rd w u l := by
  obtain ⟨ao', cap', hv, _, h4⟩ := h
  simp only [Value.slice.injEq] at hv
  obtain ⟨rfl, _, rfl⟩ := hv
  rcases h4 with rfl | ⟨b, off, rfl, h4⟩
  · simp at hl
  · obtain ⟨u, hu, hr⟩ := h4 i l hl
    exact ⟨b, off, u, rfl, hu, hr⟩
section
variable {w w' w1 : World} {fs zs : List Nat} {q N n r a : Nat} {L : List (List Batch.Ch)} {v : Value} {ss : List Sv} {w0 : World} {R : Ri} {M : Mm.St}
theorem rl_start (h : Rq n w0 w1 [] zs r R M w) (hb : Below w.heap.size w w') (hq : w.heap.size ≤ q) (hq' : QAt w' q N (.slice none 0 0)) : ∃ zs', Rl n w0 r q N zs' [q] [] R M w' (.slice none 0 0) [] := by
  have h1 := h.all hb
  have hql := (Array.getElem?_eq_some_iff.1 hq').1
  refine ⟨_, h1.rebase (fun j hj => by obtain rfl := List.mem_singleton.1 hj; exact all_mem hq hql), ⟨hq', ⟨none, 0, rfl, .inl ⟨rfl, rfl⟩, by decide, by decide⟩, rfl, by simp, by simp, by simp [Value.ownBlock], by simp⟩, fun hr => ?_, fun j hj => ?_⟩
  · have := h.ri.lt
    have e := List.mem_singleton.1 hr
    omega
  · have := h.mz.nl
    have e := List.mem_singleton.1 hj
    omega
theorem Rl.form (h : Rl n w0 r q N zs fs L R M w v ss) : ∃ ao cap, v = .slice ao L.length cap ∧ ss.length = L.length := by
  obtain ⟨ao, cap, rfl, _⟩ := h.qs.row
  exact ⟨ao, cap, by rw [h.qs.len], h.qs.len⟩
/-- A batch isn't where the queue lies. -/
theorem sl_notq {u : Value} {l : List Batch.Ch} (hq : QAt w q N u) (h : Batch.Sl w v l) (hk : ∀ g, v.ownBlock = some g → g ≠ q → w'.heap[g]? = w.heap[g]?) : Batch.Sl w' v l := by
  cases l with
  | nil =>
    obtain ⟨ao, cp, rfl, h1, h2⟩ := h
    refine ⟨ao, cp, rfl, ?_, h2⟩
    rcases h1 with h1 | ⟨b', off, rfl, _⟩
    · exact .inl h1
    · exact .inr ⟨b', off, rfl, by simp⟩
  | cons x l =>
    refine sl_block h (fun g hg => hk g hg (fun e => ?_))
    subst e
    obtain ⟨ao, cp, rfl, h1, h2⟩ := h
    rcases h1 with ⟨h1, _⟩ | ⟨b', off, rfl, h3⟩
    · subst h1; simp [Value.ownBlock] at hg
    · have e : b' = g := by simpa [Value.ownBlock] using hg
      subst e
      obtain ⟨c0, c1, _⟩ := h3 0 x rfl
      have hc : ∀ o, w.cell? ⟨b', o, none⟩ = #[u, Value.int .i64 (N : Int)][o]? := fun o => cell_of_row _ _ _ _ _ _ hq
      rw [hc] at c1
      match off, c1 with
      | 0, c1 => simp at c1
      | n + 1, c1 => simp at c1
theorem bown_form0 {base : Nat} {T : TypeId} {l : List Batch.Ch} (h : Batch.Own w base T v l) : ∃ ao cap, v = .slice ao l.length cap := by
  rcases Batch.Own.form h with ⟨rfl, rfl⟩ | ⟨g, cap, rfl, _⟩
  · exact ⟨none, 0, rfl⟩
  · exact ⟨_, cap, rfl⟩
end
set_option maxRecDepth 1000000 in
set_option maxHeartbeats 16000000 in
theorem ringAlone_any {w : World} (x : Int) {v1 v2 : Value} {I : List (List Batch.Ch)} {P : List Bool} (hl : Fr.RdL w v1 I) (hp : Rr Ck.boolK w v2 P) :
    Calls Try.prog 3 #[.int .i64 x, v1, v2] w fun e w' => e = .returned (.bool true) ∧ Below w.heap.size w w' := by
  have HL := Lib.hid hl
  have HP := Lib.hid hp
  obtain ⟨po, pc, rfl, hp1, hp2⟩ := hp.form
  obtain ⟨lo, lc, rfl, hl1, _⟩ := hl
  have hlP : P.length ≤ 9223372036854775807 := by omega
  clear hp hp1
  go_enter Try.func3, Try.ntmps3
  go_wp2_with fail
  go_at_call 11
  refine (rgsize_any x w).mono ?_
  rintro e w1 ⟨N, hN, rfl, hb⟩
  have HN := Lib.hid hN
  have HB1 := Lib.hid hb
  have hN1 : 1 ≤ N := by rcases hN with rfl | rfl | rfl | rfl | rfl <;> decide
  have hN64 : N ≤ 64 := by rcases hN with rfl | rfl | rfl | rfl | rfl <;> decide
  clear hN hb
  go_wp2_with fail
  go_at_call 12
  refine (rgbegin_any HN.out w1).mono ?_
  rintro e w2 ⟨p, r, zs, rfl, hq⟩
  have HQ := Lib.hid hq
  clear hq
  go_wp2_with fail
  go_at_call 13
  refine (rgtold_any w2).mono ?_
  rintro e w3 ⟨rfl, hb⟩
  have HB3 := Lib.hid hb
  clear hb
  go_wp2_with fail
  have HRL : Hid (∃ zs', Rl w1.heap.size w1 r w3.heap.size N zs' [w3.heap.size] [] ⟨p, 1, 1, N, false, false⟩ (initS 4 (N + 2) 0) (w3.alloc (.cells #[.slice none 0 0, .int .i64 (N : Int)] 32)) (.slice none 0 0) []) :=
    Lib.hid (rl_start HQ.out (HB3.out.alloc HB3.out.size _) HB3.out.size (heap_alloc_new w3 _))
  obtain ⟨zs', hrl⟩ := HRL.out
  have HRL0 := Lib.hid hrl
  have HGI0 := Lib.hid (gi_init hN1)
  clear HRL hrl HQ HB3
  go_loopg [11, 12] 200 (fun k t s wr => ∃ (i j : Nat) (zs fs : List Nat) (L : List (List Batch.Ch)) (pu po x k' : Nat) (b : List Batch.Ch) (M : Mm.St) (v : Value) (ss : List Sv), i + k = 200 ∧ i ≤ P.length ∧ t = .int .i64 (j : Int) ∧ s = .int .i64 (i : Int) ∧ j ≤ i ∧ pu ≤ i ∧ k' ≤ 5 * i ∧
    Hid (Rl w1.heap.size w1 r w3.heap.size N zs fs L ⟨p, 1, 1, N, false, false⟩ M wr v ss) ∧ Hid (Gi N L pu po 0 0 [] x b k' M) ∧ Hid (∀ l ∈ L, l.length ≤ 1000))
  case atStart => exact ⟨0, 0, _, _, _, 0, 0, 0, 0, _, _, _, _, rfl, by omega, rfl, rfl, by omega, by omega, by omega, HRL0, HGI0, Lib.hid (by simp)⟩
  case round =>
    obtain ⟨i, j, zs, fs, L, pu, po', x', k', b, M, v, ss, hik, hil, rfl, rfl, hji, hpu, hk', HL0, HGI, HLL⟩ := hrel
    have HIK := Lib.hid hik
    have HJ := Lib.hid (And.intro hji (And.intro hpu hk'))
    have hi3 : i ≤ 200 := by omega
    have hi0 : (0 : Int) ≤ (i : Int) := Int.natCast_nonneg _
    have hj0 : (0 : Int) ≤ (j : Int) := Int.natCast_nonneg _
    have hj3 : j ≤ 200 := by omega
    clear hik HRL0 HGI0 hji hpu hk'
    by_cases hend : i < P.length ∧ i < 200
    · obtain ⟨h1, h2⟩ := hend
      have h1' : (i : Int) < (P.length : Int) := by omega
      have h2' : (i : Int) < 200 := by omega
      have HEND := Lib.hid (And.intro h1 h2)
      obtain ⟨bx, hx⟩ : ∃ x, P[i]? = some x := ⟨_, List.getElem?_eq_getElem h1⟩
      obtain ⟨pb, poff, rfl, hbl, qx⟩ := HP.out.at hx
      have HKP := Lib.hid (HB1.out.trans (HL0.out.hq.mz.kept.mono HB1.out.size))
      have c0 : wr.cell? ⟨pb, poff + i, none⟩ = some (.bool bx) := by
        have := (qx.below HKP.out hbl) 0 _ (by decide) rfl
        simpa [show Ck.boolK.k = 1 from rfl] using this
      have hik1 : IntKind.i64.wrap ((i : Int) + 1) = ((i + 1 : Nat) : Int) := by simp [IntKind.wrap, IntKind.bits, IntKind.signed]; omega
      have hjk1 : IntKind.i64.wrap ((j : Int) + 1) = ((j + 1 : Nat) : Int) := by simp [IntKind.wrap, IntKind.bits, IntKind.signed]; omega
      clear hx qx hbl h1 h2
      go_wp2_with fail
      go_at_call 14
      refine (mz_time HL0.out.hq.mz).mono ?_
      rintro e w4 ⟨rfl, rfl⟩
      rcases (show bx = true ∨ (bx = false ∧ ¬ j < I.length) ∨ (bx = false ∧ j < I.length) by cases bx <;> simp <;> omega) with rfl | ⟨rfl, hat⟩ | ⟨rfl, hat⟩
      case inr.inr =>
        obtain ⟨l0, hl0⟩ : ∃ l, I[j]? = some l := ⟨_, List.getElem?_eq_getElem hat⟩
        obtain ⟨lb, loff, u, rfl, hu, hr⟩ := rgrdl_at HL.out hl0
        have hcell := (HKP.out.cell (p := ⟨lb, loff + j, none⟩) (Lib.lt_of_cell hu)).trans hu
        have HR := Lib.hid (hr.below HKP.out)
        have HNI := Lib.hid (Batch.fix_nice hr.wf)
        obtain ⟨uo, uc, rfl, _⟩ := id hr
        have hat' : (j : Int) < (I.length : Int) := by omega
        clear hl0 hu hr
        go_wp2_with fail
        go_at_call 24
        refine (Batch.fix_any HR.out).mono ?_
        rintro e w5 ⟨v1, rfl, ho, hb⟩
        have hnew : ∀ g, v1.ownBlock = some g → wr.heap.size ≤ g ∧ g < w5.heap.size := fun g hg => World.ownsRow.lt ho g hg
        obtain ⟨xo, xc, rfl⟩ := bown_form0 ho
        obtain ⟨zs5, hrl5, hnq⟩ := HL0.out.with hb hnew
        have HRL5 := Lib.hid hrl5
        have HO5 := Lib.hid ho
        have HSV := Lib.hid (show ∀ g, (Sv.mk xo (Batch.fixL l0).length xc).val.ownBlock = some g → g ∈ (Value.slice xo (Batch.fixL l0).length xc).ownBlock.toList ++ fs ∧ g ≠ w3.heap.size from fun g hg => ⟨by
          have hg' : (Value.slice xo (Batch.fixL l0).length xc).ownBlock = some g := hg
          simp [hg'], hnq g hg⟩)
        have HQLT := Lib.hid (show w3.heap.size < w5.heap.size from hrl5.hq.flt _ (hrl5.hq.fz _ hrl5.qs.mq))
        clear ho hb hnew hrl5 hnq hcell
        generalize (Value.slice xo (Batch.fixL l0).length xc).ownBlock.toList ++ fs = fs5 at *
        go_wp2_with fail
        go_at_call 26
        refine (Batch.to_any (Batch.Own.rd HO5.out HNI.out.wf) (by have := HNI.out.len; omega)).mono ?_
        rintro e w6 ⟨v2, rfl, ho, hb⟩
        have HO6 := Lib.hid ho
        have HB6 := Lib.hid hb
        obtain ⟨_, _, rfl⟩ := bown_form0 ho
        clear ho hb
        go_wp2_with fail
        go_at_call 25
        refine (rgpush_yes (HRL5.out.hq.below HB6.out) rfl 0 (Batch.Own.sl HO6.out HNI.out.wf) (by have := HNI.out.len; omega) (fun g hg => by
          have h1 := (World.ownsRow.lt HO6.out g hg).1
          have h2 := HRL5.out.hq.ri.lt
          omega)).mono ?_
        rintro e w7 ⟨a, rfl, ha, bv, zs1, z1, z2, hg⟩
        have HG := Lib.hid (show Rg w1.heap.size w1 w5 fs5 zs1 a r ⟨p, 1, 1, N, true, false⟩ ⟨r, 0, false, bv, 0, 0, 0, false, false, 0⟩ (Batch.fixL l0) M w7 from hg)
        have HA := Lib.hid (Nat.le_trans HB6.out.size ha)
        clear hg c0 z1 z2 ha
        go_wp2_with fail
        go_at_call 16
        refine (rgover_any HG.out.ac).mono ?_
        rintro e w8 ⟨rfl, rfl⟩
        go_wp2_with fail
        go_at_call 25
        refine (rgpush_no HG.out.ri rfl 0 _).mono ?_
        rintro e w8 ⟨rfl, rfl⟩
        go_wp2_with fail
        go_at_call 17
        by_cases hn : L.length < N
        · refine (alone_push_ok HG.out (HGI.out.pushN _) hN64 (by have := HJ.out; omega) (by have := HJ.out; omega) (by decide) ⟨by have := HNI.out.len; omega, HNI.out.wf⟩ hn).mono ?_
          rintro e w8 ⟨rfl, M', gi', hlen, hg'⟩
          have HRL := Lib.hid (HRL5.out.back hg' HA.out)
          have HGI' := Lib.hid (gi'.pushN [])
          have HG' := Lib.hid hg'
          have haq : a ≠ w3.heap.size := by have := HA.out; have := HQLT.out; omega
          have HRD := Lib.hid (rdb_block (Batch.Own.rd HO5.out HNI.out.wf) (w' := w8) (fun g hg => by
            have h1 := (HSV.out g hg).1
            have h2 := HRL5.out.hq.flt g (HRL5.out.hq.fz g h1)
            exact hg'.fr g h1 (fun e => by have := HA.out; omega) (fun e => HRL5.out.nr (e ▸ h1))))
          have hss := HRL.out.form
          have HNN := Lib.hid hn
          clear gi' hg' hlen hn
          obtain ⟨_, _, _, hss⟩ := hss
          have HSS := Lib.hid hss
          clear hss
          go_wp2_with fail
          go_at_call 19
          refine (rgok_any HG'.out.ac).mono ?_
          rintro e w9 ⟨rfl, rfl⟩
          go_wp2_with fail
          go_at_call 27
          refine (rgqpush_yes HRL.out.qs.qa HRL.out.qs.row (by rw [HSS.out]; exact HNN.out) hN64 xo (Batch.fixL l0).length xc).mono ?_
          rintro e w9 ⟨rfl, w10, v', hb, ho, rfl⟩
          obtain ⟨zs6, hrl9⟩ := HRL.out.push (s := ⟨xo, (Batch.fixL l0).length, xc⟩) hb ho HRD.out HSV.out
          have HRL9 := Lib.hid hrl9
          have HA9 := Lib.hid (HG'.out.ac.of_block (HRL.out.old (v' := v') hb HG'.out.ac.lt haq))
          generalize w10.setCell ⟨w3.heap.size, 0, none⟩ v' = W at *
          clear hb ho hrl9 haq
          go_wp2_with fail
          go_at_call 23
          refine (rgmark_any HA9.out).mono ?_
          rintro e w14 ⟨rfl, rfl⟩
          go_wp2_with fail
          go_at_call 14
          refine (mz_time HRL9.out.hq.mz).mono ?_
          rintro e w15 ⟨rfl, rfl⟩
          go_wp2_with fail
          go_at_call 22
          refine (rgbatch_any HA9.out (Batch.Sl.nil _) (by decide)).mono ?_
          rintro e w11 ⟨v4, rfl, ho, hb4⟩
          obtain ⟨_, _, rfl⟩ := bown_form0 (show Batch.Own w11 W.heap.size 85 v4 [] from ho)
          have HRL6 := Lib.hid (HRL9.out.below hb4)
          clear ho hb4
          go_wp2_with fail
          go_roundg (gk - 1)
          case measure => have := HIK.out; have := HEND.out; omega
          case rel => exact ⟨i + 1, j + 1, _, _, _, pu + 1, po', _, _, _, _, _, _, by have := HIK.out; have := HEND.out; omega, by have := HEND.out; omega, by go_num, by go_num, by have := HJ.out; omega, by have := HJ.out; omega, by have := HJ.out; omega, HRL6, HGI', Lib.hid (fun l hl => (List.mem_append.1 hl).elim (HLL.out l) (fun h => by obtain rfl := List.mem_singleton.1 h; have := HNI.out.len; omega))⟩
        · have hn2 : L.length = N := by have := HGI.out.lN; omega
          refine (alone_push_no HG.out (HGI.out.pushN _) hN64 (by have := HJ.out; omega) (by have := HJ.out; omega) (by decide) hn2).mono ?_
          rintro e w8 ⟨rfl, M', gi', hlen, hg'⟩
          have HRL := Lib.hid (HRL5.out.back hg' HA.out)
          have HGI' := Lib.hid (gi'.pushN [])
          have HG' := Lib.hid hg'
          obtain ⟨vo, vc, rfl, _⟩ := HRL.out.form
          have HNN := Lib.hid (show N ≤ L.length by omega)
          clear gi' hg' hlen hn hn2
          go_wp2_with fail
          go_at_call 19
          refine (rgok_any HG'.out.ac).mono ?_
          rintro e w9 ⟨rfl, rfl⟩
          go_wp2_with fail
          go_at_call 27
          refine (rgqpush_no HRL.out.qs.qa HNN.out _).mono ?_
          rintro e w9 ⟨rfl, hb⟩
          have HRL9 := Lib.hid (HRL.out.below hb)
          have HA9 := Lib.hid (HG'.out.ac.of_block (hb.block a HG'.out.ac.lt))
          clear hb
          go_wp2_with fail
          go_at_call 23
          refine (rgmark_any HA9.out).mono ?_
          rintro e w14 ⟨rfl, rfl⟩
          go_wp2_with fail
          go_at_call 14
          refine (mz_time HRL9.out.hq.mz).mono ?_
          rintro e w15 ⟨rfl, rfl⟩
          go_wp2_with fail
          go_at_call 22
          refine (rgbatch_any HA9.out (Batch.Sl.nil _) (by decide)).mono ?_
          rintro e w11 ⟨v4, rfl, ho, hb4⟩
          obtain ⟨_, _, rfl⟩ := bown_form0 (show Batch.Own w11 w9.heap.size 85 v4 [] from ho)
          have HRL6 := Lib.hid (HRL9.out.below hb4)
          clear ho hb4
          go_wp2_with fail
          go_roundg (gk - 1)
          case measure => have := HIK.out; have := HEND.out; omega
          case rel => exact ⟨i + 1, j + 1, _, _, _, pu, po', _, _, _, _, _, _, by have := HIK.out; have := HEND.out; omega, by have := HEND.out; omega, by go_num, by go_num, by have := HJ.out; omega, by have := HJ.out; omega, by have := HJ.out; omega, HRL6, HGI', HLL⟩
      case inr.inl =>
        have hat' : ¬ (j : Int) < (I.length : Int) := by omega
        have hat2 : (I.length : Int) ≤ (j : Int) := by omega
        go_wp2_with fail
        go_at_call 15
        refine (rgpop_yes HL0.out.hq rfl 1).mono ?_
        rintro e w5 ⟨a, rfl, ha, zs1, z1, z2, hg⟩
        have HG := Lib.hid (show Rg w1.heap.size w1 wr fs zs1 a r ⟨p, 1, 1, N, false, true⟩ ⟨r, 1, true, .slice none 0 0, 0, 0, 0, false, false, 0⟩ [] M w5 from hg)
        have HA := Lib.hid ha
        clear hg c0 z1 z2 ha
        go_wp2_with fail
        go_at_call 16
        refine (rgover_any HG.out.ac).mono ?_
        rintro e w6 ⟨rfl, rfl⟩
        go_wp2_with fail
        go_at_call 15
        refine (rgpop_no HG.out.ri rfl 1).mono ?_
        rintro e w7 ⟨rfl, rfl⟩
        go_wp2_with fail
        go_at_call 17
        by_cases hL : L = []
        · refine (alone_pop_no HG.out HGI.out hN64 (by have := HJ.out; omega) (by have := HJ.out; omega) (by decide) hL).mono ?_
          rintro e w8 ⟨rfl, M', gi', hlen, hg'⟩
          have HRL := Lib.hid (HL0.out.back hg' HA.out)
          have HGI' := Lib.hid gi'
          have HG' := Lib.hid hg'
          have hmk : ¬ (M'.lg.length : Int) ≤ (M.lg.length : Int) := by omega
          obtain ⟨vo, vc, rfl, _⟩ := HRL.out.form
          subst hL
          clear gi' hg' hlen
          go_wp2_with fail
          go_at_call 18
          refine (rgqpop_no HRL.out.qs.qa).mono ?_
          rintro e w9 ⟨rfl, rfl⟩
          go_wp2_with fail
          go_at_call 19
          refine (rgok_any HG'.out.ac).mono ?_
          rintro e w10 ⟨rfl, rfl⟩
          go_wp2_with fail
          go_at_call 22
          refine (rgbatch_any HG'.out.ac HG'.out.sl (by decide)).mono ?_
          rintro e w11 ⟨v4, rfl, ho, hb4⟩
          have HO4 := Lib.hid (show Batch.Own w11 w8.heap.size 85 v4 [] from ho)
          have HB4 := Lib.hid hb4
          obtain ⟨_, _, rfl⟩ := bown_form0 HO4.out
          clear ho hb4
          go_wp2_with fail
          go_at_call 21
          refine (Batch.from_any (Batch.Own.rd HO4.out (by simp)) (by decide)).mono ?_
          rintro e w12 ⟨v5, rfl, ho, hb5⟩
          have HO5 := Lib.hid ho
          have HB5 := Lib.hid hb5
          obtain ⟨_, _, rfl⟩ := bown_form0 HO5.out
          clear ho hb5
          go_wp2_with fail
          go_at_call 20
          refine (Batch.refsame_any (Batch.Own.rd HO5.out (by simp)) (Batch.Rd.nil _)).mono ?_
          rintro e w13 ⟨rfl, hb6⟩
          rw [Batch.eqL_self]
          have HB6 := Lib.hid ((HB4.out.trans (HB5.out.mono HB4.out.size)).trans (hb6.mono (Nat.le_trans HB4.out.size HB5.out.size)))
          have HRL6 := Lib.hid (HRL.out.below HB6.out)
          have HA6 := Lib.hid (HG'.out.ac.of_block (HB6.out.block a HG'.out.ac.lt))
          clear hb6
          go_wp2_with fail
          go_at_call 23
          refine (rgmark_any HA6.out).mono ?_
          rintro e w14 ⟨rfl, rfl⟩
          go_wp2_with fail
          go_at_call 14
          refine (mz_time HRL6.out.hq.mz).mono ?_
          rintro e w15 ⟨rfl, rfl⟩
          go_wp2_with fail
          go_at_call 23
          refine (rgmark_any HA6.out).mono ?_
          rintro e w16 ⟨rfl, rfl⟩
          go_wp2_with fail
          go_roundg (gk - 1)
          case measure => have := HIK.out; have := HEND.out; omega
          case rel => exact ⟨i + 1, j, _, _, _, pu, po', x', _, _, _, _, _, by have := HIK.out; have := HEND.out; omega, by have := HEND.out; omega, rfl, by go_num, by have := HJ.out; omega, by have := HJ.out; omega, by have := HJ.out; omega, HRL6, HGI', Lib.hid (by simp)⟩
        · cases L with
          | nil => exact absurd rfl hL
          | cons c L' =>
          obtain ⟨_, _, hv0, hss⟩ := HL0.out.form
          have hqlt : w3.heap.size < wr.heap.size := HL0.out.hq.flt _ (HL0.out.hq.fz _ HL0.out.qs.mq)
          have haq : a ≠ w3.heap.size := by have := HA.out; omega
          have HQQ := Lib.hid (And.intro hqlt haq)
          cases ss with
          | nil => simp at hss
          | cons sv ss' =>
          refine (alone_pop_ok HG.out HGI.out hN64 (by have := HJ.out; omega) (by have := HJ.out; omega) (by decide) hL).mono ?_
          rintro e w8 ⟨rfl, M', b', v3, zs4, he, gi', hlen, z3, z4, hg'⟩
          obtain rfl : b' = c := by simpa using he.symm
          have HRL := Lib.hid (HL0.out.back hg' HA.out)
          have HGI' := Lib.hid gi'
          have HG' := Lib.hid hg'
          have hmk : ¬ (M'.lg.length : Int) ≤ (M.lg.length : Int) := by omega
          have hcl : b'.length ≤ 1000 := HLL.out b' (List.mem_cons_self ..)
          have hsl : ss'.length ≤ 64 := by
            have h1 := gi'.lN
            simp at hss h1
            omega
          obtain ⟨sa, sn, sc⟩ := sv
          have HSL := Lib.hid hsl
          have HCL := Lib.hid hcl
          clear gi' hg' hlen he z3 z4 hss hv0 hL hqlt haq hsl hcl
          go_wp2_with fail
          go_at_call 18
          refine (rgqpop_yes HRL.out.qs.qa HRL.out.qs.row HSL.out).mono ?_
          rintro e w9 ⟨he9, w10, v', hb, ho, rfl⟩
          change e = .returned (.tuple #[.slice sa sn sc, .bool true]) at he9
          subst he9
          obtain ⟨zs5, hrl9⟩ := HRL.out.pop hb ho
          have HRL9 := Lib.hid hrl9
          have HA9 := Lib.hid (HG'.out.ac.of_block (HRL.out.old (v' := v') hb HG'.out.ac.lt HQQ.out.2))
          have HBV := Lib.hid (sl_notq HRL.out.qs.qa HG'.out.sl (w' := w10.setCell ⟨w3.heap.size, 0, none⟩ v') (fun g hg hq => HRL.out.old hb (HRL.out.hq.flt g (HG'.out.bv g hg).1) hq))
          have HRS := Lib.hid (rdb_block HRL.out.first.1 (w' := w10.setCell ⟨w3.heap.size, 0, none⟩ v') (fun g hg => HRL.out.old hb (HRL.out.hq.flt g (HRL.out.hq.fz g (HRL.out.first.2 g hg).1)) (HRL.out.first.2 g hg).2))
          generalize w10.setCell ⟨w3.heap.size, 0, none⟩ v' = W at *
          clear hb ho hrl9
          go_wp2_with fail
          go_at_call 19
          refine (rgok_any HA9.out).mono ?_
          rintro e w11 ⟨rfl, rfl⟩
          go_wp2_with fail
          go_at_call 22
          refine (rgbatch_any HA9.out HBV.out HCL.out).mono ?_
          rintro e w11 ⟨v4, rfl, ho, hb4⟩
          have HO4 := Lib.hid (show Batch.Own w11 W.heap.size 85 v4 b' from ho)
          have HB4 := Lib.hid hb4
          obtain ⟨_, _, rfl⟩ := bown_form0 HO4.out
          clear ho hb4
          go_wp2_with fail
          go_at_call 21
          refine (Batch.from_any (Batch.Own.rd HO4.out HRS.out.wf) (by have := HCL.out; omega)).mono ?_
          rintro e w12 ⟨v5, rfl, ho, hb5⟩
          have HO5 := Lib.hid ho
          have HB5 := Lib.hid hb5
          obtain ⟨_, _, rfl⟩ := bown_form0 HO5.out
          clear ho hb5
          go_wp2_with fail
          go_at_call 20
          refine (Batch.refsame_any (Batch.Own.rd HO5.out HRS.out.wf) ((HRS.out.below HB4.out).below HB5.out)).mono ?_
          rintro e w13 ⟨rfl, hb6⟩
          rw [Batch.eqL_self]
          have HB6 := Lib.hid ((HB4.out.trans (HB5.out.mono HB4.out.size)).trans (hb6.mono (Nat.le_trans HB4.out.size HB5.out.size)))
          have HRL6 := Lib.hid (HRL9.out.below HB6.out)
          have HA6 := Lib.hid (HA9.out.of_block (HB6.out.block a HA9.out.lt))
          clear hb6
          go_wp2_with fail
          go_at_call 23
          refine (rgmark_any HA6.out).mono ?_
          rintro e w14 ⟨rfl, rfl⟩
          go_wp2_with fail
          go_at_call 14
          refine (mz_time HRL6.out.hq.mz).mono ?_
          rintro e w15 ⟨rfl, rfl⟩
          go_wp2_with fail
          go_at_call 23
          refine (rgmark_any HA6.out).mono ?_
          rintro e w16 ⟨rfl, rfl⟩
          go_wp2_with fail
          go_roundg (gk - 1)
          case measure => have := HIK.out; have := HEND.out; omega
          case rel => exact ⟨i + 1, j, _, _, _, pu, po' + 1, x', _, _, _, _, _, by have := HIK.out; have := HEND.out; omega, by have := HEND.out; omega, rfl, by go_num, by have := HJ.out; omega, by have := HJ.out; omega, by have := HJ.out; omega, HRL6, HGI', Lib.hid (fun l hl => HLL.out l (List.mem_cons_of_mem _ hl))⟩
      go_wp2_with fail
      go_at_call 15
      refine (rgpop_yes HL0.out.hq rfl 1).mono ?_
      rintro e w5 ⟨a, rfl, ha, zs1, z1, z2, hg⟩
      have HG := Lib.hid (show Rg w1.heap.size w1 wr fs zs1 a r ⟨p, 1, 1, N, false, true⟩ ⟨r, 1, true, .slice none 0 0, 0, 0, 0, false, false, 0⟩ [] M w5 from hg)
      have HA := Lib.hid ha
      clear hg c0 z1 z2 ha
      go_wp2_with fail
      go_at_call 16
      refine (rgover_any HG.out.ac).mono ?_
      rintro e w6 ⟨rfl, rfl⟩
      go_wp2_with fail
      go_at_call 15
      refine (rgpop_no HG.out.ri rfl 1).mono ?_
      rintro e w7 ⟨rfl, rfl⟩
      go_wp2_with fail
      go_at_call 17
      by_cases hL : L = []
      · refine (alone_pop_no HG.out HGI.out hN64 (by have := HJ.out; omega) (by have := HJ.out; omega) (by decide) hL).mono ?_
        rintro e w8 ⟨rfl, M', gi', hlen, hg'⟩
        have HRL := Lib.hid (HL0.out.back hg' HA.out)
        have HGI' := Lib.hid gi'
        have HG' := Lib.hid hg'
        have hmk : ¬ (M'.lg.length : Int) ≤ (M.lg.length : Int) := by omega
        obtain ⟨vo, vc, rfl, _⟩ := HRL.out.form
        subst hL
        clear gi' hg' hlen
        go_wp2_with fail
        go_at_call 18
        refine (rgqpop_no HRL.out.qs.qa).mono ?_
        rintro e w9 ⟨rfl, rfl⟩
        go_wp2_with fail
        go_at_call 19
        refine (rgok_any HG'.out.ac).mono ?_
        rintro e w10 ⟨rfl, rfl⟩
        go_wp2_with fail
        go_at_call 22
        refine (rgbatch_any HG'.out.ac HG'.out.sl (by decide)).mono ?_
        rintro e w11 ⟨v4, rfl, ho, hb4⟩
        have HO4 := Lib.hid (show Batch.Own w11 w8.heap.size 85 v4 [] from ho)
        have HB4 := Lib.hid hb4
        obtain ⟨_, _, rfl⟩ := bown_form0 HO4.out
        clear ho hb4
        go_wp2_with fail
        go_at_call 21
        refine (Batch.from_any (Batch.Own.rd HO4.out (by simp)) (by decide)).mono ?_
        rintro e w12 ⟨v5, rfl, ho, hb5⟩
        have HO5 := Lib.hid ho
        have HB5 := Lib.hid hb5
        obtain ⟨_, _, rfl⟩ := bown_form0 HO5.out
        clear ho hb5
        go_wp2_with fail
        go_at_call 20
        refine (Batch.refsame_any (Batch.Own.rd HO5.out (by simp)) (Batch.Rd.nil _)).mono ?_
        rintro e w13 ⟨rfl, hb6⟩
        rw [Batch.eqL_self]
        have HB6 := Lib.hid ((HB4.out.trans (HB5.out.mono HB4.out.size)).trans (hb6.mono (Nat.le_trans HB4.out.size HB5.out.size)))
        have HRL6 := Lib.hid (HRL.out.below HB6.out)
        have HA6 := Lib.hid (HG'.out.ac.of_block (HB6.out.block a HG'.out.ac.lt))
        clear hb6
        go_wp2_with fail
        go_at_call 23
        refine (rgmark_any HA6.out).mono ?_
        rintro e w14 ⟨rfl, rfl⟩
        go_wp2_with fail
        go_at_call 14
        refine (mz_time HRL6.out.hq.mz).mono ?_
        rintro e w15 ⟨rfl, rfl⟩
        go_wp2_with fail
        go_at_call 23
        refine (rgmark_any HA6.out).mono ?_
        rintro e w16 ⟨rfl, rfl⟩
        go_wp2_with fail
        go_roundg (gk - 1)
        case measure => have := HIK.out; have := HEND.out; omega
        case rel => exact ⟨i + 1, j, _, _, _, pu, po', x', _, _, _, _, _, by have := HIK.out; have := HEND.out; omega, by have := HEND.out; omega, rfl, by go_num, by have := HJ.out; omega, by have := HJ.out; omega, by have := HJ.out; omega, HRL6, HGI', Lib.hid (by simp)⟩
      · cases L with
        | nil => exact absurd rfl hL
        | cons c L' =>
        obtain ⟨_, _, hv0, hss⟩ := HL0.out.form
        have hqlt : w3.heap.size < wr.heap.size := HL0.out.hq.flt _ (HL0.out.hq.fz _ HL0.out.qs.mq)
        have haq : a ≠ w3.heap.size := by have := HA.out; omega
        have HQQ := Lib.hid (And.intro hqlt haq)
        cases ss with
        | nil => simp at hss
        | cons sv ss' =>
        refine (alone_pop_ok HG.out HGI.out hN64 (by have := HJ.out; omega) (by have := HJ.out; omega) (by decide) hL).mono ?_
        rintro e w8 ⟨rfl, M', b', v3, zs4, he, gi', hlen, z3, z4, hg'⟩
        obtain rfl : b' = c := by simpa using he.symm
        have HRL := Lib.hid (HL0.out.back hg' HA.out)
        have HGI' := Lib.hid gi'
        have HG' := Lib.hid hg'
        have hmk : ¬ (M'.lg.length : Int) ≤ (M.lg.length : Int) := by omega
        have hcl : b'.length ≤ 1000 := HLL.out b' (List.mem_cons_self ..)
        have hsl : ss'.length ≤ 64 := by
          have h1 := gi'.lN
          simp at hss h1
          omega
        obtain ⟨sa, sn, sc⟩ := sv
        have HSL := Lib.hid hsl
        have HCL := Lib.hid hcl
        clear gi' hg' hlen he z3 z4 hss hv0 hL hqlt haq hsl hcl
        go_wp2_with fail
        go_at_call 18
        refine (rgqpop_yes HRL.out.qs.qa HRL.out.qs.row HSL.out).mono ?_
        rintro e w9 ⟨he9, w10, v', hb, ho, rfl⟩
        change e = .returned (.tuple #[.slice sa sn sc, .bool true]) at he9
        subst he9
        obtain ⟨zs5, hrl9⟩ := HRL.out.pop hb ho
        have HRL9 := Lib.hid hrl9
        have HA9 := Lib.hid (HG'.out.ac.of_block (HRL.out.old (v' := v') hb HG'.out.ac.lt HQQ.out.2))
        have HBV := Lib.hid (sl_notq HRL.out.qs.qa HG'.out.sl (w' := w10.setCell ⟨w3.heap.size, 0, none⟩ v') (fun g hg hq => HRL.out.old hb (HRL.out.hq.flt g (HG'.out.bv g hg).1) hq))
        have HRS := Lib.hid (rdb_block HRL.out.first.1 (w' := w10.setCell ⟨w3.heap.size, 0, none⟩ v') (fun g hg => HRL.out.old hb (HRL.out.hq.flt g (HRL.out.hq.fz g (HRL.out.first.2 g hg).1)) (HRL.out.first.2 g hg).2))
        generalize w10.setCell ⟨w3.heap.size, 0, none⟩ v' = W at *
        clear hb ho hrl9
        go_wp2_with fail
        go_at_call 19
        refine (rgok_any HA9.out).mono ?_
        rintro e w11 ⟨rfl, rfl⟩
        go_wp2_with fail
        go_at_call 22
        refine (rgbatch_any HA9.out HBV.out HCL.out).mono ?_
        rintro e w11 ⟨v4, rfl, ho, hb4⟩
        have HO4 := Lib.hid (show Batch.Own w11 W.heap.size 85 v4 b' from ho)
        have HB4 := Lib.hid hb4
        obtain ⟨_, _, rfl⟩ := bown_form0 HO4.out
        clear ho hb4
        go_wp2_with fail
        go_at_call 21
        refine (Batch.from_any (Batch.Own.rd HO4.out HRS.out.wf) (by have := HCL.out; omega)).mono ?_
        rintro e w12 ⟨v5, rfl, ho, hb5⟩
        have HO5 := Lib.hid ho
        have HB5 := Lib.hid hb5
        obtain ⟨_, _, rfl⟩ := bown_form0 HO5.out
        clear ho hb5
        go_wp2_with fail
        go_at_call 20
        refine (Batch.refsame_any (Batch.Own.rd HO5.out HRS.out.wf) ((HRS.out.below HB4.out).below HB5.out)).mono ?_
        rintro e w13 ⟨rfl, hb6⟩
        rw [Batch.eqL_self]
        have HB6 := Lib.hid ((HB4.out.trans (HB5.out.mono HB4.out.size)).trans (hb6.mono (Nat.le_trans HB4.out.size HB5.out.size)))
        have HRL6 := Lib.hid (HRL9.out.below HB6.out)
        have HA6 := Lib.hid (HA9.out.of_block (HB6.out.block a HA9.out.lt))
        clear hb6
        go_wp2_with fail
        go_at_call 23
        refine (rgmark_any HA6.out).mono ?_
        rintro e w14 ⟨rfl, rfl⟩
        go_wp2_with fail
        go_at_call 14
        refine (mz_time HRL6.out.hq.mz).mono ?_
        rintro e w15 ⟨rfl, rfl⟩
        go_wp2_with fail
        go_at_call 23
        refine (rgmark_any HA6.out).mono ?_
        rintro e w16 ⟨rfl, rfl⟩
        go_wp2_with fail
        go_roundg (gk - 1)
        case measure => have := HIK.out; have := HEND.out; omega
        case rel => exact ⟨i + 1, j, _, _, _, pu, po' + 1, x', _, _, _, _, _, by have := HIK.out; have := HEND.out; omega, by have := HEND.out; omega, rfl, by go_num, by have := HJ.out; omega, by have := HJ.out; omega, by have := HJ.out; omega, HRL6, HGI', Lib.hid (fun l hl => HLL.out l (List.mem_cons_of_mem _ hl))⟩
    · have HLB := Lib.hid (HB1.out.trans (HL0.out.hq.mz.kept.mono HB1.out.size))
      by_cases hlt : i < P.length
      · have h2 : ¬ (i : Int) < 200 := by omega
        have h1 : (i : Int) < (P.length : Int) := by omega
        go_wp2_with fail
        go_ret
        exact ⟨rfl, HLB.out⟩
      · have h1 : ¬ (i : Int) < (P.length : Int) := by omega
        go_wp2_with fail
        go_ret
        exact ⟨rfl, HLB.out⟩
end Go.Proofs.Ytjmkcgkkgamafaa.Rg
