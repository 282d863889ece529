/-
  PACKAGE clock: meeting: the first Race of one Who's.
-/
import Derived.Test.YtmggnalobfihnaaCkIdx
namespace Go.Proofs.Ytmggnalobfihnaa.Ck
open Go.RowKit Rw Mm Go.Maps Pk
set_option linter.unusedVariables false

structure MtS (n0 b5 b10 gw gh gg gs nw nt : Nat) (who : Int) (W H G S : List Int) (w0 w : World) : Prop where
  aw : Own intK w 0 3 (.slice (some ⟨gw, 0, none⟩) nw nw) W
  ah : Own intK w 0 3 (.slice (some ⟨gh, 0, none⟩) nt nt) H
  ag : Own intK w 0 3 (.slice (some ⟨gg, 0, none⟩) nt nt) G
  az : Own intK w 0 3 (.slice (some ⟨gs, 0, none⟩) nt nt) S
  d : gw ≠ gh ∧ gw ≠ gg ∧ gw ≠ gs ∧ gh ≠ gg ∧ gh ≠ gs ∧ gg ≠ gs
  n : n0 ≤ gw ∧ n0 ≤ gh ∧ n0 ≤ gg ∧ n0 ≤ gs
  c5 : w.heap[b5]? = some (.cells #[.int .i64 who] 3 (0, 0))
  c10 : w.heap[b10]? = some (.cells #[.int .i64 who, .slice (some ⟨gw, 0, none⟩) nw nw, .slice (some ⟨gh, 0, none⟩) nt nt] 119 (0, 0))
  x5 : b5 ≠ gw ∧ b5 ≠ gh ∧ b5 ≠ gg ∧ b5 ≠ gs
  x10 : b10 ≠ gw ∧ b10 ≠ gh ∧ b10 ≠ gg ∧ b10 ≠ gs
  bl : Below n0 w0 w
  nl : n0 ≤ w.heap.size
section
variable {n0 b5 b10 gw gh gg gs nw nt : Nat} {who : Int} {W H G S W' H' : List Int} {w0 w w' : World}
theorem MtS.below (h : MtS n0 b5 b10 gw gh gg gs nw nt who W H G S w0 w) (hb : Below w.heap.size w w') : MtS n0 b5 b10 gw gh gg gs nw nt who W H G S w0 w' :=
  ⟨h.aw.below hb, h.ah.below hb, h.ag.below hb, h.az.below hb, h.d, h.n, (hb.block _ (Array.getElem?_eq_some_iff.1 h.c5).1).trans h.c5, (hb.block _ (Array.getElem?_eq_some_iff.1 h.c10).1).trans h.c10, h.x5, h.x10, h.bl.trans (hb.mono h.nl), Nat.le_trans h.nl hb.size⟩
theorem NextP.low {gw gh nw nt B : Nat} (h : NextP gw gh nw nt w W' H' w') (h1 : B ≤ gw) (h2 : B ≤ gh) (hs : B ≤ w.heap.size) : Below B w w' :=
  ⟨h.bl.os, h.bl.tape, h.bl.output, h.bl.size, fun k hk => h.out k (by omega) (by omega) (by omega)⟩
theorem MtS.next (h : MtS n0 b5 b10 gw gh gg gs nw nt who W H G S w0 w) (k : NextP gw gh nw nt w W' H' w') : MtS n0 b5 b10 gw gh gg gs nw nt who W' H' G S w0 w' := by
  obtain ⟨d1, d2, d3, d4, d5, d6⟩ := h.d
  obtain ⟨x1, x2, _, _⟩ := h.x5
  obtain ⟨y1, y2, _, _⟩ := h.x10
  obtain ⟨n1, n2, _, _⟩ := h.n
  exact ⟨k.aw, k.ah, own_blockq h.ag (k.out _ (own_block_lt h.ag rfl) d2.symm d4.symm), own_blockq h.az (k.out _ (own_block_lt h.az rfl) d3.symm d5.symm), h.d, h.n, (k.out _ (Array.getElem?_eq_some_iff.1 h.c5).1 x1 x2).trans h.c5, (k.out _ (Array.getElem?_eq_some_iff.1 h.c10).1 y1 y2).trans h.c10, h.x5, h.x10, h.bl.trans (k.low n1 n2 h.nl), Nat.le_trans h.nl k.sz⟩
theorem MtS.setG (h : MtS n0 b5 b10 gw gh gg gs nw nt who W H G S w0 w) {i : Nat} (hi : i < G.length) (y : Int) : MtS n0 b5 b10 gw gh gg gs nw nt who W H (G.set i y) S w0 (w.setCell ⟨gg, i, none⟩ (.int .i64 y)) := by
  obtain ⟨d1, d2, d3, d4, d5, d6⟩ := h.d
  obtain ⟨_, _, x3, _⟩ := h.x5
  obtain ⟨_, _, y3, _⟩ := h.x10
  obtain ⟨_, _, n3, _⟩ := h.n
  have e : ∀ j, j ≠ gg → (w.setCell ⟨gg, i, none⟩ (.int .i64 y)).heap[j]? = w.heap[j]? := fun j hj => Below.heap_setCell _ _ _ _ hj
  exact ⟨own_blockq h.aw (e _ d2), own_blockq h.ah (e _ d4), own_int h.ag hi y, own_blockq h.az (e _ d6.symm), h.d, h.n, (e _ x3).trans h.c5, (e _ y3).trans h.c10, h.x5, h.x10, h.bl.setCell n3 _, by rw [size_setCell]; exact h.nl⟩
theorem MtS.setS (h : MtS n0 b5 b10 gw gh gg gs nw nt who W H G S w0 w) {i : Nat} (hi : i < S.length) (y : Int) : MtS n0 b5 b10 gw gh gg gs nw nt who W H G (S.set i y) w0 (w.setCell ⟨gs, i, none⟩ (.int .i64 y)) := by
  obtain ⟨d1, d2, d3, d4, d5, d6⟩ := h.d
  obtain ⟨_, _, _, x4⟩ := h.x5
  obtain ⟨_, _, _, y4⟩ := h.x10
  obtain ⟨_, _, _, n4⟩ := h.n
  have e : ∀ j, j ≠ gs → (w.setCell ⟨gs, i, none⟩ (.int .i64 y)).heap[j]? = w.heap[j]? := fun j hj => Below.heap_setCell _ _ _ _ hj
  exact ⟨own_blockq h.aw (e _ d3), own_blockq h.ah (e _ d5), own_blockq h.ag (e _ d6), own_int h.az hi y, h.d, h.n, (e _ x4).trans h.c5, (e _ y4).trans h.c10, h.x5, h.x10, h.bl.setCell n4 _, by rw [size_setCell]; exact h.nl⟩
theorem MtS.cells (h : MtS n0 b5 b10 gw gh gg gs nw nt who W H G S w0 w) : w.cell? ⟨b5, 0, none⟩ = some (.int .i64 who) ∧ w.cell? ⟨b10, 0, none⟩ = some (.int .i64 who) ∧ w.cell? ⟨b10, 1, none⟩ = some (.slice (some ⟨gw, 0, none⟩) nw nw) ∧ w.cell? ⟨b10, 2, none⟩ = some (.slice (some ⟨gh, 0, none⟩) nt nt) := by
  have h5 := h.c5
  have h10 := h.c10
  refine ⟨?_, ?_, ?_, ?_⟩ <;> simp [World.cell?, h5, h10]
theorem mt_start {o : Obj} {w1 wx : World} (h1 : Own intK w1 (w.heap.size + 1) 3 (.slice (some ⟨gw, 0, none⟩) nw nw) (List.replicate nw 0)) (h2 : Own intK w1 (w.heap.size + 1) 3 (.slice (some ⟨gh, 0, none⟩) nt nt) (List.replicate nt 0)) (hne : gw ≠ gh)
    (h5 : w1.heap[w.heap.size]? = some (.cells #[.int .i64 who] 3 (0, 0))) (hb1 : Below w.heap.size w w1)
    (h10 : wx.heap[w1.heap.size]? = some (.cells #[.int .i64 who, .slice (some ⟨gw, 0, none⟩) nw nw, .slice (some ⟨gh, 0, none⟩) nt nt] 119 (0, 0)))
    (n1 : ∀ (w' : World) (g : Nat), w'.heap[g]? = some o → Own intK w' 0 3 (.slice (some ⟨g, 0, none⟩) nt nt) (List.replicate nt 0)) (hg : wx.heap[gg]? = some o) (hs : wx.heap[gs]? = some o) (r1 : gg ≠ gs) (r2 : w1.heap.size < gg) (r3 : w1.heap.size < gs) (hbx : Below w1.heap.size w1 wx) :
    MtS w.heap.size w.heap.size w1.heap.size gw gh gg gs nw nt who (List.replicate nw 0) (List.replicate nt 0) (List.replicate nt 0) (List.replicate nt 0) w wx := by
  have b1 := World.ownsRow.lt h1 gw rfl
  have b2 := World.ownsRow.lt h2 gh rfl
  have hl := hb1.size
  exact ⟨own_rebase (h1.below hbx) (Nat.zero_le _), own_rebase (h2.below hbx) (Nat.zero_le _), n1 _ _ hg, n1 _ _ hs, ⟨hne, by omega, by omega, by omega, by omega, r1⟩, ⟨by omega, by omega, by omega, by omega⟩, (hbx.block _ (Array.getElem?_eq_some_iff.1 h5).1).trans h5, h10, ⟨by omega, by omega, by omega, by omega⟩, ⟨by omega, by omega, by omega, by omega⟩, hb1.trans (hbx.mono hl), Nat.le_trans hl hbx.size⟩
end
theorem rr_part {w : World} {b off n cap : Nat} {m : List Ev} (h : Rr evK w (.slice (some ⟨b, off, none⟩) n cap) m) {N k : Nat} (hN : N ≤ k) (hk : k ≤ m.length) (hk0 : 0 < m.length) : Rr evK w (.slice (some ⟨b, off + N * 4, none⟩) (k - N) (cap - N)) ((m.take k).drop N) := by
  obtain ⟨ao, cp, hv, h1, h2, h3, h4⟩ := h
  simp only [Value.slice.injEq] at hv
  obtain ⟨rfl, rfl, rfl⟩ := hv
  have hlen : ((m.take k).drop N).length = k - N := by rw [List.length_drop, List.length_take]; omega
  refine ⟨_, _, by rw [hlen], ?_, by rw [hlen]; omega, by omega, fun x hx => h4 x (List.mem_of_mem_take (List.mem_of_mem_drop hx))⟩
  rcases h1 with h1 | ⟨b', off', hbl, ha, h1⟩
  · subst h1; simp at hk0
  · simp only [Option.some.injEq, Addr.mk.injEq] at ha
    obtain ⟨rfl, rfl, _⟩ := ha
    refine .inr ⟨b, off + N * 4, hbl, rfl, fun i x hx => ?_⟩
    rw [List.getElem?_drop] at hx
    have := h1 (N + i) x (take_some hx).1
    have e : off + (N + i) * evK.k = off + N * 4 + i * evK.k := by show off + (N + i) * 4 = off + N * 4 + i * 4; omega
    rw [← e]; exact this
def MtQ (m : List Ev) (who : Int) (w : World) (r : Ending) (w' : World) : Prop := ∃ x y, r = .returned (.tuple #[.int .i64 x, .int .i64 y]) ∧ FirstW m who x y ∧ Below w.heap.size w w'
theorem ret_2 {a b : Int} {v : Value} (h : a = b) : Ending.returned (.tuple #[.int .i64 a, v]) = .returned (.tuple #[.int .i64 b, v]) := by rw [h]
set_option maxRecDepth 1000000 in
set_option maxHeartbeats 16000000 in
theorem meeting_any {w : World} {v : Value} {m : List Ev} {nw nt : Nat} (hv : Rr evK w v m) (hG : Gd m nw nt) (hml : m.length ≤ 20000) (hnw : nw ≤ 20000) (hnt : nt ≤ 20000) (who : Int) (hwho : 0 ≤ who) :
    Calls Try.prog 40 #[v, .int .i64 who, .int .i64 (nw : Int), .int .i64 (nt : Int)] w (MtQ m who w) := by
  obtain ⟨o1, m1, n1⟩ := mk_eq (S := intK) (by decide) 23 3 _ 0 8 Try.underlying23 infoI8 rfl nt (by omega) (by omega)
  have N1 := Lib.hid n1
  have HV := Lib.hid hv
  have HG := Lib.hid hG
  obtain ⟨ao, cap, rfl, hv1, hv2⟩ := hv.form
  have HV1 := Lib.hid hv1
  obtain ⟨W0, hW0⟩ : ∃ W0, W0 = w.alloc (.cells #[.int .i64 who] 3) := ⟨_, rfl⟩
  have hb0 : Below w.heap.size w W0 := by rw [hW0]; exact (Below.refl _ _).alloc (Nat.le_refl _) _
  have h5 : W0.heap[w.heap.size]? = some (.cells #[.int .i64 who] 3 (0, 0)) := by rw [hW0]; exact heap_alloc_new w _
  have hsz : W0.heap.size = w.heap.size + 1 := by rw [hW0]; simp
  have HB0 := Lib.hid hb0
  have H5 := Lib.hid h5
  have HSZ := Lib.hid hsz
  have HW0 := Lib.hid hW0
  have hmf : ∀ (fn : Fn) (first cap : Array Value) (w : World), (Instr.makeFunc fn first cap).run Try.prog w = .ok (.func fn first cap) w := fun _ _ _ _ => rfl
  clear hv n1 hG hb0 h5 hsz hW0
  go_enter Try.func40, Try.ntmps40
  go_wp2_with fail
  go_at_call 58
  rw [← HW0.out]
  refine (begin_any who nw nt hnw hnt _).mono ?_
  rintro r w1 ⟨gw, gh, rfl, h1, h2, hne, hb1⟩
  rw [HSZ.out] at h1 h2
  have H1 := Lib.hid h1
  have H2 := Lib.hid h2
  have HNE := Lib.hid hne
  have H51 := Lib.hid ((hb1.block _ (Array.getElem?_eq_some_iff.1 H5.out).1).trans H5.out)
  have HB1 := Lib.hid (HB0.out.trans (hb1.mono HB0.out.size))
  clear h1 h2 hne hb1 H5 HB0 HSZ
  go_upto_region 2 with fail
  go_cut [11, 12] from 16 to 100 (fun s t wx => ∃ gg gs, s = .slice (some ⟨gg, 0, none⟩) nt nt ∧ t = .slice (some ⟨gs, 0, none⟩) nt nt ∧ Hid (MtS w.heap.size w.heap.size w1.heap.size gw gh gg gs nw nt who (List.replicate nw 0) (List.replicate nt 0) (List.replicate nt 0) (List.replicate nt 0) w wx))
  case first =>
    go_region
    all_goals go_wp2_with fail
    all_goals go_meet
    · obtain ⟨q0, q1, q2⟩ := heap3 w1 (.cells #[.int .i64 who, .slice (some ⟨gw, 0, none⟩) nw nw, .slice (some ⟨gh, 0, none⟩) nt nt] 119) o1 o1
      exact ⟨_, _, rfl, rfl, Lib.hid (mt_start H1.out H2.out HNE.out H51.out HB1.out q0 N1.out q1 q2 (by omega) (by omega) (by omega) ((((Below.refl _ _).alloc (Nat.le_refl _) _).alloc (by simp) _).alloc (by simp; omega) _).drew)⟩
    · obtain ⟨q0, q1, q2⟩ := heap3 w1 (.cells #[.int .i64 who, .slice (some ⟨gw, 0, none⟩) nw nw, .slice (some ⟨gh, 0, none⟩) nt nt] 119) o1 o1
      exact ⟨_, _, rfl, rfl, Lib.hid (mt_start H1.out H2.out HNE.out H51.out HB1.out q0 N1.out q2 q1 (by omega) (by omega) (by omega) ((((Below.refl _ _).alloc (Nat.le_refl _) _).alloc (by simp) _).alloc (by simp; omega) _).drew)⟩
  case rest =>
    obtain ⟨gg, gs, rfl, rfl, HM0⟩ := hcut
    clear H1 H2 HNE H51 HB1 N1 m1
    have HI0 := Lib.hid (inv_start m who nw nt)
    have HMI0 := Lib.hid (minv_start m who nt)
    have HN0 : Hid (NoneP m who 0) := Lib.hid (fun k' hk => absurd hk (by omega))
    go_wp2_with fail
    go_loopg [26] m.length (fun k t wr => ∃ (i : Nat) (W H G S : List Int), i + k = m.length ∧ t = .int .i64 (i : Int) ∧ Hid (Inv m who nw nt i W H) ∧ Hid (MInv m who nt i G S) ∧ Hid (NoneP m who i) ∧ Hid (MtS w.heap.size w.heap.size w1.heap.size gw gh gg gs nw nt who W H G S w wr))
    case atStart => exact ⟨0, _, _, _, _, by omega, rfl, HI0, HMI0, HN0, HM0⟩
    case round =>
      obtain ⟨i, W, H, G, S, hik, rfl, HI, HMI, HN, HM⟩ := hrel
      clear HI0 HMI0 HN0 HM0
      have HIK := Lib.hid hik
      have hi0 : (0 : Int) ≤ (i : Int) := Int.natCast_nonneg _
      by_cases hlt : i < m.length
      · have hi1 : (i : Int) < (m.length : Int) := by omega
        have HLT := Lib.hid hlt
        obtain ⟨⟨ew, ek, ea, eo⟩, hx⟩ : ∃ x, m[i]? = some x := ⟨_, List.getElem?_eq_getElem hlt⟩
        obtain ⟨b, off, rfl, hbl, qx⟩ := HV.out.at hx
        have qy := qx.below HM.out.bl hbl
        have c0 := qy 0 _ (by decide) rfl
        have c1 := qy 1 _ (by decide) rfl
        have c2 := qy 2 _ (by decide) rfl
        have c3 := qy 3 _ (by decide) rfl
        simp only [show evK.k = 4 from rfl, Nat.add_zero] at c0 c1 c2 c3
        obtain ⟨W1, hW1⟩ : ∃ W1, W1 = wr.alloc (.cells #[.int .i64 ew, .int .i64 ek, .int .i64 ea, .bool eo] 98) := ⟨_, rfl⟩
        have hbw : Below wr.heap.size wr W1 := by rw [hW1]; exact (Below.refl _ _).alloc (Nat.le_refl _) _
        have hst : W1.heap[wr.heap.size]? = some (.cells #[.int .i64 ew, .int .i64 ek, .int .i64 ea, .bool eo] 98 (0, 0)) := by rw [hW1]; exact heap_alloc_new wr _
        have HST := Lib.hid hst
        have HM1 := Lib.hid (HM.out.below hbw)
        have HW1 := Lib.hid hW1
        have HX := Lib.hid hx
        obtain ⟨_, a1, a2, a3⟩ := HM.out.cells
        obtain ⟨_, a0, _, _⟩ := HM.out.cells
        have hb10 : w1.heap.size < wr.heap.size := (Array.getElem?_eq_some_iff.1 HM.out.c10).1
        have hb5 : w.heap.size < wr.heap.size := (Array.getElem?_eq_some_iff.1 HM.out.c5).1
        have HNB := Lib.hid (And.intro (show wr.heap.size ≠ gw by have := own_block_lt HM.out.aw (g := gw) rfl; omega) (And.intro (show wr.heap.size ≠ gh by have := own_block_lt HM.out.ah (g := gh) rfl; omega) (And.intro (show wr.heap.size ≠ gg by have := own_block_lt HM.out.ag (g := gg) rfl; omega) (show wr.heap.size ≠ gs by have := own_block_lt HM.out.az (g := gs) rfl; omega))))
        clear hik hlt hx qx qy hbw hst hW1
        by_cases te : Th ⟨ew, ek, ea, eo⟩
        · have HTE := Lib.hid te
          have HGY := Lib.hid (HG.out.yes i _ HX.out te)
          have HKT := Lib.hid (known_top HG.out HI.out HX.out te)
          have HI1 := Lib.hid (next_inv HG.out HI.out HX.out te)
          obtain ⟨ia, hia⟩ : ∃ ia : Nat, ea = (ia : Int) := ⟨ea.toNat, by have := HGY.out.2.1; simp only at this; omega⟩
          subst hia
          have hia1 : (ia : Int) < (nt : Int) := HGY.out.2.2
          have hia0 : (0 : Int) ≤ (ia : Int) := Int.natCast_nonneg _
          obtain ⟨N, hN⟩ : ∃ N : Nat, knownF ⟨ew, ek, (ia : Int), eo⟩ W H = (N : Int) := ⟨(knownF ⟨ew, ek, (ia : Int), eo⟩ W H).toNat, by have := HKT.out.1; omega⟩
          have hNi : (N : Int) ≤ (i : Int) := by rw [← hN]; exact HKT.out.le fun j hj => hj.lt
          have hN0 : (0 : Int) ≤ (N : Int) := Int.natCast_nonneg _
          rw [hN] at HKT
          have HNE := Lib.hid hN
          clear hN te
          go_wp2_with fail
          go_at_call 59
          rw [← HW1.out]
          refine (next_yes HM1.out.aw HM1.out.ah HM1.out.d.1 HI.out.lw HI.out.lh hnw hnt who i (by have := HLT.out; omega) ⟨ew, ek, (ia : Int), eo⟩ HTE.out HGY.out.1 HGY.out.2).mono ?_
          rintro r w2 ⟨rfl, hnx⟩
          rw [HNE.out]
          have HM2 := Lib.hid (HM1.out.next hnx)
          have hst2 := (hnx.out _ (Array.getElem?_eq_some_iff.1 HST.out).1 HNB.out.1 HNB.out.2.1).trans HST.out
          have hev := evIn_new (e := ⟨ew, ek, (ia : Int), eo⟩) hst2
          have HEV := Lib.hid hev
          obtain ⟨e0, e1, e2, e3⟩ := hev
          simp only at e0 e1 e2 e3
          obtain ⟨z5, _, _, _⟩ := HM2.out.cells
          have hlg := HMI.out.lg
          have hls := HMI.out.ls
          obtain ⟨kg, fg⟩ := int_at HM2.out.ag (i := ia) (by omega)
          obtain ⟨ks, fs⟩ := int_at HM2.out.az (i := ia) (by omega)
          have HGL : Hid (ia < G.length) := Lib.hid (by omega)
          have HSL : Hid (ia < S.length) := Lib.hid (by omega)
          obtain ⟨xg, hxg⟩ : ∃ xg, xg = G.getD ia 0 := ⟨_, rfl⟩
          obtain ⟨xs, hxs⟩ : ∃ xs, xs = S.getD ia 0 := ⟨_, rfl⟩
          rw [← hxg] at kg
          rw [← hxs] at ks
          have HXG := Lib.hid hxg
          have HXS := Lib.hid hxs
          have HM3 := HM2
          clear hnx hst2 hlg hls hxg hxs HM HM1 HST HW1 c0 c1 c2 c3 a0 a1 a2 a3 HI HTE HGY
          by_cases k2 : ek = 2 ∨ ek = 3
          · by_cases hw : ew = who
            · subst hw
              have hww : (ew == ew) = true := by simp
              rcases k2 with rfl | rfl
              · have HMI1 := Lib.hid (minv_get HG.out HMI.out HX.out rfl rfl)
                have HN1 := Lib.hid (none_skip HN.out HX.out (.inr rfl))
                have HM4 := Lib.hid (HM3.out.setG HGL.out ((i : Int) + 1))
                go_wp2_with fail
                go_roundg (gk - 1)
                case measure => have := HIK.out; have := HLT.out; omega
                case rel => exact ⟨i + 1, _, _, _, _, by have := HIK.out; have := HLT.out; omega, by go_num, HI1, HMI1, HN1, HM4⟩
              · have HMI1 := Lib.hid (minv_set HG.out HMI.out HX.out rfl rfl)
                have HN1 := Lib.hid (none_skip HN.out HX.out (.inr rfl))
                have HM4 := Lib.hid (HM3.out.setS HSL.out ((i : Int) + 1))
                go_wp2_with fail
                go_roundg (gk - 1)
                case measure => have := HIK.out; have := HLT.out; omega
                case rel => exact ⟨i + 1, _, _, _, _, by have := HIK.out; have := HLT.out; omega, by go_num, HI1, HMI1, HN1, HM4⟩
            · have hww : (ew == who) = false := by simpa using hw
              have HWN := Lib.hid hw
              clear hw
              rcases k2 with rfl | rfl
              · by_cases hs : (N : Int) < xs
                · have HTS : Hid (testB ⟨ew, 2, (ia : Int), eo⟩ G S (N : Int) = true) := Lib.hid (by unfold testB; rw [show (S.getD ((ia : Int)).toNat 0) = xs from HXS.out.symm, decide_eq_true hs]; rfl)
                  have HF := Lib.hid (pick_first HG.out HMI.out HKT.out hwho HX.out (.inl rfl) HWN.out HTS.out HN.out)
                  obtain ⟨j, ⟨jw, jk, ja, jo⟩, hj1, hj2, hj3, hj4⟩ := HF.out
                  have hjl := (List.getElem?_eq_some_iff.1 hj1).1
                  rw [List.length_drop, List.length_take] at hjl
                  have HJ1 := Lib.hid hj1
                  have HJ2 := Lib.hid hj2
                  have HJ3 := Lib.hid hj3
                  have HJ4 := Lib.hid hj4
                  have HJL : Hid (j ≤ 20000) := Lib.hid (by omega)
                  have HP := Lib.hid (rr_part (HV.out.below HM3.out.bl) (N := N) (k := i) (by omega) (Nat.le_of_lt HLT.out) (by have := HLT.out; omega))
                  have hv1' := HV1.out
                  have hNc : (N : Int) < (cap : Int) := by have := HLT.out; omega
                  have hic : (i : Int) ≤ (cap : Int) := by have := HLT.out; omega
                  clear hj1 hj2 hj3 hj4 hjl HF hv1'
                  go_upto_region 14 with fail
                  go_wp2_with fail
                  go_at_call 60
                  refine (idxf_any HP.out who ⟨ew, 2, (ia : Int), eo⟩ z5 HEV.out HJ1.out HJ2.out HJ3.out).mono ?_
                  rintro r w3 ⟨rfl, hb3⟩
                  have HB3 := Lib.hid (HM3.out.bl.trans (hb3.mono HM3.out.nl))
                  have hj0 : (0 : Int) ≤ (j : Int) := Int.natCast_nonneg _
                  have hj9 : (j : Int) ≤ 20000 := by have := HJL.out; omega
                  have hN9 : (N : Int) ≤ 20000 := by omega
                  clear hb3
                  go_wp2_with fail
                  go_ret2
                  exact ⟨_, _, rfl, HJ4.out, HB3.out⟩
                · have HTS : Hid (testB ⟨ew, 2, (ia : Int), eo⟩ G S (N : Int) = false) := Lib.hid (by unfold testB; rw [show (S.getD ((ia : Int)).toNat 0) = xs from HXS.out.symm, decide_eq_false hs]; rfl)
                  have HMI1 := Lib.hid (minv_skip HMI.out HX.out (fun h => HWN.out h.1))
                  have HN1 := Lib.hid (none_test HG.out HMI.out HKT.out hwho HX.out (.inl rfl) HWN.out HTS.out HN.out)
                  go_wp2_with fail
                  go_roundg (gk - 1)
                  case measure => have := HIK.out; have := HLT.out; omega
                  case rel => exact ⟨i + 1, _, _, _, _, by have := HIK.out; have := HLT.out; omega, by go_num, HI1, HMI1, HN1, HM3⟩
              · by_cases hs : (N : Int) < xs
                · have HTS : Hid (testB ⟨ew, 3, (ia : Int), eo⟩ G S (N : Int) = true) := Lib.hid (by unfold testB; rw [show (S.getD ((ia : Int)).toNat 0) = xs from HXS.out.symm, decide_eq_true hs]; rfl)
                  have HF := Lib.hid (pick_first HG.out HMI.out HKT.out hwho HX.out (.inr rfl) HWN.out HTS.out HN.out)
                  obtain ⟨j, ⟨jw, jk, ja, jo⟩, hj1, hj2, hj3, hj4⟩ := HF.out
                  have hjl := (List.getElem?_eq_some_iff.1 hj1).1
                  rw [List.length_drop, List.length_take] at hjl
                  have HJ1 := Lib.hid hj1
                  have HJ2 := Lib.hid hj2
                  have HJ3 := Lib.hid hj3
                  have HJ4 := Lib.hid hj4
                  have HJL : Hid (j ≤ 20000) := Lib.hid (by omega)
                  have HP := Lib.hid (rr_part (HV.out.below HM3.out.bl) (N := N) (k := i) (by omega) (Nat.le_of_lt HLT.out) (by have := HLT.out; omega))
                  have hv1' := HV1.out
                  have hNc : (N : Int) < (cap : Int) := by have := HLT.out; omega
                  have hic : (i : Int) ≤ (cap : Int) := by have := HLT.out; omega
                  clear hj1 hj2 hj3 hj4 hjl HF hv1'
                  go_upto_region 14 with fail
                  go_wp2_with fail
                  go_at_call 60
                  refine (idxf_any HP.out who ⟨ew, 3, (ia : Int), eo⟩ z5 HEV.out HJ1.out HJ2.out HJ3.out).mono ?_
                  rintro r w3 ⟨rfl, hb3⟩
                  have HB3 := Lib.hid (HM3.out.bl.trans (hb3.mono HM3.out.nl))
                  have hj0 : (0 : Int) ≤ (j : Int) := Int.natCast_nonneg _
                  have hj9 : (j : Int) ≤ 20000 := by have := HJL.out; omega
                  have hN9 : (N : Int) ≤ 20000 := by omega
                  clear hb3
                  go_wp2_with fail
                  go_ret2
                  exact ⟨_, _, rfl, HJ4.out, HB3.out⟩
                · by_cases hg : (N : Int) < xg
                  · have HTS : Hid (testB ⟨ew, 3, (ia : Int), eo⟩ G S (N : Int) = true) := Lib.hid (by unfold testB; rw [show (G.getD ((ia : Int)).toNat 0) = xg from HXG.out.symm, decide_eq_true hg]; simp)
                    have HF := Lib.hid (pick_first HG.out HMI.out HKT.out hwho HX.out (.inr rfl) HWN.out HTS.out HN.out)
                    obtain ⟨j, ⟨jw, jk, ja, jo⟩, hj1, hj2, hj3, hj4⟩ := HF.out
                    have hjl := (List.getElem?_eq_some_iff.1 hj1).1
                    rw [List.length_drop, List.length_take] at hjl
                    have HJ1 := Lib.hid hj1
                    have HJ2 := Lib.hid hj2
                    have HJ3 := Lib.hid hj3
                    have HJ4 := Lib.hid hj4
                    have HJL : Hid (j ≤ 20000) := Lib.hid (by omega)
                    have HP := Lib.hid (rr_part (HV.out.below HM3.out.bl) (N := N) (k := i) (by omega) (Nat.le_of_lt HLT.out) (by have := HLT.out; omega))
                    have hv1' := HV1.out
                    have hNc : (N : Int) < (cap : Int) := by have := HLT.out; omega
                    have hic : (i : Int) ≤ (cap : Int) := by have := HLT.out; omega
                    clear hj1 hj2 hj3 hj4 hjl HF hv1'
                    go_upto_region 14 with fail
                    go_wp2_with fail
                    go_at_call 60
                    refine (idxf_any HP.out who ⟨ew, 3, (ia : Int), eo⟩ z5 HEV.out HJ1.out HJ2.out HJ3.out).mono ?_
                    rintro r w3 ⟨rfl, hb3⟩
                    have HB3 := Lib.hid (HM3.out.bl.trans (hb3.mono HM3.out.nl))
                    have hj0 : (0 : Int) ≤ (j : Int) := Int.natCast_nonneg _
                    have hj9 : (j : Int) ≤ 20000 := by have := HJL.out; omega
                    have hN9 : (N : Int) ≤ 20000 := by omega
                    clear hb3
                    go_wp2_with fail
                    go_ret2
                    exact ⟨_, _, rfl, HJ4.out, HB3.out⟩
                  · have HTS : Hid (testB ⟨ew, 3, (ia : Int), eo⟩ G S (N : Int) = false) := Lib.hid (by unfold testB; rw [show (S.getD ((ia : Int)).toNat 0) = xs from HXS.out.symm, show (G.getD ((ia : Int)).toNat 0) = xg from HXG.out.symm, decide_eq_false hs, decide_eq_false hg]; rfl)
                    have HMI1 := Lib.hid (minv_skip HMI.out HX.out (fun h => HWN.out h.1))
                    have HN1 := Lib.hid (none_test HG.out HMI.out HKT.out hwho HX.out (.inr rfl) HWN.out HTS.out HN.out)
                    go_wp2_with fail
                    go_roundg (gk - 1)
                    case measure => have := HIK.out; have := HLT.out; omega
                    case rel => exact ⟨i + 1, _, _, _, _, by have := HIK.out; have := HLT.out; omega, by go_num, HI1, HMI1, HN1, HM3⟩
          · have n2 : (ek != 2) = true := by simp; omega
            have n3 : (ek != 3) = true := by simp; omega
            have HMI1 := Lib.hid (minv_skip HMI.out HX.out (fun h => k2 h.2))
            have HN1 := Lib.hid (none_skip HN.out HX.out (.inl k2))
            clear k2
            go_wp2_with fail
            go_roundg (gk - 1)
            case measure => have := HIK.out; have := HLT.out; omega
            case rel => exact ⟨i + 1, _, _, _, _, by have := HIK.out; have := HLT.out; omega, by go_num, HI1, HMI1, HN1, HM3⟩
        · have hno := HG.out.no i _ HX.out te
          simp only [Ev.mk.injEq] at hno
          obtain ⟨rfl, rfl, rfl, rfl⟩ := hno
          have HTE := Lib.hid te
          have HI1 := Lib.hid (next_no HG.out HI.out HX.out te)
          have HMI1 := Lib.hid (minv_skip HMI.out HX.out (fun h => by have := h.2; simp at this))
          have HN1 := Lib.hid (none_skip HN.out HX.out (.inl (fun h => by simp at h)))
          clear te
          go_wp2_with fail
          go_at_call 59
          rw [← HW1.out]
          refine (next_not HM1.out.aw HM1.out.ah HM1.out.d.1 who (i : Int) ⟨-1, -1, -1, false⟩ HTE.out).mono ?_
          rintro r w2 ⟨rfl, hnx⟩
          have HM2 := Lib.hid (HM1.out.next hnx)
          obtain ⟨e0, e1, e2, e3⟩ := evIn_new (e := ⟨-1, -1, -1, false⟩) ((hnx.out _ (Array.getElem?_eq_some_iff.1 HST.out).1 HNB.out.1 HNB.out.2.1).trans HST.out)
          simp only at e0 e1 e2 e3
          clear hnx HM HM1 HST HW1 c0 c1 c2 c3 a0 a1 a2 a3 HI HTE
          go_wp2_with fail
          go_roundg (gk - 1)
          case measure => have := HIK.out; have := HLT.out; omega
          case rel => exact ⟨i + 1, _, _, _, _, by have := HIK.out; have := HLT.out; omega, by go_num, HI1, HMI1, HN1, HM2⟩
      · have hi1 : ¬ (i : Int) < (m.length : Int) := by omega
        have hie : i = m.length := by omega
        have HNE : Hid (NoneP m who m.length) := Lib.hid (by rw [← hie]; exact HN.out)
        clear hik hlt hie
        go_wp2_with fail
        go_ret2
        exact ⟨_, _, rfl, .inl ⟨rfl, rfl, HNE.out⟩, HM.out.bl⟩
end Go.Proofs.Ytmggnalobfihnaa.Ck
