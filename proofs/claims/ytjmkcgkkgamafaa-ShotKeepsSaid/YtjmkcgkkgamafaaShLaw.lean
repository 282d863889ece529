/-
  THE LAW ShotAlone: its walk.
-/
import Derived.Test.YtjmkcgkkgamafaaShTold
import Derived.Test.YtjmkcgkkgamafaaJoined9
namespace Go.Proofs.Ytjmkcgkkgamafaa.Sh
open Go.RowKit Rw Pk Go.Maps Mm
set_option linter.unusedVariables false
section
variable {n r np s p a g : Nat} {tr V who : Int} {w w' w0 w1 : World} {fs zs zs' : List Nat} {tv v' : Value} {T T' P : List Int} {D : List (Int × Int)} {M M' : Mm.St} {A : Sa} {k : Nat} {held : Bool}
/-- The Shot, and the document's, at one moment. -/
structure Lw (n : Nat) (w0 : World) (s r np p : Nat) (tr : Int) (zs fs : List Nat) (tv : Value) (T : List Int) (M : Mm.St) (w : World) : Prop where
  hq : Sq n w0 w fs zs s ⟨p, 1, 1, np, tr⟩ M w
  rs : RSh w r tv
  ts : Rr u64K w tv T
  rf : r ∈ fs
  rn : n ≤ r
  rz : r ≠ s
  tf : ∀ g, tv.ownBlock = some g → g ∈ fs ∧ g ≠ r
theorem Lw.below (h : Lw n w0 s r np p tr zs fs tv T M w) (hb : Below w.heap.size w w') : Lw n w0 s r np p tr zs fs tv T M w' :=
  ⟨(h.hq.below hb).rebase h.hq.fz, by obtain ⟨Ty, hT⟩ := h.rs; exact ⟨Ty, (hb.block r h.rs.cell.2.2).trans hT⟩, h.ts.below hb, h.rf, h.rn, h.rz, h.tf⟩
theorem Lw.back (h : Lw n w0 s r np p tr zs fs tv T M w) (hg : Sg n w0 w fs zs' a s ⟨p, 1, 1, np, tr⟩ A P T' D M' w') : Lw n w0 s r np p tr zs' fs tv T M' w' :=
  ⟨hg.sq.rebase hg.fz, by obtain ⟨Ty, hT⟩ := h.rs; exact ⟨Ty, (hg.fr r h.rf).trans hT⟩, rr_block h.ts hg.sz (fun g hg' => hg.fr g (h.tf g hg').1), h.rf, h.rn, h.rz, h.tf⟩
theorem Lw.with (h : Lw n w0 s r np p tr zs fs tv T M w) (hb : Below w.heap.size w w') {u : Value} (hu : ∀ g, u.ownBlock = some g → w.heap.size ≤ g ∧ g < w'.heap.size) : ∃ zs', Lw n w0 s r np p tr zs' (u.ownBlock.toList ++ fs) tv T M w' := by
  have h1 := h.below hb
  refine ⟨_, (h.hq.all hb).rebase (fun j hj => ?_), h1.rs, h1.ts, List.mem_append.2 (.inr h.rf), h.rn, h.rz, fun g hg => ⟨List.mem_append.2 (.inr (h.tf g hg).1), (h.tf g hg).2⟩⟩
  rcases List.mem_append.1 hj with hj | hj
  · have := hu j (by simpa using hj)
    exact Rg.all_mem this.1 this.2
  · exact Rg.all_old _ (h.hq.fz j hj)
/-- Other times. -/
theorem Lw.setT (h : Lw n w0 s r np p tr zs fs tv T M w) (hb : Below w.heap.size w w1) (ho : Own u64K w1 w.heap.size 53 v' T') (hw : ∀ x ∈ T', u64K.wf x) : ∃ zs' fs', Lw n w0 s r np p tr zs' fs' v' T' M (w1.setCell ⟨r, 0, none⟩ v') := by
  have hrl := h.rs.cell.2.2
  have hq := h.hq.all hb
  have hrz := Rg.all_old (x := w.heap.size) (y := w1.heap.size) r (h.hq.fz r h.rf)
  have hv : ∀ g, v'.ownBlock = some g → w.heap.size ≤ g ∧ g < w1.heap.size := fun g hg => World.ownsRow.lt ho g hg
  have hz : w1.heap.size ≤ (w1.setCell ⟨r, 0, none⟩ v').heap.size := Nat.le_of_eq (Mm.size_setCell _ _ _).symm
  refine ⟨_, r :: v'.ownBlock.toList, ⟨hq.mz.store hrz h.rn 0 v', hq.si.of_block (Below.heap_setCell _ _ _ _ (Ne.symm h.rz)), hq.sm, hq.ns, fun j hj => ?_, fun _ _ => rfl, Nat.le_refl _⟩, ?_, rr_block ((ho.sl hw).rr) hz (fun g hg => Below.heap_setCell _ _ _ _ (show g ≠ r by have := (hv g hg).1; omega)), List.mem_cons_self .., h.rn, h.rz, fun g hg => ⟨by simp [hg], by have := (hv g hg).1; omega⟩⟩
  · rcases List.mem_cons.1 hj with rfl | hj
    · exact hrz
    · have := hv j (by simpa using hj)
      exact Rg.all_mem this.1 this.2
  · obtain ⟨Ty, hT⟩ := h.rs
    exact ⟨Ty, heap_setCell_same w1 r 0 _ _ _ ((hb.block r hrl).trans hT)⟩
theorem Lw.start (h : Sq n w0 w1 [] zs s ⟨p, 1, 1, np, tr⟩ M w) (hb : Below w.heap.size w w') (hr : w.heap.size ≤ r) (hr' : RSh w' r tv) (ht : Rr u64K w' tv T) (hv : ∀ g, tv.ownBlock = some g → w.heap.size ≤ g ∧ g < w'.heap.size ∧ g ≠ r) : ∃ zs' fs', Lw n w0 s r np p tr zs' fs' tv T M w' := by
  have h1 := h.all hb
  have hrl := hr'.cell.2.2
  have h2 := h.mz.nl
  have h3 := h.si.lt
  refine ⟨_, r :: tv.ownBlock.toList, h1.rebase (fun j hj => ?_), hr', ht, List.mem_cons_self .., by omega, by omega, fun g hg => ⟨by simp [hg], (hv g hg).2.2⟩⟩
  rcases List.mem_cons.1 hj with rfl | hj
  · exact Rg.all_mem hr hrl
  · have := hv j (by simpa using hj)
    exact Rg.all_mem this.1 this.2.1
theorem shholder_any (h : Sq n w0 w1 fs zs s ⟨p, 1, 1, np, tr⟩ M w) (hm : Wm np k V T false who M) (hn : np ≤ 64) (hk : k ≤ 100000) :
    Calls Try.prog 44 #[.pointer (some ⟨p, 0, none⟩), .int .i64 1] w fun e w' => e = .returned (.int .i64 (-1)) ∧ w = w' := by
  obtain ⟨L, hL, ht, _⟩ := hm.la
  obtain ⟨τ, h1, _⟩ := h.mz
  have hh := holder_any h1 (hm.good.bnd (by omega) (by decide) (by decide) (by omega)).1.1 1 hL
  rw [ht] at hh
  exact hh
end
theorem one_more {q np : Nat} (h : np = q + 1) (hq : q < 1000) : IntKind.i64.wrap (1 + (q : Int)) = (np : Int) ∧ wrap64 (1 + (q : Int)) = (np : Int) := ⟨by rw [IntKind.wrap_i64]; omega, by unfold wrap64; omega⟩
theorem ev_of (m : Nat) : (2 * (m : Int)).tmod 2 = 0 := Int.mul_tmod_right 2 _
set_option maxRecDepth 1000000 in
set_option maxHeartbeats 16000000 in
theorem shotAlone_any {w : World} (x y : Int) {v : Value} {J : List Jb} (hv : RdJ w v J) :
    Calls Try.prog 9 #[.int .i64 x, .int .i64 y, v] w fun e w' => e = .returned (.bool true) ∧ Below w.heap.size w w' := by
  have HJ := Lib.hid hv
  obtain ⟨jo, jc, rfl, hjl, _⟩ := hv
  obtain ⟨q, hq, _, p2, p3⟩ := port_of (n := 64) x (by decide) (by decide)
  obtain ⟨q', hq', _, p2', p3'⟩ := port_of (n := 8) y (by decide) (by decide)
  obtain ⟨np, hnp⟩ : ∃ np : Nat, np = q + 1 := ⟨_, rfl⟩
  obtain ⟨tr, htr⟩ : ∃ tr : Nat, tr = q' + 1 := ⟨_, rfl⟩
  have HP := Lib.hid (And.intro p2 p3)
  have HP' := Lib.hid (And.intro p2' p3')
  clear p2 p3 p2' p3'
  have HN : Hid (1 ≤ np ∧ np ≤ 64) := Lib.hid (by omega)
  have HT : Hid (1 ≤ tr ∧ tr ≤ 8) := Lib.hid (by omega)
  obtain ⟨o1, m1, n1⟩ := mk_eq (S := u64K) (by decide) 92 53 (.int .u64 0) 0 8 Try.underlying92 infoU8 rfl np (by omega) (by omega)
  have N1 := Lib.hid n1
  obtain ⟨p6, p7⟩ := one_more hnp (Nat.lt_trans hq (by decide))
  obtain ⟨p6', p7'⟩ := one_more htr (Nat.lt_trans hq' (by decide))
  clear n1 hq hq' hnp htr
  have p4 : wrap64 ((IntKind.u64.wrap x).tmod 64) = (q : Int) := HP.out.1
  have p5 : IntKind.i64.wrap ((IntKind.u64.wrap x).tmod 64) = (q : Int) := HP.out.2
  have p4' : wrap64 ((IntKind.u64.wrap y).tmod 8) = (q' : Int) := HP'.out.1
  have p5' : IntKind.i64.wrap ((IntKind.u64.wrap y).tmod 8) = (q' : Int) := HP'.out.2
  go_enter Try.func9, Try.ntmps9
  go_wp2_with fail
  go_at_call 48
  try rw [p6]
  try rw [p6']
  refine (shbegin_any np tr HN.out HT.out w).mono ?_
  rintro e w1 ⟨p, s, zs, rfl, hq⟩
  have HQ := Lib.hid hq
  clear hq p4 p5 p4' p5' p6 p7 p6' p7'
  go_wp2_with fail
  go_at_call 49
  refine (shtold_any w1).mono ?_
  rintro e w2 ⟨rfl, hb⟩
  have HB2 := Lib.hid hb
  clear hb
  go_wp2_with fail
  have hg1 := heap_alloc_new w2 o1
  have hb3 : Below w2.heap.size w2 ((w2.alloc o1).alloc (.cells #[.slice (some ⟨w2.heap.size, 0, none⟩) np np] 94)) := ((Below.refl _ _).alloc (Nat.le_refl _) _).alloc (by simp) _
  have hg2 := heap_alloc_new (w2.alloc o1) (.cells #[.slice (some ⟨w2.heap.size, 0, none⟩) np np] 94)
  have hsz : (w2.alloc o1).heap.size = w2.heap.size + 1 := by simp
  rw [hsz] at hg2
  have hown : Own u64K (w2.alloc o1) w2.heap.size 53 (.slice (some ⟨w2.heap.size, 0, none⟩) np np) (List.replicate np 0) := Ck.own_rebase (N1.out _ _ hg1) (Nat.le_refl _)
  obtain ⟨zs0, fs0, hlw⟩ := Lw.start (r := w2.heap.size + 1) (tv := .slice (some ⟨w2.heap.size, 0, none⟩) np np) (T := List.replicate np 0) (HQ.out.below HB2.out |>.rebase (fs' := []) (by simp)) hb3 (by omega) ⟨_, hg2⟩ (((hown.below ((Below.refl _ _).alloc (Nat.le_refl _) _)).sl (fun x hx => by rw [(List.mem_replicate.1 hx).2]; exact ⟨by decide, by decide⟩)).rr) (fun g hg => by
    have e : w2.heap.size = g := by simpa [Value.ownBlock] using hg
    subst e
    exact ⟨Nat.le_refl _, by simp; omega, by omega⟩)
  have HL0 := Lib.hid hlw
  have HW0 := Lib.hid (wm_init np)
  clear hg1 hb3 hg2 hsz hown hlw HQ HB2 N1 m1
  go_loopg [11] 30 (fun k t wr => ∃ (i m k' : Nat) (zs fs : List Nat) (tv : Value) (T : List Int) (M : Mm.St) (who : Int), i + k = 30 ∧ i ≤ J.length ∧ t = .int .i64 (i : Int) ∧ m ≤ i ∧ k' ≤ 100 * i ∧ Hid (Lw w.heap.size w s (w2.heap.size + 1) np p tr zs fs tv T M wr) ∧ Hid (Wm np k' (2 * (m : Int)) T false who M) ∧ Hid (∀ x ∈ T, u64K.wf x))
  case atStart => exact ⟨0, 0, 0, _, _, _, _, _, 0, rfl, by omega, rfl, by omega, by omega, HL0, HW0, Lib.hid (fun x hx => by rw [(List.mem_replicate.1 hx).2]; exact ⟨by decide, by decide⟩)⟩
  case round =>
    obtain ⟨i, m, k', zs, fs, tv, T, M, who, hik, hil, rfl, hmi, hki, HL, HM, HTW⟩ := hrel
    have HIK := Lib.hid hik
    have HK := Lib.hid (And.intro hmi hki)
    have hi3 : i ≤ 30 := by omega
    have hi0 : (0 : Int) ≤ (i : Int) := Int.natCast_nonneg _
    clear hik HL0 HW0 hmi hki
    have HKB := Lib.hid HL.out.hq.mz.kept
    by_cases hend : i < J.length ∧ i < 30
    · obtain ⟨h1, h2⟩ := hend
      have h1' : (i : Int) < (J.length : Int) := by omega
      have h2' : (i : Int) < 30 := by omega
      have HEND := Lib.hid (And.intro h1 h2)
      obtain ⟨⟨rd, ps, ts⟩, hx⟩ : ∃ x, J[i]? = some x := ⟨_, List.getElem?_eq_getElem h1⟩
      obtain ⟨jb, joff, rfl, hj⟩ := HJ.out.at hx
      obtain ⟨j0, ⟨u1, j1, hr1⟩, u2, j2, hr2⟩ := hj.below HKB.out
      obtain ⟨po, pc, rfl, _⟩ := hr1.form
      obtain ⟨to2, tc2, rfl, _⟩ := hr2.form
      have HR1 := Lib.hid hr1
      have HR2 := Lib.hid hr2
      have hik1 : IntKind.i64.wrap ((i : Int) + 1) = ((i + 1 : Nat) : Int) := by simp [IntKind.wrap, IntKind.bits, IntKind.signed]; omega
      simp only at j0 j1 j2
      clear hx hj hr1 hr2 h1 h2
      cases rd with
      | true =>
        go_wp2_with fail
        go_at_call 50
        refine (some_any HR1.out HN.out.1 (by have := HN.out; omega)).mono ?_
        rintro e w5 ⟨vp, Q, rfl, hQ1, hQ2, hQ3, ho, hb⟩
        have hvb : ∀ g, vp.ownBlock = some g → wr.heap.size ≤ g ∧ g < w5.heap.size := fun g hg => World.ownsRow.lt ho g hg
        obtain ⟨zs5, hl5⟩ := HL.out.with hb hvb
        obtain ⟨vpo, vpc, rfl⟩ := ho.form2
        have HP5 := Lib.hid ((ho.sl (fun x hx => by have := castQ_mem hQ3 x hx; have := HN.out; exact ⟨by omega, by omega⟩)).rr)
        have HQ := Lib.hid (And.intro hQ1 (And.intro hQ2 hQ3))
        have HL5 := Lib.hid hl5
        have HVF := Lib.hid (show ∀ g, (Value.slice vpo (castQ Q).length vpc).ownBlock = some g → g ∈ (Value.slice vpo (castQ Q).length vpc).ownBlock.toList ++ fs from fun g hg => List.mem_append.2 (.inl (by simp [hg])))
        clear ho hb hQ1 hQ2 hQ3 hvb hl5
        generalize (Value.slice vpo (castQ Q).length vpc).ownBlock.toList ++ fs = fs5 at *
        have HQ0 : Hid (castQ Q ≠ []) := Lib.hid (fun e => by have h := congrArg List.length e; simp [castQ] at h; have := HQ.out.1; rw [h] at this; simp at this)
        have HQL : Hid ((castQ Q).length ≤ 64) := Lib.hid (by have := HQ.out; simp [castQ]; omega)
        go_wp2_with fail
        go_at_call 51
        refine (shread_any HL5.out.hq HP5.out (castQ_mem HQ.out.2.2) (by show (np : Int) ≤ 64; have := HN.out; omega) HQ0.out HQL.out (i : Int) (by omega)).mono ?_
        rintro e w6 ⟨a, rfl, ha, pv, dv, zs6, hpf, hdf, hs⟩
        have HS6 := Lib.hid hs
        clear hs ha hpf hdf
        go_wp2_with fail
        go_at_call 52
        refine (shover_any HS6.out.sa HS6.out.tod).mono ?_
        rw [show decide (tryD (castQ Q) = []) = false from by simp [tryD]]
        rintro e w7 ⟨rfl, rfl⟩
        go_wp2_with fail
        go_at_call 53
        refine (shmark_any HS6.out.sa).mono ?_
        rintro e w7 ⟨rfl, rfl⟩
        go_wp2_with fail
        go_at_call 54
        refine (shtimes_no HS6.out.sa HS6.out.tod (.inl (by simp [tryD]))).mono ?_
        rintro e w7 ⟨rfl, rfl⟩
        go_wp2_with fail
        go_at_call 55
        refine (shrd_run HS6.out HM.out HN.out (by have := HQ.out; omega) HQ.out.2.2 (by omega) (ev_of m) (by have := HK.out; omega)).mono ?_
        rintro e w8 ⟨rfl, zs8, pv8, tv8, dv8, M8, hlg8, hw8, hs8⟩
        have HS8 := Lib.hid hs8
        have HW8 := Lib.hid hw8
        have HL8 := Lib.hid (HL5.out.back hs8)
        have HP8 := Lib.hid (rr_block HP5.out hs8.sz (fun g hg => hs8.fr g (HVF.out g hg)))
        have hmk : ¬ ((M8.lg.length : Int) < 1) := by omega
        have HLT := Lib.hid HM.out.lt
        have HGW := Lib.hid (gotT_wf HTW.out HLT.out HQ.out.2.2)
        have HGN : Hid (gotT T Q ≠ [] ∧ (gotT T Q).length ≤ 1000) := Lib.hid ⟨fun e => by have h := congrArg List.length e; simp [gotT] at h; have := HQ.out.1; rw [h] at this; simp at this, by have := HQ.out; simp [gotT]; omega⟩
        clear hlg8 hw8 hs8
        go_wp2_with fail
        go_at_call 54
        refine (shtimes_yes HS8.out.sa HS8.out.tod rfl HS8.out.ti HGW.out HGN.out.1 HGN.out.2).mono ?_
        rintro e w9 ⟨v9, rfl, ho9, hb9⟩
        obtain ⟨o9, c9, rfl⟩ := ho9.form2
        have HR9 := Lib.hid ((ho9.sl HGW.out).rr)
        have HB9 := Lib.hid hb9
        have HL9 := Lib.hid (HL8.out.below hb9)
        have HP9 := Lib.hid (HP8.out.below hb9)
        clear ho9 hb9
        go_wp2_with fail
        go_at_call 57
        refine (refread13_any HL9.out.rs HL9.out.ts HLT.out (by have := HN.out; omega) HP9.out HQ.out.2.2 (by have := HQ.out; omega)).mono ?_
        rintro e w10 ⟨v10, rfl, ho10, hb10⟩
        obtain ⟨o10, c10, rfl⟩ := ho10.form2
        have HR10 := Lib.hid ((ho10.sl HGW.out).rr)
        have HR9' := Lib.hid (HR9.out.below hb10)
        have HB10 := Lib.hid (HB9.out.trans (hb10.mono HB9.out.size))
        clear ho10 hb10
        go_wp2_with fail
        go_at_call 56
        refine (refsame13_any HR9'.out HR10.out).mono ?_
        rintro e w11 ⟨rfl, hb11⟩
        have HB11 := Lib.hid (HB10.out.trans (hb11.mono HB10.out.size))
        have HL11 := Lib.hid (HL8.out.below HB11.out)
        have HA11 := Lib.hid (HS8.out.sa.of_block (HB11.out.block a HS8.out.sa.lt))
        clear hb11
        go_wp2_with fail
        go_at_call 58
        refine (shvain_any HA11.out).mono ?_
        rintro e w12 ⟨rfl, rfl⟩
        go_wp2_with fail
        go_at_call 53
        refine (shmark_any HA11.out).mono ?_
        rintro e w12 ⟨rfl, rfl⟩
        go_wp2_with fail
        go_at_call 44
        refine (shholder_any HL11.out.hq HW8.out HN.out.2 (by have := HK.out; have := HQ.out; omega)).mono ?_
        rintro e w12 ⟨rfl, rfl⟩
        go_wp2_with fail
        go_roundg (gk - 1)
        case measure => have := HIK.out; have := HEND.out; omega
        case rel => exact ⟨i + 1, m, _, _, _, _, _, _, _, by have := HIK.out; have := HEND.out; omega, by have := HEND.out; omega, by go_num, by have := HK.out; omega, by have := HK.out; have := HQ.out; omega, HL11, HW8, HTW⟩
      | false =>
        obtain ⟨k0, kf, kl⟩ := HL.out.rs.cell
        go_wp2_with fail
        go_at_call 59
        refine (fit_any HR2.out HN.out.1 (by have := HN.out; omega)).mono ?_
        rintro e w5 ⟨v5, X, rfl, hX1, hX2, ho, hb⟩
        obtain ⟨zs6, fs6, hl6⟩ := HL.out.setT hb ho hX2
        obtain ⟨o5, c5, rfl⟩ := ho.form2
        have HL6 := Lib.hid hl6
        have HX := Lib.hid (And.intro hX1 hX2)
        have k0' := (hb.cell (p := ⟨w2.heap.size + 1, 0, none⟩) kl).trans k0
        have kf' : ∀ o, w5.frozen? ⟨w2.heap.size + 1, o, none⟩ = false := fun o => (hb.frozen (p := ⟨w2.heap.size + 1, o, none⟩) kl).trans (kf o)
        clear ho hb hl6 hX1 hX2 k0 kf kl
        go_upto_region 15 with fail
        clear k0' kf' j0 j1 j2
        generalize w5.setCell ⟨w2.heap.size + 1, 0, none⟩ (.slice o5 X.length c5) = w6 at *
        obtain ⟨k0, kf, kl⟩ := HL6.out.rs.cell
        go_wp2_with fail
        go_at_call 60
        refine (shpublish_any HL6.out.hq (np := np) ⟨rfl, HN.out⟩ HL6.out.ts HX.out.1 0 (by decide)).mono ?_
        rintro e w7 ⟨a, rfl, _, tv7, dv7, zs7, _, _, hs⟩
        have HS7 := Lib.hid hs
        clear hs
        go_wp2_with fail
        go_at_call 52
        refine (shover_any HS7.out.sa HS7.out.tod).mono ?_
        rw [show decide (pubD np = []) = false from by simp [pubD]]
        rintro e w8 ⟨rfl, rfl⟩
        go_wp2_with fail
        go_at_call 55
        refine (shpub_run HS7.out HM.out HN.out HX.out.1 (by decide) (by have := HK.out; omega) (by have := HK.out; omega)).mono ?_
        rintro e w8 ⟨rfl, zs8, tv8, dv8, mk, M8, hm1, hm2, hw8, hs8⟩
        have HS8 := Lib.hid hs8
        have HW8 : Hid (Wm np (k' + (np + 5)) (2 * ((m + 1 : Nat) : Int)) X false 0 M8) := Lib.hid (by
          have e : 2 * ((m + 1 : Nat) : Int) = 2 * (m : Int) + 2 := by omega
          rw [e]; exact hw8)
        have HL8 := Lib.hid (HL6.out.back hs8)
        have hmk : ¬ (mk < 1) := by omega
        clear hm1 hm2 hw8 hs8
        go_wp2_with fail
        go_at_call 54
        refine (shtimes_no HS8.out.sa HS8.out.tod (.inr rfl)).mono ?_
        rintro e w9 ⟨rfl, rfl⟩
        go_wp2_with fail
        go_at_call 53
        refine (shmark_any HS8.out.sa).mono ?_
        rintro e w9 ⟨rfl, rfl⟩
        go_wp2_with fail
        go_at_call 44
        refine (shholder_any HL8.out.hq HW8.out HN.out.2 (by have := HK.out; have := HN.out; omega)).mono ?_
        rintro e w12 ⟨rfl, rfl⟩
        go_wp2_with fail
        go_roundg (gk - 1)
        case measure => have := HIK.out; have := HEND.out; omega
        case rel => exact ⟨i + 1, m + 1, _, _, _, _, _, _, _, by have := HIK.out; have := HEND.out; omega, by have := HEND.out; omega, by go_num, by have := HK.out; omega, by have := HK.out; have := HN.out; omega, HL8, HW8, Lib.hid HX.out.2⟩
    · have HLB := Lib.hid HL.out.hq.mz.kept
      by_cases hlt : i < J.length
      · have h2 : ¬ (i : Int) < 30 := by omega
        have h1 : (i : Int) < (J.length : Int) := by omega
        go_wp2_with fail
        go_ret
        exact ⟨rfl, HLB.out⟩
      · have h1 : ¬ (i : Int) < (J.length : Int) := by omega
        go_wp2_with fail
        go_ret
        exact ⟨rfl, HLB.out⟩
end Go.Proofs.Ytjmkcgkkgamafaa.Sh
