/-
  THE WALK OF THE LAW ClockLatches.
-/
import Derived.Test.YtneegocbknkhjaaCkTold
import Derived.Test.YtneegocbknkhjaaMemZ
import Derived.Test.YtneegocbknkhjaaCkOpen
namespace Go.Proofs.Ytneegocbknkhjaa.Ck
open Go.RowKit Rw Mm Go.Maps Pk
set_option linter.unusedVariables false

/-- Each one takes the latch, goes to a box, frees it. -/
def Disc (lg : List Ev) : Prop := ∃ n, lg.length = 3 * n ∧ ∀ q, q < n → ∃ w b kd, lg[3 * q]? = some ⟨w, 4, 0, true⟩ ∧ lg[3 * q + 1]? = some ⟨w, kd, b, true⟩ ∧ (kd = 2 ∨ kd = 3) ∧ lg[3 * q + 2]? = some ⟨w, 5, 0, true⟩
theorem disc_nil : Disc [] := ⟨0, rfl, fun q h => by omega⟩
theorem disc_next {lg : List Ev} (h : Disc lg) (w b kd : Int) (hk : kd = 2 ∨ kd = 3) : Disc (((lg ++ [⟨w, 4, 0, true⟩]) ++ [⟨w, kd, b, true⟩]) ++ [⟨w, 5, 0, true⟩]) := by
  obtain ⟨n, hl, h⟩ := h
  have e : ((lg ++ [⟨w, 4, 0, true⟩]) ++ [⟨w, kd, b, true⟩]) ++ [⟨w, 5, 0, true⟩] = lg ++ [⟨w, 4, 0, true⟩, ⟨w, kd, b, true⟩, (⟨w, 5, 0, true⟩ : Ev)] := by simp
  rw [e]
  refine ⟨n + 1, by simp; omega, fun q hq => ?_⟩
  by_cases hqn : q < n
  · obtain ⟨w', b', kd', h1, h2, h3, h4⟩ := h q hqn
    exact ⟨w', b', kd', by rw [List.getElem?_append_left (by omega)]; exact h1, by rw [List.getElem?_append_left (by omega)]; exact h2, h3, by rw [List.getElem?_append_left (by omega)]; exact h4⟩
  · have : q = n := by omega
    subst this
    refine ⟨w, b, kd, ?_, ?_, hk, ?_⟩
    · rw [List.getElem?_append_right (by omega), hl, Nat.sub_self]; rfl
    · rw [List.getElem?_append_right (by omega), hl, show 3 * q + 1 - 3 * q = 1 by omega]; rfl
    · rw [List.getElem?_append_right (by omega), hl, show 3 * q + 2 - 3 * q = 2 by omega]; rfl
theorem disc_first {lg : List Ev} (h : Disc lg) : IsFirst lg (-1) (-1) := by
  obtain ⟨n, hl, h⟩ := h
  refine .inl ⟨rfl, rfl, fun i k hm => ?_⟩
  obtain ⟨hik, a, e, ha, he, p1, p2, p3, p4, p5, p6⟩ := hm
  have hk := (List.getElem?_eq_some_iff.1 he).1
  have hbox : ∀ (x : Nat) (c : Ev), lg[x]? = some c → (c.k = 2 ∨ c.k = 3) → x < lg.length → ∃ q, x = 3 * q + 1 ∧ q < n := fun x c hx hc hxl => by
    have hq : x / 3 < n := by omega
    obtain ⟨w, b, kd, h1, h2, h3, h4⟩ := h (x / 3) hq
    have : x = 3 * (x / 3) ∨ x = 3 * (x / 3) + 1 ∨ x = 3 * (x / 3) + 2 := by omega
    rcases this with e | e | e
    · rw [← e, hx] at h1; cases h1; simp at hc
    · exact ⟨x / 3, e, hq⟩
    · rw [← e, hx] at h4; cases h4; simp at hc
  obtain ⟨q, rfl, hq⟩ := hbox i a ha p1 (by omega)
  obtain ⟨r, rfl, hr⟩ := hbox k e he p2 hk
  obtain ⟨w, b, kd, h1, h2, h3, h4⟩ := h q hq
  obtain ⟨w', b', kd', h1', h2', h3', h4'⟩ := h r hr
  rw [ha] at h2; cases h2
  rw [he] at h2'; cases h2'
  refine p6 (.more (m := 3 * r) (.more (m := 3 * q + 2) (.one ?_) ?_) ?_)
  · exact step_who (by omega) ha h4 (by unfold Th; omega) (by unfold Th; simp) rfl
  · exact ⟨by omega, _, _, h4, h1', by unfold Th; simp, by unfold Th; simp, .inr ⟨rfl, .inr ⟨.inl rfl, rfl, rfl, rfl⟩⟩⟩
  · exact step_who (by omega) h1' he (by unfold Th; simp) (by unfold Th; omega) rfl
/-- The Mem's state, at each round. -/
structure LtM (q : Nat) (bare : Bool) (M : St) : Prop where
  g : Mm.Good 1 3 1 q M
  sp : ∀ i, M.sp i = false
  ls : ∃ wh, M.ls = [⟨false, wh, []⟩]
  lg : bare = true ∨ Disc M.lg
theorem may_lt {q : Nat} {M : St} (hg : Mm.Good 1 3 1 q M) (hs : ∀ i, M.sp i = false) {who k a : Int} (hw : 0 ≤ who) (ha : 0 ≤ a) (hc : a < (cnt M k : Int)) : mayB M who k a = true := by
  unfold mayB thB
  rw [hs, decide_eq_true ha, decide_eq_true hc, decide_eq_true hw]; rfl
theorem lt_take {q : Nat} {b : Bool} {M : St} (h : LtM q b M) {who : Int} (hw : 0 ≤ who) : takeV M who 0 = true ∧ takeS M who 0 = { M.note ⟨who, 4, 0, true⟩ with ls := [⟨true, who, []⟩] } := by
  obtain ⟨wh, hl⟩ := h.ls
  have hm : mayB M who 4 0 = true := may_lt h.g h.sp hw (by decide) (by show (0 : Int) < ((M.ls.length : Nat) : Int); rw [hl]; simp)
  have hla : latA M 0 = ⟨false, wh, []⟩ := by unfold latA; rw [hl]; rfl
  refine ⟨by unfold takeV; rw [hm, hla]; rfl, ?_⟩
  unfold takeS
  rw [if_pos hm, hla, if_neg (by simp), hl]; rfl
theorem LtM.more {q q' : Nat} {b : Bool} {M : St} (h : LtM q b M) (hq : q ≤ q') : LtM q' b M := ⟨h.g.more hq, h.sp, h.ls, h.lg⟩
theorem lt_start {a : Nat} : LtM 0 false (initS 1 3 1) := ⟨good_init 1 3 1, fun _ => rfl, ⟨0, rfl⟩, .inr disc_nil⟩
theorem box_may {q : Nat} {M : St} (hg : Mm.Good 1 3 1 q M) (hs : ∀ i, M.sp i = false) {who a k : Int} (hk : k = 2 ∨ k = 3) (hw : 0 ≤ who) (ha : 0 ≤ a ∧ a < 3) : mayB M who k a = true := by
  refine may_lt hg hs hw ha.1 ?_
  have : cnt M k = 3 := by unfold cnt; rw [if_neg (by omega), if_pos hk]; exact hg.b
  rw [this]; exact ha.2
/-- Without the latch: of the log nothing is asked any more. -/
theorem lt_bare {q : Nat} {b : Bool} {M : St} (h : LtM q b M) {who a : Int} (hw : 0 ≤ who ∧ who ≤ 100) (ha : 0 ≤ a ∧ a < 3) : LtM (q + 1) true (lookS M who 2 a) ∧ LtM (q + 1) true (setS M who a []) := by
  have iw : I64 who := ⟨by omega, by omega⟩
  have ia : I64 a := ⟨by omega, by omega⟩
  have m2 := box_may h.g h.sp (.inl rfl) hw.1 ha
  have m3 := box_may h.g h.sp (.inr rfl) hw.1 ha
  refine ⟨⟨h.g.look iw (by decide) ia, fun i => ?_, ?_, .inl rfl⟩, ⟨h.g.set iw ia ⟨by simp, by simp⟩, fun i => ?_, ?_, .inl rfl⟩⟩
  · unfold lookS; rw [if_pos m2]; exact h.sp i
  · unfold lookS; rw [if_pos m2]; exact h.ls
  · unfold setS; rw [if_pos m3]; exact h.sp i
  · unfold setS; rw [if_pos m3]; exact h.ls
/-- With it: take, box, free. -/
theorem lt_disc {q : Nat} {b : Bool} {M : St} (h : LtM q b M) {who a : Int} (hw : 0 ≤ who ∧ who ≤ 100) (ha : 0 ≤ a ∧ a < 3) (M2 : St) (hM : M2 = lookS (takeS M who 0) who 2 a ∨ M2 = setS (takeS M who 0) who a []) :
    Mm.Good 1 3 1 (q + 1) (takeS M who 0) ∧ Mm.Good 1 3 1 (q + 2) M2 ∧ relV M2 who 5 0 = true ∧ LtM (q + 3) b (relS M2 who 5 0) := by
  have iw : I64 who := ⟨by omega, by omega⟩
  have ia : I64 a := ⟨by omega, by omega⟩
  have i0 : I64 0 := ⟨by decide, by decide⟩
  have hg1 := h.g.take iw i0
  have ht := (lt_take h hw.1).2
  have hs1 : ∀ i, (takeS M who 0).sp i = false := fun i => by rw [ht]; exact h.sp i
  have m2 := box_may hg1 hs1 (.inl rfl) hw.1 ha
  have m3 := box_may hg1 hs1 (.inr rfl) hw.1 ha
  have hM2 : ∃ kd, (kd = 2 ∨ kd = 3) ∧ M2.lg = (M.lg ++ [⟨who, 4, 0, true⟩]) ++ [⟨who, kd, a, true⟩] ∧ M2.ls = [⟨true, who, []⟩] ∧ (∀ i, M2.sp i = false) ∧ Mm.Good 1 3 1 (q + 2) M2 := by
    rcases hM with rfl | rfl
    · refine ⟨2, .inl rfl, ?_, ?_, fun i => ?_, hg1.look iw (by decide) ia⟩
      · unfold lookS; rw [if_pos m2, ht]; rfl
      · unfold lookS; rw [if_pos m2, ht]; rfl
      · unfold lookS; rw [if_pos m2]; exact hs1 i
    · refine ⟨3, .inr rfl, ?_, ?_, fun i => ?_, hg1.set iw ia ⟨by simp, by simp⟩⟩
      · unfold setS; rw [if_pos m3, ht]; rfl
      · unfold setS; rw [if_pos m3, ht]; rfl
      · unfold setS; rw [if_pos m3]; exact hs1 i
  obtain ⟨kd, hkd, hlg, hls, hsp, hg2⟩ := hM2
  have hm5 : mayB M2 who 5 0 = true := may_lt hg2 hsp hw.1 (by decide) (by show (0 : Int) < ((M2.ls.length : Nat) : Int); rw [hls]; simp)
  have hla : latA M2 0 = ⟨true, who, []⟩ := by unfold latA; rw [hls]; rfl
  have hhas : hasB M2 who ⟨true, who, []⟩ = true := by unfold hasB; simp
  have hrel : relS M2 who 5 0 = { M2.note ⟨who, 5, 0, true⟩ with ls := [⟨false, who, []⟩] } := by
    unfold relS; rw [if_pos hm5, hla, if_pos hhas, hls]; rfl
  refine ⟨hg1, hg2, by unfold relV; rw [hm5, hla, hhas]; rfl, hg2.rel iw (by decide) i0, fun i => by rw [hrel]; exact hsp i, ⟨who, by rw [hrel]⟩, ?_⟩
  rcases h.lg with hl | hl
  · exact .inl hl
  · refine .inr ?_
    have := disc_next hl who a kd hkd
    rw [hrel]
    show Disc (M2.lg ++ [⟨who, 5, 0, true⟩])
    rw [hlg]; exact this
theorem tn_cells {w : World} {b : Nat} {v0 v1 v2 v3 : Value} {T : TypeId} (h : w.heap[b]? = some (.cells #[v0, v1, v2, v3] T (0, 0))) : w.cell? ⟨b, 0, none⟩ = some v0 ∧ w.cell? ⟨b, 1, none⟩ = some v1 ∧ w.cell? ⟨b, 2, none⟩ = some v2 ∧ w.cell? ⟨b, 3, none⟩ = some v3 := by
  simp [World.cell?, h]
def LtZ (n : Nat) (w0 : World) (p : Nat) (q : Nat) (bare : Bool) (w : World) : Prop := ∃ M, MemZ n w0 [] p M w ∧ LtM q bare M
set_option maxRecDepth 1000000 in
set_option maxHeartbeats 16000000 in
theorem clockLatches_any {w : World} {v : Value} {l : List Tn} (hv : Rr turnK w v l) :
    Calls Try.prog 6 #[v] w fun e w' => e = .returned (.bool true) ∧ Below w.heap.size w w' := by
  have HV := Lib.hid hv
  obtain ⟨ao, cap, rfl, hv1, hv2⟩ := hv.form
  have hlm : l.length ≤ 9223372036854775807 := by omega
  clear hv hv1
  go_enter Try.func6, Try.ntmps6
  go_wp2_with fail
  go_at_call 14
  refine (memNew_any 1 3 1 (by decide) (by decide) (by decide) _).mono ?_
  rintro e w1 ⟨p, τ, rfl, hm, ht, hb⟩
  have HZ := Lib.hid (memz_start (a := 0) (b := 0) (c := 0) hm ht hb)
  clear hm ht hb
  go_wp2_with fail
  go_at_call 30
  refine (cktold_any _).mono ?_
  rintro e w2 ⟨rfl, hb⟩
  have H0 : Hid (LtZ w.heap.size w p 0 false w2) := Lib.hid ⟨_, HZ.out.below hb, lt_start (a := 0)⟩
  clear hb HZ
  go_wp2_with fail
  go_loopg [5, 6] 40 (fun k s t wr => ∃ (i : Nat) (br : Bool), i + k = 40 ∧ t = .int .i64 (i : Int) ∧ s = .bool br ∧ Hid (LtZ w.heap.size w p (3 * i) br wr))
  case atStart => exact ⟨0, false, rfl, rfl, rfl, H0⟩
  case round =>
    obtain ⟨i, br, hik, rfl, rfl, HL⟩ := hrel
    clear H0
    have HIK := Lib.hid hik
    have hi0 : (0 : Int) ≤ (i : Int) := Int.natCast_nonneg _
    have hi9 : (i : Int) ≤ 40 := by omega
    by_cases hend : i < l.length ∧ i < 40
    · obtain ⟨h1, h2⟩ := hend
      have h1' : (i : Int) < (l.length : Int) := by omega
      have h2' : (i : Int) < 40 := by omega
      have HE2 := Lib.hid h2
      obtain ⟨M, hZ, hM⟩ := HL.out
      obtain ⟨⟨tw, tb, ts, tr⟩, hx⟩ : ∃ x, l[i]? = some x := ⟨_, List.getElem?_eq_getElem h1⟩
      obtain ⟨b, off, rfl, hbl, qx⟩ := HV.out.at hx
      have qy := qx.below hZ.kept hbl
      have c0 := qy 0 _ (by decide) rfl
      have c1 := qy 1 _ (by decide) rfl
      have c2 := qy 2 _ (by decide) rfl
      have c3 := qy 3 _ (by decide) rfl
      simp only [show turnK.k = 4 from rfl, Nat.add_zero] at c0 c1 c2 c3
      have hw4 := whoF_in (p := tw) (m := 4) (by decide)
      have hb3 := whoF_in (p := tb) (m := 3) (by decide)
      obtain ⟨who, hwho⟩ : ∃ x, x = whoF tw 4 := ⟨_, rfl⟩
      obtain ⟨bx, hbx⟩ : ∃ x, x = whoF tb 3 := ⟨_, rfl⟩
      have HKW : Hid (wrap64 ((IntKind.u64.wrap tw).tmod 4) = who) := Lib.hid (by rw [hwho]; exact whoF_of (by decide) (by decide))
      have HKB : Hid (wrap64 ((IntKind.u64.wrap tb).tmod 3) = bx) := Lib.hid (by rw [hbx]; exact whoF_of (by decide) (by decide))
      rw [← hwho] at hw4
      rw [← hbx] at hb3
      have HW : Hid (0 ≤ who ∧ who ≤ 100) := Lib.hid ⟨hw4.1, by omega⟩
      have HBX : Hid (0 ≤ bx ∧ bx < 3) := Lib.hid hb3
      have HIW : Hid (I64 who) := Lib.hid ⟨by omega, by omega⟩
      have HIB : Hid (I64 bx) := Lib.hid ⟨by omega, by omega⟩
      obtain ⟨W1, hW1⟩ : ∃ W1, W1 = wr.alloc (.cells #[.int .i64 tw, .int .i64 tb, .bool ts, .bool tr] 69) := ⟨_, rfl⟩
      have hbw : Below wr.heap.size wr W1 := by rw [hW1]; exact (Below.refl _ _).alloc (Nat.le_refl _) _
      have hst : W1.heap[wr.heap.size]? = some (.cells #[.int .i64 tw, .int .i64 tb, .bool ts, .bool tr] 69 (0, 0)) := by rw [hW1]; exact heap_alloc_new wr _
      have HZ1 := Lib.hid (hZ.add hbw (Nat.le_refl _) (Array.getElem?_eq_some_iff.1 hst).1)
      have HM := Lib.hid hM
      have HW1 := Lib.hid hW1
      have HST := Lib.hid hst
      clear hx qx qy hbl hZ hM hwho hbx hw4 hb3 hbw hst hik h1 h2 hW1 HL
      go_upto_region 9 with fail
      rw [← HW1.out]
      obtain ⟨s0, s1, s2, s3⟩ := tn_cells HST.out
      clear c0 c1 c2 c3
      go_quiet (fail)
      rw [HKW.out, HKB.out]
      cases br
      · cases tr
        · cases ts
          · go_wp2_with fail
            go_at_call 34
            refine (mz_take (HZ1.out.below (below_drewN (Below.refl _ _) _)) HM.out.g (by decide) (by decide) (by decide) (by omega) who 0 HIW.out ⟨by decide, by decide⟩).mono ?_
            rw [(lt_take HM.out HW.out.1).1]
            rintro e w3 ⟨rfl, hz, hk⟩
            have HZ3 := Lib.hid hz
            replace s2 := (hk.cell (g := wr.heap.size) (by simp) 2).trans s2
            replace s3 := (hk.cell (g := wr.heap.size) (by simp) 3).trans s3
            have HD := Lib.hid (lt_disc HM.out HW.out HBX.out (lookS (takeS M who 0) who 2 bx) (.inl rfl))
            clear hz hk s0 s1
            go_wp2_with fail
            go_at_call 36
            refine (mz_get HZ3.out HD.out.1 (by decide) (by decide) (by decide) (by omega) who bx HIW.out HIB.out).mono ?_
            rintro e w4 ⟨vg, rfl, _, hz, hk⟩
            have HZ4 := Lib.hid hz
            replace s3 := (hk.cell (g := wr.heap.size) (by simp) 3).trans s3
            clear hz hk s2
            go_wp2_with fail
            go_at_call 37
            refine (mz_free HZ4.out HD.out.2.1 (by decide) (by decide) (by decide) (by omega) who 0 HIW.out ⟨by decide, by decide⟩).mono ?_
            rw [HD.out.2.2.1]
            rintro e w5 ⟨rfl, hz, hk⟩
            have HN := Lib.hid (show LtZ w.heap.size w p (3 * (i + 1)) false w5 from ⟨_, hz.drop (by simp), HD.out.2.2.2.more (by omega)⟩)
            clear hz hk s3
            go_wp2_with fail
            go_roundg (gk - 1)
            case measure => have := HIK.out; have := HE2.out; omega
            case rel => exact ⟨i + 1, false, by have := HIK.out; have := HE2.out; omega, by go_num, rfl, HN⟩
          · go_wp2_with fail
            go_at_call 34
            refine (mz_take (HZ1.out.below (below_drewN (Below.refl _ _) _)) HM.out.g (by decide) (by decide) (by decide) (by omega) who 0 HIW.out ⟨by decide, by decide⟩).mono ?_
            rw [(lt_take HM.out HW.out.1).1]
            rintro e w3 ⟨rfl, hz, hk⟩
            have HZ3 := Lib.hid hz
            replace s2 := (hk.cell (g := wr.heap.size) (by simp) 2).trans s2
            replace s3 := (hk.cell (g := wr.heap.size) (by simp) 3).trans s3
            have HD := Lib.hid (lt_disc HM.out HW.out HBX.out (setS (takeS M who 0) who bx []) (.inr rfl))
            clear hz hk s0 s1
            go_wp2_with fail
            go_at_call 35
            refine (mz_set HZ3.out HD.out.1 (by decide) (by decide) (by decide) (by omega) who bx HIW.out HIB.out (Batch.Sl.nil _) (by simp) (fun g hg => by simp [Value.ownBlock] at hg)).mono ?_
            rintro e w4 ⟨rfl, hz, hk⟩
            have HZ4 := Lib.hid hz
            replace s3 := (hk.cell (g := wr.heap.size) (by simp) 3).trans s3
            clear hz hk s2
            go_wp2_with fail
            go_at_call 37
            refine (mz_free HZ4.out HD.out.2.1 (by decide) (by decide) (by decide) (by omega) who 0 HIW.out ⟨by decide, by decide⟩).mono ?_
            rw [HD.out.2.2.1]
            rintro e w5 ⟨rfl, hz, hk⟩
            have HN := Lib.hid (show LtZ w.heap.size w p (3 * (i + 1)) false w5 from ⟨_, hz.drop (by simp), HD.out.2.2.2.more (by omega)⟩)
            clear hz hk s3
            go_wp2_with fail
            go_roundg (gk - 1)
            case measure => have := HIK.out; have := HE2.out; omega
            case rel => exact ⟨i + 1, false, by have := HIK.out; have := HE2.out; omega, by go_num, rfl, HN⟩
        · cases ts
          · go_wp2_with fail
            go_at_call 36
            refine (mz_get (HZ1.out.below (below_drewN (Below.refl _ _) _)) HM.out.g (by decide) (by decide) (by decide) (by omega) who bx HIW.out HIB.out).mono ?_
            rintro e w3 ⟨vg, rfl, _, hz, hk⟩
            have HN := Lib.hid (show LtZ w.heap.size w p (3 * (i + 1)) true w3 from ⟨_, hz.drop (by simp), (lt_bare HM.out HW.out HBX.out).1.more (by omega)⟩)
            replace s3 := (hk.cell (g := wr.heap.size) (by simp) 3).trans s3
            clear hz hk s0 s1 s2
            go_wp2_with fail
            go_roundg (gk - 1)
            case measure => have := HIK.out; have := HE2.out; omega
            case rel => exact ⟨i + 1, true, by have := HIK.out; have := HE2.out; omega, by go_num, rfl, HN⟩
          · go_wp2_with fail
            go_at_call 35
            refine (mz_set (HZ1.out.below (below_drewN (Below.refl _ _) _)) HM.out.g (by decide) (by decide) (by decide) (by omega) who bx HIW.out HIB.out (Batch.Sl.nil _) (by simp) (fun g hg => by simp [Value.ownBlock] at hg)).mono ?_
            rintro e w3 ⟨rfl, hz, hk⟩
            have HN := Lib.hid (show LtZ w.heap.size w p (3 * (i + 1)) true w3 from ⟨_, hz.drop (by simp), (lt_bare HM.out HW.out HBX.out).2.more (by omega)⟩)
            replace s3 := (hk.cell (g := wr.heap.size) (by simp) 3).trans s3
            clear hz hk s0 s1 s2
            go_wp2_with fail
            go_roundg (gk - 1)
            case measure => have := HIK.out; have := HE2.out; omega
            case rel => exact ⟨i + 1, true, by have := HIK.out; have := HE2.out; omega, by go_num, rfl, HN⟩
      · cases tr
        · cases ts
          · go_wp2_with fail
            go_at_call 34
            refine (mz_take (HZ1.out.below (below_drewN (Below.refl _ _) _)) HM.out.g (by decide) (by decide) (by decide) (by omega) who 0 HIW.out ⟨by decide, by decide⟩).mono ?_
            rw [(lt_take HM.out HW.out.1).1]
            rintro e w3 ⟨rfl, hz, hk⟩
            have HZ3 := Lib.hid hz
            replace s2 := (hk.cell (g := wr.heap.size) (by simp) 2).trans s2
            replace s3 := (hk.cell (g := wr.heap.size) (by simp) 3).trans s3
            have HD := Lib.hid (lt_disc HM.out HW.out HBX.out (lookS (takeS M who 0) who 2 bx) (.inl rfl))
            clear hz hk s0 s1
            go_wp2_with fail
            go_at_call 36
            refine (mz_get HZ3.out HD.out.1 (by decide) (by decide) (by decide) (by omega) who bx HIW.out HIB.out).mono ?_
            rintro e w4 ⟨vg, rfl, _, hz, hk⟩
            have HZ4 := Lib.hid hz
            replace s3 := (hk.cell (g := wr.heap.size) (by simp) 3).trans s3
            clear hz hk s2
            go_wp2_with fail
            go_at_call 37
            refine (mz_free HZ4.out HD.out.2.1 (by decide) (by decide) (by decide) (by omega) who 0 HIW.out ⟨by decide, by decide⟩).mono ?_
            rw [HD.out.2.2.1]
            rintro e w5 ⟨rfl, hz, hk⟩
            have HN := Lib.hid (show LtZ w.heap.size w p (3 * (i + 1)) true w5 from ⟨_, hz.drop (by simp), HD.out.2.2.2.more (by omega)⟩)
            clear hz hk s3
            go_wp2_with fail
            go_roundg (gk - 1)
            case measure => have := HIK.out; have := HE2.out; omega
            case rel => exact ⟨i + 1, true, by have := HIK.out; have := HE2.out; omega, by go_num, rfl, HN⟩
          · go_wp2_with fail
            go_at_call 34
            refine (mz_take (HZ1.out.below (below_drewN (Below.refl _ _) _)) HM.out.g (by decide) (by decide) (by decide) (by omega) who 0 HIW.out ⟨by decide, by decide⟩).mono ?_
            rw [(lt_take HM.out HW.out.1).1]
            rintro e w3 ⟨rfl, hz, hk⟩
            have HZ3 := Lib.hid hz
            replace s2 := (hk.cell (g := wr.heap.size) (by simp) 2).trans s2
            replace s3 := (hk.cell (g := wr.heap.size) (by simp) 3).trans s3
            have HD := Lib.hid (lt_disc HM.out HW.out HBX.out (setS (takeS M who 0) who bx []) (.inr rfl))
            clear hz hk s0 s1
            go_wp2_with fail
            go_at_call 35
            refine (mz_set HZ3.out HD.out.1 (by decide) (by decide) (by decide) (by omega) who bx HIW.out HIB.out (Batch.Sl.nil _) (by simp) (fun g hg => by simp [Value.ownBlock] at hg)).mono ?_
            rintro e w4 ⟨rfl, hz, hk⟩
            have HZ4 := Lib.hid hz
            replace s3 := (hk.cell (g := wr.heap.size) (by simp) 3).trans s3
            clear hz hk s2
            go_wp2_with fail
            go_at_call 37
            refine (mz_free HZ4.out HD.out.2.1 (by decide) (by decide) (by decide) (by omega) who 0 HIW.out ⟨by decide, by decide⟩).mono ?_
            rw [HD.out.2.2.1]
            rintro e w5 ⟨rfl, hz, hk⟩
            have HN := Lib.hid (show LtZ w.heap.size w p (3 * (i + 1)) true w5 from ⟨_, hz.drop (by simp), HD.out.2.2.2.more (by omega)⟩)
            clear hz hk s3
            go_wp2_with fail
            go_roundg (gk - 1)
            case measure => have := HIK.out; have := HE2.out; omega
            case rel => exact ⟨i + 1, true, by have := HIK.out; have := HE2.out; omega, by go_num, rfl, HN⟩
        · cases ts
          · go_wp2_with fail
            go_at_call 36
            refine (mz_get (HZ1.out.below (below_drewN (Below.refl _ _) _)) HM.out.g (by decide) (by decide) (by decide) (by omega) who bx HIW.out HIB.out).mono ?_
            rintro e w3 ⟨vg, rfl, _, hz, hk⟩
            have HN := Lib.hid (show LtZ w.heap.size w p (3 * (i + 1)) true w3 from ⟨_, hz.drop (by simp), (lt_bare HM.out HW.out HBX.out).1.more (by omega)⟩)
            replace s3 := (hk.cell (g := wr.heap.size) (by simp) 3).trans s3
            clear hz hk s0 s1 s2
            go_wp2_with fail
            go_roundg (gk - 1)
            case measure => have := HIK.out; have := HE2.out; omega
            case rel => exact ⟨i + 1, true, by have := HIK.out; have := HE2.out; omega, by go_num, rfl, HN⟩
          · go_wp2_with fail
            go_at_call 35
            refine (mz_set (HZ1.out.below (below_drewN (Below.refl _ _) _)) HM.out.g (by decide) (by decide) (by decide) (by omega) who bx HIW.out HIB.out (Batch.Sl.nil _) (by simp) (fun g hg => by simp [Value.ownBlock] at hg)).mono ?_
            rintro e w3 ⟨rfl, hz, hk⟩
            have HN := Lib.hid (show LtZ w.heap.size w p (3 * (i + 1)) true w3 from ⟨_, hz.drop (by simp), (lt_bare HM.out HW.out HBX.out).2.more (by omega)⟩)
            replace s3 := (hk.cell (g := wr.heap.size) (by simp) 3).trans s3
            clear hz hk s0 s1 s2
            go_wp2_with fail
            go_roundg (gk - 1)
            case measure => have := HIK.out; have := HE2.out; omega
            case rel => exact ⟨i + 1, true, by have := HIK.out; have := HE2.out; omega, by go_num, rfl, HN⟩
    · obtain ⟨M, hZ, hM⟩ := HL.out
      have HZ := Lib.hid hZ
      have HG := Lib.hid hM.g
      have HF : Hid (br = true ∨ IsFirst M.lg (-1) (-1)) := Lib.hid (hM.lg.imp id disc_first)
      have hlg : M.lg.length ≤ 3 * i := hM.g.l
      have HLG : Hid (M.lg.length ≤ 1000) := Lib.hid (by omega)
      have HI3 : Hid (3 * i ≤ 100000) := Lib.hid (by omega)
      clear hZ hM hlg
      by_cases hlt : i < l.length
      case' pos =>
        have hj0 : (i : Int) < (l.length : Int) := by omega
        have hj1 : ¬ ((i : Int) < 40) := by omega
      case' neg => have hj0 : ¬ ((i : Int) < (l.length : Int)) := by omega
      all_goals
        clear hend hlt hik
        go_wp2_with fail
        go_at_call 27
        refine (mz_log HZ.out HG.out (by decide) (by decide) (by decide) HI3.out).mono ?_
        rintro e w3 ⟨vl, rfl, hrl, hbl⟩
        have HB3 := Lib.hid (HZ.out.kept.trans (hbl.mono HZ.out.nl))
        have HRL := Lib.hid hrl
        have HN3 := Lib.hid (Nat.le_trans HZ.out.nl hbl.size)
        clear hrl hbl
        go_wp2_with fail
        go_at_call 32
        refine (race_any HRL.out HLG.out).mono ?_
        rintro e w4 ⟨x, y, rfl, hf, hb4⟩
        have HB4 := Lib.hid (HB3.out.trans (hb4.mono HN3.out))
        have HFF := Lib.hid hf
        clear hf hb4
        cases br
        · obtain ⟨rfl, rfl⟩ := isFirst_one HFF.out (HF.out.resolve_left (by simp))
          go_wp2_with fail
          go_ret
          exact ⟨rfl, HB4.out⟩
        · go_wp2_with fail
          go_ret
          exact ⟨rfl, HB4.out⟩
end Go.Proofs.Ytneegocbknkhjaa.Ck
