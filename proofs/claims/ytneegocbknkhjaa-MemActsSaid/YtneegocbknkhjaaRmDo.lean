/-
  PACKAGE marchlandref08: Do, each kind of access.
-/
import Derived.Test.YtneegocbknkhjaaRmNew
import Derived.Deep.CutBlock
import Derived.Deep.CutRange
import Derived.Deep.RegionHeldLaw
namespace Go.Proofs.Ytneegocbknkhjaa.Rm
open Go.RowKit Rw Pk Mm
set_option linter.unusedVariables false

theorem infoRev : (Try.prog.info? 131).map (fun i => (i.zero, i.size, i.bytes)) = some (some (.agg #[.int .i64 0, .int .i64 0, .int .i64 0, .bool false]), 4, 32) := by kernel_rfl
def Rs.note (R : Rs) (e : Ev) : Rs := { R with lg := R.lg ++ [e] }
def rcnt (R : Rs) (kind : Int) : Nat := if kind < 2 then R.ws.length else if kind < 4 then R.bs.length else R.la.length
def RBnd (R : Rs) : Prop := R.ws.length ≤ 1000 ∧ R.bs.length ≤ 1000 ∧ R.la.length ≤ 1000 ∧ R.bd.length ≤ 1000000 ∧ R.lg.length ≤ 1000000
theorem rlog_step {τ : Nat → Nat} {w w1 : World} {b : Nat} {R : Rs} {V : Vr} (hV : RefIs τ w b R V) (o : Obj) (e : Ev) {v' : Value} (hown : Own evK w1 0 131 v' (R.lg ++ [e]))
    (hg : (w.alloc o).grownBy w1 V.vg.ownBlock) (hblk : v'.ownBlock = V.vg.ownBlock ∨ v'.ownBlock = some (w.heap.size + 1)) :
    RefP τ w b (R.note e) (w1.setCell ⟨b, 4, none⟩ v') ∧ w1.cell? ⟨b, 4, none⟩ = some V.vg ∧ w1.frozen? ⟨b, 4, none⟩ = false ∧ ∀ i, i < w.heap.size → τ i ≠ 1 → τ i ≠ 6 → (w1.setCell ⟨b, 4, none⟩ v').heap[i]? = w.heap[i]? := by
  have hb := (Array.getElem?_eq_some_iff.1 hV.st).1
  have hs1 : w.heap.size + 1 ≤ w1.heap.size := by have := hg.size; simp at this; omega
  have hold : ∀ i, i < w.heap.size → τ i ≠ 6 → w1.heap[i]? = w.heap[i]? := fun i hi hne => (hg.block i (by simp; omega) (fun h => hne (hV.lg.2 i h.symm))).trans (heap_alloc_old w o hi)
  have hst := (hold b hb (by rw [hV.tb]; decide)).trans hV.st
  obtain ⟨_, _, _, _, d4, df⟩ := five_r hst
  refine ⟨hV.log hown (by omega) (((Below.refl 0 w).alloc (Nat.zero_le _) o).grown hg (Nat.zero_le _) (fun _ _ => Nat.zero_le _)) hold (fun g hgg hlt => ?_), d4, df 4, fun i hi h1 h6 => (Below.heap_setCell _ _ _ _ (fun h => h1 (by rw [h]; exact hV.tb))).trans (hold i hi h6)⟩
  rcases hblk with h | h
  · exact hV.lg.2 g (by rw [← h]; exact hgg)
  · rw [h] at hgg
    have := Option.some.inj hgg
    omega
def DoP (τ : Nat → Nat) (b : Nat) (w : World) (x : Int) (v : Value) (ok : Bool) (R' : Rs) (e : Ending) (w' : World) : Prop := e = .returned (.tuple #[.int .u64 x, v, .bool ok]) ∧ RefP τ w b R' w'
set_option maxRecDepth 1000000 in
set_option maxHeartbeats 8000000 in
theorem do_load {w : World} {τ : Nat → Nat} {b : Nat} {R : Rs} (hR : RefAt τ w b R) (hB : RBnd R) (who v : Int) (vb : Value) (hw : 0 ≤ who) (hn : inBed R who = false) {i : Nat} {x : Int} (hx : R.ws[i]? = some x) :
    Calls Try.prog 19 #[.pointer (some ⟨b, 0, none⟩), .int .i64 who, .int .i64 0, .int .i64 (i : Int), .int .u64 v, vb] w (fun e w' => DoP τ b w x (.slice none 0 0) true (R.note ⟨who, 0, (i : Int), true⟩) e w') := by
  obtain ⟨i0, hi, hz0, hz1, hz2⟩ := info_partsP infoRev
  have HAS := Lib.hid (rasleep_any hR hB.2.2.2.1 who)
  rw [hn] at HAS
  obtain ⟨hb0, hb1, hb2, hb3, hb4⟩ := hB
  obtain ⟨V, hV⟩ := hR
  obtain ⟨c0, c1, c2, c3, c4, cf⟩ := five_r hV.st
  obtain ⟨ao0, cap0, hv0⟩ := row_form hV.ws
  obtain ⟨ao1, cap1, hv1⟩ := row_form hV.bs
  obtain ⟨ao2, cap2, hv2⟩ := row_form hV.la
  have HV := Lib.hid hV
  have hi0 : (0 : Int) ≤ (i : Int) := Int.natCast_nonneg _
  have hwn : decide (who < 0) = false := decide_eq_false (by omega)
  have hil := (List.getElem?_eq_some_iff.1 hx).1
  have hi1 : (i : Int) < (R.ws.length : Int) := by omega
  obtain ⟨g, cap, hv, _, _, q, _⟩ := row_at hV.ws hx
  have d0 : w.cell? ⟨g, i, none⟩ = some (.int .u64 x) := by have := q 0 _ (by decide) rfl; rwa [show i * u64K.k + 0 = i from Nat.mul_one i] at this
  rw [hv] at c0
  rw [hv2] at c2
  clear q hv hv0 hv1 hv2 c1 c3 cf hV hx
  go_enter Try.func19, Try.ntmps19
  go_wp2_with fail
  go_at_call 24
  refine HAS.out.mono ?_
  rintro e w1 ⟨rfl, rfl⟩
  have hownL : w.ownsRow 0 131 4 V.vg R.lg.length (evK.flat R.lg) := HV.out.lg.1
  go_wp2_with (at_builtin; refine Batch.wpList_append_any _ rfl _ _ 48 48 rfl 0 131 131 i0 (.agg #[.int .i64 0, .int .i64 0, .int .i64 0, .bool false]) 4 32 Try.underlying48 Try.underlying48 hi hz0 hz1 hz2 rfl (by decide) V.vg R.lg.length (evK.flat R.lg) rfl (hownL.alloc _) (some ⟨w.heap.size, 0, none⟩) 1 1 [.int .i64 who, .int .i64 0, .int .i64 (i : Int), .bool true] rfl rfl (.inr ⟨_, rfl, World.news_of_block (cs := #[.int .i64 who, .int .i64 0, .int .i64 (i : Int), .bool true]) (heap_alloc_new w _)⟩) (by intro u hu; simp at hu; rcases hu with rfl | rfl | rfl | rfl <;> rfl) (by unfold maxLen; omega) (by omega) (Nat.zero_le _) ?_)
  intro v' w2 hown1 hgrow hblk
  have hown2 : Own evK w2 0 131 v' (R.lg ++ [⟨who, 0, (i : Int), true⟩]) := own_any hown1 (by simp) (by rw [flat_snoc]; rfl)
  obtain ⟨ao', n', cap', rfl⟩ : ∃ ao n c, v' = .slice ao n c := by obtain ⟨ao, c, h⟩ := hown2.form2; exact ⟨ao, _, c, h⟩
  obtain ⟨hP, d4, df4, hoth⟩ := rlog_step HV.out _ ⟨who, 0, (i : Int), true⟩ hown2 hgrow hblk
  have HP := Lib.hid hP
  clear hownL hown1 hown2 hgrow hblk hP hoth
  go_wp2_with fail
  go_ret3
  exact ⟨rfl, HP.out⟩
set_option maxRecDepth 1000000 in
set_option maxHeartbeats 8000000 in
theorem do_store {w : World} {τ : Nat → Nat} {b : Nat} {R : Rs} (hR : RefAt τ w b R) (hB : RBnd R) (who v : Int) (vb : Value) (hw : 0 ≤ who) (hn : inBed R who = false) {i : Nat} {x : Int} (hx : R.ws[i]? = some x) :
    Calls Try.prog 19 #[.pointer (some ⟨b, 0, none⟩), .int .i64 who, .int .i64 1, .int .i64 (i : Int), .int .u64 v, vb] w (fun e w' => DoP τ b w 0 (.slice none 0 0) true (({ R with ws := R.ws.set i v } : Rs).note ⟨who, 1, (i : Int), true⟩) e w') := by
  obtain ⟨i0, hi, hz0, hz1, hz2⟩ := info_partsP infoRev
  have HAS := Lib.hid (rasleep_any hR hB.2.2.2.1 who)
  rw [hn] at HAS
  obtain ⟨hb0, hb1, hb2, hb3, hb4⟩ := hB
  obtain ⟨V, hV⟩ := hR
  obtain ⟨c0, c1, c2, c3, c4, cf⟩ := five_r hV.st
  obtain ⟨ao0, cap0, hv0⟩ := row_form hV.ws
  obtain ⟨ao1, cap1, hv1⟩ := row_form hV.bs
  obtain ⟨ao2, cap2, hv2⟩ := row_form hV.la
  have HV := Lib.hid hV
  have hi0 : (0 : Int) ≤ (i : Int) := Int.natCast_nonneg _
  have hwn : decide (who < 0) = false := decide_eq_false (by omega)
  have hil := (List.getElem?_eq_some_iff.1 hx).1
  have hi1 : (i : Int) < (R.ws.length : Int) := by omega
  obtain ⟨g, cap, hv, _, hτ, q, hf⟩ := row_at hV.ws hx
  have d0 : w.cell? ⟨g, i, none⟩ = some (.int .u64 x) := by have := q 0 _ (by decide) rfl; rwa [show i * u64K.k + 0 = i from Nat.mul_one i] at this
  have hf0 := hf i
  have hV2 : RefIs τ (w.setCell ⟨g, i, none⟩ (.int .u64 v)) b { R with ws := R.ws.set i v } V := hV.words (keep_set hτ i _) (by
    have := hV.ws
    rw [hv] at this ⊢
    exact row_set1 rfl this hx rfl)
  have hS2 : Step τ τ w (w.setCell ⟨g, i, none⟩ (.int .u64 v)) := step_set (by rw [hτ]; decide) i _
  obtain ⟨_, _, _, _, e4, _⟩ := five_r hV2.st
  have HV2 := Lib.hid hV2
  have HS2 := Lib.hid hS2
  rw [hv] at c0
  rw [hv2] at c2
  clear q hv hv0 hv1 hv2 c1 c3 c4 cf hV hx hV2 hS2 hf hτ
  go_enter Try.func19, Try.ntmps19
  go_wp2_with fail
  go_at_call 24
  refine HAS.out.mono ?_
  rintro e w1 ⟨rfl, rfl⟩
  go_upto_region 41 with fail
  clear d0 hf0 c0 c2
  generalize w.setCell ⟨g, i, none⟩ (.int .u64 v) = wm at HV2 HS2 e4 ⊢
  have hownL : wm.ownsRow 0 131 4 V.vg R.lg.length (evK.flat R.lg) := HV2.out.lg.1
  go_wp2_with (at_builtin; refine Batch.wpList_append_any _ rfl _ _ 48 48 rfl 0 131 131 i0 (.agg #[.int .i64 0, .int .i64 0, .int .i64 0, .bool false]) 4 32 Try.underlying48 Try.underlying48 hi hz0 hz1 hz2 rfl (by decide) V.vg R.lg.length (evK.flat R.lg) rfl (hownL.alloc _) (some ⟨wm.heap.size, 0, none⟩) 1 1 [.int .i64 who, .int .i64 1, .int .i64 (i : Int), .bool true] rfl rfl (.inr ⟨_, rfl, World.news_of_block (cs := #[.int .i64 who, .int .i64 1, .int .i64 (i : Int), .bool true]) (heap_alloc_new wm _)⟩) (by intro u hu; simp at hu; rcases hu with rfl | rfl | rfl | rfl <;> rfl) (by unfold maxLen; omega) (by omega) (Nat.zero_le _) ?_)
  intro v' w2 hown1 hgrow hblk
  have hown2 : Own evK w2 0 131 v' (R.lg ++ [⟨who, 1, (i : Int), true⟩]) := own_any hown1 (by simp) (by rw [flat_snoc]; rfl)
  obtain ⟨ao', n', cap', rfl⟩ : ∃ ao n c, v' = .slice ao n c := by obtain ⟨ao, c, h⟩ := hown2.form2; exact ⟨ao, _, c, h⟩
  obtain ⟨hP, d4, df4, hoth⟩ := rlog_step HV2.out _ ⟨who, 1, (i : Int), true⟩ hown2 hgrow hblk
  have HP := Lib.hid hP
  clear hownL hown1 hown2 hgrow hblk hP hoth
  go_wp2_with fail
  go_ret3
  exact ⟨rfl, RefP.trans HS2.out HP.out⟩
set_option maxRecDepth 1000000 in
set_option maxHeartbeats 8000000 in
theorem do_get {w : World} {τ : Nat → Nat} {b : Nat} {R : Rs} (hR : RefAt τ w b R) (hB : RBnd R) (who v : Int) (vb : Value) (hw : 0 ≤ who) (hn : inBed R who = false) {i : Nat} {l : List Batch.Ch} (hx : R.bs[i]? = some l) (hwf : ∀ x ∈ l, x.Wf) :
    Calls Try.prog 19 #[.pointer (some ⟨b, 0, none⟩), .int .i64 who, .int .i64 2, .int .i64 (i : Int), .int .u64 v, vb] w (fun e w' => ∃ vr, DoP τ b w 0 vr true (R.note ⟨who, 2, (i : Int), true⟩) e w' ∧ Batch.Rd w' vr l) := by
  obtain ⟨i0, hi, hz0, hz1, hz2⟩ := info_partsP infoRev
  have HAS := Lib.hid (rasleep_any hR hB.2.2.2.1 who)
  rw [hn] at HAS
  obtain ⟨hb0, hb1, hb2, hb3, hb4⟩ := hB
  obtain ⟨V, hV⟩ := hR
  obtain ⟨c0, c1, c2, c3, c4, cf⟩ := five_r hV.st
  obtain ⟨ao0, cap0, hv0⟩ := row_form hV.ws
  obtain ⟨ao1, cap1, hv1⟩ := row_form hV.bs
  obtain ⟨ao2, cap2, hv2⟩ := row_form hV.la
  have HV := Lib.hid hV
  have hi0 : (0 : Int) ≤ (i : Int) := Int.natCast_nonneg _
  have hwn : decide (who < 0) = false := decide_eq_false (by omega)
  have hil := (List.getElem?_eq_some_iff.1 hx).1
  have hi1 : (i : Int) < (R.bs.length : Int) := by omega
  obtain ⟨s, hs⟩ : ∃ s, V.bv[i]? = some s := ⟨_, List.getElem?_eq_getElem (by rw [hV.bl]; exact hil)⟩
  obtain ⟨g, cap, hv, _, hτ, q, hf⟩ := row_at hV.bs hs
  have d0 : w.cell? ⟨g, i, none⟩ = some (.slice s.ao s.n s.c) := by have := q 0 _ (by decide) rfl; rwa [show i * svK.k + 0 = i from Nat.mul_one i] at this
  have HROW := Lib.hid (hV.be i s l hs hx)
  have HWF := Lib.hid hwf
  rw [hv, hV.bl] at c1
  rw [hv2] at c2
  clear q hv hv0 hv1 hv2 c0 c3 cf hV hx hf hτ hs hwf
  go_enter Try.func19, Try.ntmps19
  go_wp2_with fail
  go_at_call 24
  refine HAS.out.mono ?_
  rintro e w1 ⟨rfl, rfl⟩
  have hownL : w.ownsRow 0 131 4 V.vg R.lg.length (evK.flat R.lg) := HV.out.lg.1
  go_wp2_with (at_builtin; refine Batch.wpList_append_any _ rfl _ _ 48 48 rfl 0 131 131 i0 (.agg #[.int .i64 0, .int .i64 0, .int .i64 0, .bool false]) 4 32 Try.underlying48 Try.underlying48 hi hz0 hz1 hz2 rfl (by decide) V.vg R.lg.length (evK.flat R.lg) rfl (hownL.alloc _) (some ⟨w.heap.size, 0, none⟩) 1 1 [.int .i64 who, .int .i64 2, .int .i64 (i : Int), .bool true] rfl rfl (.inr ⟨_, rfl, World.news_of_block (cs := #[.int .i64 who, .int .i64 2, .int .i64 (i : Int), .bool true]) (heap_alloc_new w _)⟩) (by intro u hu; simp at hu; rcases hu with rfl | rfl | rfl | rfl <;> rfl) (by unfold maxLen; omega) (by omega) (Nat.zero_le _) ?_)
  intro v' w2 hown1 hgrow hblk
  have hown2 : Own evK w2 0 131 v' (R.lg ++ [⟨who, 2, (i : Int), true⟩]) := own_any hown1 (by simp) (by rw [flat_snoc]; rfl)
  obtain ⟨ao', n', cap', rfl⟩ : ∃ ao n c, v' = .slice ao n c := by obtain ⟨ao, c, h⟩ := hown2.form2; exact ⟨ao, _, c, h⟩
  obtain ⟨hP, d4, df4, hoth⟩ := rlog_step HV.out _ ⟨who, 2, (i : Int), true⟩ hown2 hgrow hblk
  have HP := Lib.hid hP
  have HRD := Lib.hid (show Batch.Rd _ (.slice s.ao s.n s.c) l from Batch.Own.rd (show Batch.Own _ 0 119 (.slice s.ao s.n s.c) l from own_of_block HROW.out.1 fun g hg => hoth g (own_block_lt HROW.out.1 hg) (by rw [HROW.out.2 g hg]; decide) (by rw [HROW.out.2 g hg]; decide)) HWF.out)
  clear hownL hown1 hown2 hgrow hblk hP hoth
  go_wp2_with fail
  go_ret3
  exact ⟨_, ⟨rfl, HP.out⟩, HRD.out⟩
set_option maxRecDepth 1000000 in
set_option maxHeartbeats 8000000 in
theorem do_take_yes {w : World} {τ : Nat → Nat} {b : Nat} {R : Rs} (hR : RefAt τ w b R) (hB : RBnd R) (who v : Int) (vb : Value) (hw : 0 ≤ who) (hn : inBed R who = false) {i : Nat} {x : Int} (hx : R.la[i]? = some x) (hc : x = -1) :
    Calls Try.prog 19 #[.pointer (some ⟨b, 0, none⟩), .int .i64 who, .int .i64 4, .int .i64 (i : Int), .int .u64 v, vb] w (fun e w' => DoP τ b w 0 (.slice none 0 0) true (({ R with la := R.la.set i who } : Rs).note ⟨who, 4, (i : Int), true⟩) e w') := by
  obtain ⟨i0, hi, hz0, hz1, hz2⟩ := info_partsP infoRev
  have HAS := Lib.hid (rasleep_any hR hB.2.2.2.1 who)
  rw [hn] at HAS
  obtain ⟨hb0, hb1, hb2, hb3, hb4⟩ := hB
  obtain ⟨V, hV⟩ := hR
  obtain ⟨c0, c1, c2, c3, c4, cf⟩ := five_r hV.st
  obtain ⟨ao0, cap0, hv0⟩ := row_form hV.ws
  obtain ⟨ao1, cap1, hv1⟩ := row_form hV.bs
  obtain ⟨ao2, cap2, hv2⟩ := row_form hV.la
  have HV := Lib.hid hV
  have hi0 : (0 : Int) ≤ (i : Int) := Int.natCast_nonneg _
  have hwn : decide (who < 0) = false := decide_eq_false (by omega)
  have hil := (List.getElem?_eq_some_iff.1 hx).1
  have hi1 : (i : Int) < (R.la.length : Int) := by omega
  obtain ⟨g, cap, hv, _, hτ, q, hf⟩ := row_at hV.la hx
  have d0 : w.cell? ⟨g, i, none⟩ = some (.int .i64 x) := by have := q 0 _ (by decide) rfl; rwa [show i * intK.k + 0 = i from Nat.mul_one i] at this
  have hf0 := hf i
  have hcc : (x == -1) = true := by rw [beq_iff_eq]; exact hc
  have hV2 : RefIs τ (w.setCell ⟨g, i, none⟩ (.int .i64 who)) b { R with la := R.la.set i who } V := hV.lats (keep_set hτ i _) (by
    have := hV.la
    rw [hv] at this ⊢
    exact row_set1 rfl this hx rfl)
  have hS2 : Step τ τ w (w.setCell ⟨g, i, none⟩ (.int .i64 who)) := step_set (by rw [hτ]; decide) i _
  obtain ⟨_, _, _, _, e4, _⟩ := five_r hV2.st
  have HV2 := Lib.hid hV2
  have HS2 := Lib.hid hS2
  rw [hv] at c2
  clear q hv hv0 hv1 hv2 c0 c1 c3 c4 cf hV hx hV2 hS2 hf hτ hc
  go_enter Try.func19, Try.ntmps19
  go_wp2_with fail
  go_at_call 24
  refine HAS.out.mono ?_
  rintro e w1 ⟨rfl, rfl⟩
  go_upto_region 41 with fail
  clear d0 hf0 c2
  generalize w.setCell ⟨g, i, none⟩ (.int .i64 who) = wm at HV2 HS2 e4 ⊢
  have hownL : wm.ownsRow 0 131 4 V.vg R.lg.length (evK.flat R.lg) := HV2.out.lg.1
  go_wp2_with (at_builtin; refine Batch.wpList_append_any _ rfl _ _ 48 48 rfl 0 131 131 i0 (.agg #[.int .i64 0, .int .i64 0, .int .i64 0, .bool false]) 4 32 Try.underlying48 Try.underlying48 hi hz0 hz1 hz2 rfl (by decide) V.vg R.lg.length (evK.flat R.lg) rfl (hownL.alloc _) (some ⟨wm.heap.size, 0, none⟩) 1 1 [.int .i64 who, .int .i64 4, .int .i64 (i : Int), .bool true] rfl rfl (.inr ⟨_, rfl, World.news_of_block (cs := #[.int .i64 who, .int .i64 4, .int .i64 (i : Int), .bool true]) (heap_alloc_new wm _)⟩) (by intro u hu; simp at hu; rcases hu with rfl | rfl | rfl | rfl <;> rfl) (by unfold maxLen; omega) (by omega) (Nat.zero_le _) ?_)
  intro v' w2 hown1 hgrow hblk
  have hown2 : Own evK w2 0 131 v' (R.lg ++ [⟨who, 4, (i : Int), true⟩]) := own_any hown1 (by simp) (by rw [flat_snoc]; rfl)
  obtain ⟨ao', n', cap', rfl⟩ : ∃ ao n c, v' = .slice ao n c := by obtain ⟨ao, c, h⟩ := hown2.form2; exact ⟨ao, _, c, h⟩
  obtain ⟨hP, d4, df4, hoth⟩ := rlog_step HV2.out _ ⟨who, 4, (i : Int), true⟩ hown2 hgrow hblk
  have HP := Lib.hid hP
  clear hownL hown1 hown2 hgrow hblk hP hoth
  go_wp2_with fail
  go_ret3
  exact ⟨rfl, RefP.trans HS2.out HP.out⟩
set_option maxRecDepth 1000000 in
set_option maxHeartbeats 8000000 in
theorem do_take_no {w : World} {τ : Nat → Nat} {b : Nat} {R : Rs} (hR : RefAt τ w b R) (hB : RBnd R) (who v : Int) (vb : Value) (hw : 0 ≤ who) (hn : inBed R who = false) {i : Nat} {x : Int} (hx : R.la[i]? = some x) (hc : x ≠ -1) :
    Calls Try.prog 19 #[.pointer (some ⟨b, 0, none⟩), .int .i64 who, .int .i64 4, .int .i64 (i : Int), .int .u64 v, vb] w (fun e w' => DoP τ b w 0 (.slice none 0 0) false (R.note ⟨who, 4, (i : Int), false⟩) e w') := by
  obtain ⟨i0, hi, hz0, hz1, hz2⟩ := info_partsP infoRev
  have HAS := Lib.hid (rasleep_any hR hB.2.2.2.1 who)
  rw [hn] at HAS
  obtain ⟨hb0, hb1, hb2, hb3, hb4⟩ := hB
  obtain ⟨V, hV⟩ := hR
  obtain ⟨c0, c1, c2, c3, c4, cf⟩ := five_r hV.st
  obtain ⟨ao0, cap0, hv0⟩ := row_form hV.ws
  obtain ⟨ao1, cap1, hv1⟩ := row_form hV.bs
  obtain ⟨ao2, cap2, hv2⟩ := row_form hV.la
  have HV := Lib.hid hV
  have hi0 : (0 : Int) ≤ (i : Int) := Int.natCast_nonneg _
  have hwn : decide (who < 0) = false := decide_eq_false (by omega)
  have hil := (List.getElem?_eq_some_iff.1 hx).1
  have hi1 : (i : Int) < (R.la.length : Int) := by omega
  obtain ⟨g, cap, hv, _, hτ, q, hf⟩ := row_at hV.la hx
  have d0 : w.cell? ⟨g, i, none⟩ = some (.int .i64 x) := by have := q 0 _ (by decide) rfl; rwa [show i * intK.k + 0 = i from Nat.mul_one i] at this
  have hf0 := hf i
  have hcc : (x == -1) = false := by rw [beq_eq_false_iff_ne]; exact hc
  rw [hv] at c2
  clear q hv hv0 hv1 hv2 c0 c1 c3 cf hV hx hf hτ hc
  go_enter Try.func19, Try.ntmps19
  go_wp2_with fail
  go_at_call 24
  refine HAS.out.mono ?_
  rintro e w1 ⟨rfl, rfl⟩
  go_upto_region 41 with fail
  clear d0 hf0 c2
  have hownL : w.ownsRow 0 131 4 V.vg R.lg.length (evK.flat R.lg) := HV.out.lg.1
  go_wp2_with (at_builtin; refine Batch.wpList_append_any _ rfl _ _ 48 48 rfl 0 131 131 i0 (.agg #[.int .i64 0, .int .i64 0, .int .i64 0, .bool false]) 4 32 Try.underlying48 Try.underlying48 hi hz0 hz1 hz2 rfl (by decide) V.vg R.lg.length (evK.flat R.lg) rfl (hownL.alloc _) (some ⟨w.heap.size, 0, none⟩) 1 1 [.int .i64 who, .int .i64 4, .int .i64 (i : Int), .bool false] rfl rfl (.inr ⟨_, rfl, World.news_of_block (cs := #[.int .i64 who, .int .i64 4, .int .i64 (i : Int), .bool false]) (heap_alloc_new w _)⟩) (by intro u hu; simp at hu; rcases hu with rfl | rfl | rfl | rfl <;> rfl) (by unfold maxLen; omega) (by omega) (Nat.zero_le _) ?_)
  intro v' w2 hown1 hgrow hblk
  have hown2 : Own evK w2 0 131 v' (R.lg ++ [⟨who, 4, (i : Int), false⟩]) := own_any hown1 (by simp) (by rw [flat_snoc]; rfl)
  obtain ⟨ao', n', cap', rfl⟩ : ∃ ao n c, v' = .slice ao n c := by obtain ⟨ao, c, h⟩ := hown2.form2; exact ⟨ao, _, c, h⟩
  obtain ⟨hP, d4, df4, hoth⟩ := rlog_step HV.out _ ⟨who, 4, (i : Int), false⟩ hown2 hgrow hblk
  have HP := Lib.hid hP
  clear hownL hown1 hown2 hgrow hblk hP hoth
  go_wp2_with fail
  go_ret3
  exact ⟨rfl, HP.out⟩
set_option maxRecDepth 1000000 in
set_option maxHeartbeats 8000000 in
theorem do_free_yes {w : World} {τ : Nat → Nat} {b : Nat} {R : Rs} (hR : RefAt τ w b R) (hB : RBnd R) (who v : Int) (vb : Value) (hw : 0 ≤ who) (hn : inBed R who = false) {i : Nat} {x : Int} (hx : R.la[i]? = some x) (hc : x = who) :
    Calls Try.prog 19 #[.pointer (some ⟨b, 0, none⟩), .int .i64 who, .int .i64 5, .int .i64 (i : Int), .int .u64 v, vb] w (fun e w' => DoP τ b w 0 (.slice none 0 0) true (({ R with la := R.la.set i (-1) } : Rs).note ⟨who, 5, (i : Int), true⟩) e w') := by
  obtain ⟨i0, hi, hz0, hz1, hz2⟩ := info_partsP infoRev
  have HAS := Lib.hid (rasleep_any hR hB.2.2.2.1 who)
  rw [hn] at HAS
  obtain ⟨hb0, hb1, hb2, hb3, hb4⟩ := hB
  obtain ⟨V, hV⟩ := hR
  obtain ⟨c0, c1, c2, c3, c4, cf⟩ := five_r hV.st
  obtain ⟨ao0, cap0, hv0⟩ := row_form hV.ws
  obtain ⟨ao1, cap1, hv1⟩ := row_form hV.bs
  obtain ⟨ao2, cap2, hv2⟩ := row_form hV.la
  have HV := Lib.hid hV
  have hi0 : (0 : Int) ≤ (i : Int) := Int.natCast_nonneg _
  have hwn : decide (who < 0) = false := decide_eq_false (by omega)
  have hil := (List.getElem?_eq_some_iff.1 hx).1
  have hi1 : (i : Int) < (R.la.length : Int) := by omega
  obtain ⟨g, cap, hv, _, hτ, q, hf⟩ := row_at hV.la hx
  have d0 : w.cell? ⟨g, i, none⟩ = some (.int .i64 x) := by have := q 0 _ (by decide) rfl; rwa [show i * intK.k + 0 = i from Nat.mul_one i] at this
  have hf0 := hf i
  have hcc : (x == who) = true := by rw [beq_iff_eq]; exact hc
  have hV2 : RefIs τ (w.setCell ⟨g, i, none⟩ (.int .i64 (-1))) b { R with la := R.la.set i (-1) } V := hV.lats (keep_set hτ i _) (by
    have := hV.la
    rw [hv] at this ⊢
    exact row_set1 rfl this hx rfl)
  have hS2 : Step τ τ w (w.setCell ⟨g, i, none⟩ (.int .i64 (-1))) := step_set (by rw [hτ]; decide) i _
  obtain ⟨_, _, _, _, e4, _⟩ := five_r hV2.st
  have HV2 := Lib.hid hV2
  have HS2 := Lib.hid hS2
  rw [hv] at c2
  clear q hv hv0 hv1 hv2 c0 c1 c3 c4 cf hV hx hV2 hS2 hf hτ hc
  go_enter Try.func19, Try.ntmps19
  go_wp2_with fail
  go_at_call 24
  refine HAS.out.mono ?_
  rintro e w1 ⟨rfl, rfl⟩
  go_upto_region 41 with fail
  clear d0 hf0 c2
  generalize w.setCell ⟨g, i, none⟩ (.int .i64 (-1)) = wm at HV2 HS2 e4 ⊢
  have hownL : wm.ownsRow 0 131 4 V.vg R.lg.length (evK.flat R.lg) := HV2.out.lg.1
  go_wp2_with (at_builtin; refine Batch.wpList_append_any _ rfl _ _ 48 48 rfl 0 131 131 i0 (.agg #[.int .i64 0, .int .i64 0, .int .i64 0, .bool false]) 4 32 Try.underlying48 Try.underlying48 hi hz0 hz1 hz2 rfl (by decide) V.vg R.lg.length (evK.flat R.lg) rfl (hownL.alloc _) (some ⟨wm.heap.size, 0, none⟩) 1 1 [.int .i64 who, .int .i64 5, .int .i64 (i : Int), .bool true] rfl rfl (.inr ⟨_, rfl, World.news_of_block (cs := #[.int .i64 who, .int .i64 5, .int .i64 (i : Int), .bool true]) (heap_alloc_new wm _)⟩) (by intro u hu; simp at hu; rcases hu with rfl | rfl | rfl | rfl <;> rfl) (by unfold maxLen; omega) (by omega) (Nat.zero_le _) ?_)
  intro v' w2 hown1 hgrow hblk
  have hown2 : Own evK w2 0 131 v' (R.lg ++ [⟨who, 5, (i : Int), true⟩]) := own_any hown1 (by simp) (by rw [flat_snoc]; rfl)
  obtain ⟨ao', n', cap', rfl⟩ : ∃ ao n c, v' = .slice ao n c := by obtain ⟨ao, c, h⟩ := hown2.form2; exact ⟨ao, _, c, h⟩
  obtain ⟨hP, d4, df4, hoth⟩ := rlog_step HV2.out _ ⟨who, 5, (i : Int), true⟩ hown2 hgrow hblk
  have HP := Lib.hid hP
  clear hownL hown1 hown2 hgrow hblk hP hoth
  go_wp2_with fail
  go_ret3
  exact ⟨rfl, RefP.trans HS2.out HP.out⟩
set_option maxRecDepth 1000000 in
set_option maxHeartbeats 8000000 in
theorem do_free_no {w : World} {τ : Nat → Nat} {b : Nat} {R : Rs} (hR : RefAt τ w b R) (hB : RBnd R) (who v : Int) (vb : Value) (hw : 0 ≤ who) (hn : inBed R who = false) {i : Nat} {x : Int} (hx : R.la[i]? = some x) (hc : x ≠ who) :
    Calls Try.prog 19 #[.pointer (some ⟨b, 0, none⟩), .int .i64 who, .int .i64 5, .int .i64 (i : Int), .int .u64 v, vb] w (fun e w' => DoP τ b w 0 (.slice none 0 0) false (R.note ⟨who, 5, (i : Int), false⟩) e w') := by
  obtain ⟨i0, hi, hz0, hz1, hz2⟩ := info_partsP infoRev
  have HAS := Lib.hid (rasleep_any hR hB.2.2.2.1 who)
  rw [hn] at HAS
  obtain ⟨hb0, hb1, hb2, hb3, hb4⟩ := hB
  obtain ⟨V, hV⟩ := hR
  obtain ⟨c0, c1, c2, c3, c4, cf⟩ := five_r hV.st
  obtain ⟨ao0, cap0, hv0⟩ := row_form hV.ws
  obtain ⟨ao1, cap1, hv1⟩ := row_form hV.bs
  obtain ⟨ao2, cap2, hv2⟩ := row_form hV.la
  have HV := Lib.hid hV
  have hi0 : (0 : Int) ≤ (i : Int) := Int.natCast_nonneg _
  have hwn : decide (who < 0) = false := decide_eq_false (by omega)
  have hil := (List.getElem?_eq_some_iff.1 hx).1
  have hi1 : (i : Int) < (R.la.length : Int) := by omega
  obtain ⟨g, cap, hv, _, hτ, q, hf⟩ := row_at hV.la hx
  have d0 : w.cell? ⟨g, i, none⟩ = some (.int .i64 x) := by have := q 0 _ (by decide) rfl; rwa [show i * intK.k + 0 = i from Nat.mul_one i] at this
  have hf0 := hf i
  have hcc : (x == who) = false := by rw [beq_eq_false_iff_ne]; exact hc
  rw [hv] at c2
  clear q hv hv0 hv1 hv2 c0 c1 c3 cf hV hx hf hτ hc
  go_enter Try.func19, Try.ntmps19
  go_wp2_with fail
  go_at_call 24
  refine HAS.out.mono ?_
  rintro e w1 ⟨rfl, rfl⟩
  go_upto_region 41 with fail
  clear d0 hf0 c2
  have hownL : w.ownsRow 0 131 4 V.vg R.lg.length (evK.flat R.lg) := HV.out.lg.1
  go_wp2_with (at_builtin; refine Batch.wpList_append_any _ rfl _ _ 48 48 rfl 0 131 131 i0 (.agg #[.int .i64 0, .int .i64 0, .int .i64 0, .bool false]) 4 32 Try.underlying48 Try.underlying48 hi hz0 hz1 hz2 rfl (by decide) V.vg R.lg.length (evK.flat R.lg) rfl (hownL.alloc _) (some ⟨w.heap.size, 0, none⟩) 1 1 [.int .i64 who, .int .i64 5, .int .i64 (i : Int), .bool false] rfl rfl (.inr ⟨_, rfl, World.news_of_block (cs := #[.int .i64 who, .int .i64 5, .int .i64 (i : Int), .bool false]) (heap_alloc_new w _)⟩) (by intro u hu; simp at hu; rcases hu with rfl | rfl | rfl | rfl <;> rfl) (by unfold maxLen; omega) (by omega) (Nat.zero_le _) ?_)
  intro v' w2 hown1 hgrow hblk
  have hown2 : Own evK w2 0 131 v' (R.lg ++ [⟨who, 5, (i : Int), false⟩]) := own_any hown1 (by simp) (by rw [flat_snoc]; rfl)
  obtain ⟨ao', n', cap', rfl⟩ : ∃ ao n c, v' = .slice ao n c := by obtain ⟨ao, c, h⟩ := hown2.form2; exact ⟨ao, _, c, h⟩
  obtain ⟨hP, d4, df4, hoth⟩ := rlog_step HV.out _ ⟨who, 5, (i : Int), false⟩ hown2 hgrow hblk
  have HP := Lib.hid hP
  clear hownL hown1 hown2 hgrow hblk hP hoth
  go_wp2_with fail
  go_ret3
  exact ⟨rfl, HP.out⟩
set_option maxRecDepth 1000000 in
set_option maxHeartbeats 8000000 in
theorem do_sleep_no {w : World} {τ : Nat → Nat} {b : Nat} {R : Rs} (hR : RefAt τ w b R) (hB : RBnd R) (who v : Int) (vb : Value) (hw : 0 ≤ who) (hn : inBed R who = false) {i : Nat} {x : Int} (hx : R.la[i]? = some x) (hc : x ≠ who) :
    Calls Try.prog 19 #[.pointer (some ⟨b, 0, none⟩), .int .i64 who, .int .i64 6, .int .i64 (i : Int), .int .u64 v, vb] w (fun e w' => DoP τ b w 0 (.slice none 0 0) false (R.note ⟨who, 6, (i : Int), false⟩) e w') := by
  obtain ⟨i0, hi, hz0, hz1, hz2⟩ := info_partsP infoRev
  have HAS := Lib.hid (rasleep_any hR hB.2.2.2.1 who)
  rw [hn] at HAS
  obtain ⟨hb0, hb1, hb2, hb3, hb4⟩ := hB
  obtain ⟨V, hV⟩ := hR
  obtain ⟨c0, c1, c2, c3, c4, cf⟩ := five_r hV.st
  obtain ⟨ao0, cap0, hv0⟩ := row_form hV.ws
  obtain ⟨ao1, cap1, hv1⟩ := row_form hV.bs
  obtain ⟨ao2, cap2, hv2⟩ := row_form hV.la
  have HV := Lib.hid hV
  have hi0 : (0 : Int) ≤ (i : Int) := Int.natCast_nonneg _
  have hwn : decide (who < 0) = false := decide_eq_false (by omega)
  have hil := (List.getElem?_eq_some_iff.1 hx).1
  have hi1 : (i : Int) < (R.la.length : Int) := by omega
  obtain ⟨g, cap, hv, _, hτ, q, hf⟩ := row_at hV.la hx
  have d0 : w.cell? ⟨g, i, none⟩ = some (.int .i64 x) := by have := q 0 _ (by decide) rfl; rwa [show i * intK.k + 0 = i from Nat.mul_one i] at this
  have hf0 := hf i
  have hcc : (x == who) = false := by rw [beq_eq_false_iff_ne]; exact hc
  rw [hv] at c2
  clear q hv hv0 hv1 hv2 c0 c1 c3 cf hV hx hf hτ hc
  go_enter Try.func19, Try.ntmps19
  go_wp2_with fail
  go_at_call 24
  refine HAS.out.mono ?_
  rintro e w1 ⟨rfl, rfl⟩
  go_upto_region 41 with fail
  clear d0 hf0 c2
  have hownL : w.ownsRow 0 131 4 V.vg R.lg.length (evK.flat R.lg) := HV.out.lg.1
  go_wp2_with (at_builtin; refine Batch.wpList_append_any _ rfl _ _ 48 48 rfl 0 131 131 i0 (.agg #[.int .i64 0, .int .i64 0, .int .i64 0, .bool false]) 4 32 Try.underlying48 Try.underlying48 hi hz0 hz1 hz2 rfl (by decide) V.vg R.lg.length (evK.flat R.lg) rfl (hownL.alloc _) (some ⟨w.heap.size, 0, none⟩) 1 1 [.int .i64 who, .int .i64 6, .int .i64 (i : Int), .bool false] rfl rfl (.inr ⟨_, rfl, World.news_of_block (cs := #[.int .i64 who, .int .i64 6, .int .i64 (i : Int), .bool false]) (heap_alloc_new w _)⟩) (by intro u hu; simp at hu; rcases hu with rfl | rfl | rfl | rfl <;> rfl) (by unfold maxLen; omega) (by omega) (Nat.zero_le _) ?_)
  intro v' w2 hown1 hgrow hblk
  have hown2 : Own evK w2 0 131 v' (R.lg ++ [⟨who, 6, (i : Int), false⟩]) := own_any hown1 (by simp) (by rw [flat_snoc]; rfl)
  obtain ⟨ao', n', cap', rfl⟩ : ∃ ao n c, v' = .slice ao n c := by obtain ⟨ao, c, h⟩ := hown2.form2; exact ⟨ao, _, c, h⟩
  obtain ⟨hP, d4, df4, hoth⟩ := rlog_step HV.out _ ⟨who, 6, (i : Int), false⟩ hown2 hgrow hblk
  have HP := Lib.hid hP
  clear hownL hown1 hown2 hgrow hblk hP hoth
  go_wp2_with fail
  go_ret3
  exact ⟨rfl, HP.out⟩
end Go.Proofs.Ytneegocbknkhjaa.Rm
