/-
  PACKAGE marchlandref08: Do: Sleep, Wake, Set; what isn't an access.
-/
import Derived.Test.YtneegocbknkhjaaRmDo
namespace Go.Proofs.Ytneegocbknkhjaa.Rm
open Go.RowKit Rw Pk Mm
set_option linter.unusedVariables false

theorem tup3 {a a' : Int} {v : Value} {p p' : Bool} (h : a = a') (h2 : p = p') : Ending.returned (.tuple #[.int .u64 a, v, .bool p]) = .returned (.tuple #[.int .u64 a', v, .bool p']) := by rw [h, h2]
theorem infoPr : (Try.prog.info? 94).map (fun i => (i.zero, i.size, i.bytes)) = some (some (.agg #[.int .i64 0, .int .i64 0]), 2, 16) := by kernel_rfl
theorem rbed_step {τ : Nat → Nat} {w w1 : World} {b : Nat} {R : Rs} {V : Vr} (hV : RefIs τ w b R V) (o : Obj) {bd : List (Int × Int)} {v' : Value} (hown : Own pairK w1 0 94 v' bd)
    (hg : (w.alloc o).grownBy w1 V.vd.ownBlock) (hblk : v'.ownBlock = V.vd.ownBlock ∨ v'.ownBlock = some (w.heap.size + 1)) :
    RefP τ w b { R with bd := bd } (w1.setCell ⟨b, 3, none⟩ v') ∧ w1.cell? ⟨b, 3, none⟩ = some V.vd ∧ w1.frozen? ⟨b, 3, none⟩ = false := by
  have hb := (Array.getElem?_eq_some_iff.1 hV.st).1
  have hs1 : w.heap.size + 1 ≤ w1.heap.size := by have := hg.size; simp at this; omega
  have hold : ∀ i, i < w.heap.size → τ i ≠ 5 → w1.heap[i]? = w.heap[i]? := fun i hi hne => (hg.block i (by simp; omega) (fun h => hne (hV.bd.2 i h.symm))).trans (heap_alloc_old w o hi)
  have hst := (hold b hb (by rw [hV.tb]; decide)).trans hV.st
  obtain ⟨_, _, _, d3, _, df⟩ := five_r hst
  refine ⟨hV.beds hown (by omega) (((Below.refl 0 w).alloc (Nat.zero_le _) o).grown hg (Nat.zero_le _) (fun _ _ => Nat.zero_le _)) hold (fun g hgg hlt => ?_), d3, df 3⟩
  rcases hblk with h | h
  · exact hV.bd.2 g (by rw [← h]; exact hgg)
  · rw [h] at hgg
    have := Option.some.inj hgg
    omega
set_option maxRecDepth 1000000 in
set_option maxHeartbeats 8000000 in
theorem do_sleep_yes {w : World} {τ : Nat → Nat} {b : Nat} {R : Rs} (hR : RefAt τ w b R) (hB : RBnd R) (who v : Int) (vb : Value) (hw : 0 ≤ who) (hn : inBed R who = false) {i : Nat} {x : Int} (hx : R.la[i]? = some x) (hc : x = who) :
    Calls Try.prog 19 #[.pointer (some ⟨b, 0, none⟩), .int .i64 who, .int .i64 6, .int .i64 (i : Int), .int .u64 v, vb] w (fun e w' => DoP τ b w 0 (.slice none 0 0) true (({ R with la := R.la.set i (-1), bd := R.bd ++ [(who, (i : Int))] } : Rs).note ⟨who, 6, (i : Int), true⟩) e w') := by
  obtain ⟨i0, hi, hz0, hz1, hz2⟩ := info_partsP infoRev
  have HAS := Lib.hid (rasleep_any hR hB.2.2.2.1 who)
  rw [hn] at HAS
  obtain ⟨hb0, hb1, hb2, hb3, hb4⟩ := hB
  obtain ⟨V, hV⟩ := hR
  obtain ⟨c0, c1, c2, c3, c4, cf⟩ := five_r hV.st
  obtain ⟨ao0, cap0, hv0⟩ := row_form hV.ws
  obtain ⟨ao1, cap1, hv1⟩ := row_form hV.bs
  obtain ⟨ao2, cap2, hv2⟩ := row_form hV.la
  have HV := Lib.hid hV
  have hi0 : (0 : Int) ≤ (i : Int) := Int.natCast_nonneg _
  have hwn : decide (who < 0) = false := decide_eq_false (by omega)
  have hil := (List.getElem?_eq_some_iff.1 hx).1
  have hi1 : (i : Int) < (R.la.length : Int) := by omega
  obtain ⟨g, cap, hv, _, hτ, q, hf⟩ := row_at hV.la hx
  have d0 : w.cell? ⟨g, i, none⟩ = some (.int .i64 x) := by have := q 0 _ (by decide) rfl; rwa [show i * intK.k + 0 = i from Nat.mul_one i] at this
  have hf0 := hf i
  have hcc : (x == who) = true := by rw [beq_iff_eq]; exact hc
  have hV2 : RefIs τ (w.setCell ⟨g, i, none⟩ (.int .i64 (-1))) b { R with la := R.la.set i (-1) } V := hV.lats (keep_set hτ i _) (by
    have := hV.la
    rw [hv] at this ⊢
    exact row_set1 rfl this hx rfl)
  have hS2 : Step τ τ w (w.setCell ⟨g, i, none⟩ (.int .i64 (-1))) := step_set (by rw [hτ]; decide) i _
  obtain ⟨_, _, _, e3, _, _⟩ := five_r hV2.st
  obtain ⟨j0, hj, hj0, hj1, hj2⟩ := info_partsP infoPr
  have HV2 := Lib.hid hV2
  have HS2 := Lib.hid hS2
  rw [hv] at c2
  clear q hv hv0 hv1 hv2 c0 c1 c3 c4 cf hV hx hV2 hS2 hf hτ hc
  go_enter Try.func19, Try.ntmps19
  go_wp2_with fail
  go_at_call 24
  refine HAS.out.mono ?_
  rintro e w1 ⟨rfl, rfl⟩
  go_upto_region 30 with fail
  clear d0 hf0 c2
  generalize w.setCell ⟨g, i, none⟩ (.int .i64 (-1)) = wm at HV2 HS2 e3 ⊢
  have hownB : wm.ownsRow 0 94 2 V.vd R.bd.length (pairK.flat R.bd) := HV2.out.bd.1
  go_wp2_with (at_builtin; refine Batch.wpList_append_any _ rfl _ _ 47 47 rfl 0 94 94 j0 (.agg #[.int .i64 0, .int .i64 0]) 2 16 Try.underlying47 Try.underlying47 hj hj0 hj1 hj2 rfl (by decide) V.vd R.bd.length (pairK.flat R.bd) rfl (hownB.alloc _) (some ⟨wm.heap.size, 0, none⟩) 1 1 [.int .i64 who, .int .i64 (i : Int)] rfl rfl ?b1 ?b2 ?b3 ?b4 ?b5 ?_)
  case b1 => exact .inr ⟨_, rfl, World.news_of_block (cs := #[.int .i64 who, .int .i64 (i : Int)]) (heap_alloc_new wm _)⟩
  case b2 => intro u hu; simp at hu; rcases hu with rfl | rfl <;> rfl
  case b3 => unfold maxLen; omega
  case b4 => omega
  case b5 => exact Nat.zero_le _
  intro vB w3 hownb hgrowb hblkb
  have hownb2 : Own pairK w3 0 94 vB (R.bd ++ [(who, (i : Int))]) := own_any hownb (by simp) (by rw [flat_snoc]; rfl)
  obtain ⟨bo, bn, bc, rfl⟩ : ∃ ao n c, vB = .slice ao n c := by obtain ⟨ao, c, h⟩ := hownb2.form2; exact ⟨ao, _, c, h⟩
  obtain ⟨hPB, d3, df3⟩ := rbed_step HV2.out _ hownb2 hgrowb hblkb
  have HPB := Lib.hid hPB
  clear hownB hownb hownb2 hgrowb hblkb hPB e3
  go_upto_region 41 with fail
  clear d3 df3
  generalize w3.setCell ⟨b, 3, none⟩ (.slice bo bn bc) = wn at HPB ⊢
  obtain ⟨τ3, ⟨V3, hV3⟩, hS3⟩ := HPB.out
  obtain ⟨_, _, _, _, e4, _⟩ := five_r hV3.st
  have HV3 := Lib.hid hV3
  have HS3 := Lib.hid (HS2.out.trans hS3)
  clear hV3 hS3 HPB
  have hownL : wn.ownsRow 0 131 4 V3.vg R.lg.length (evK.flat R.lg) := HV3.out.lg.1
  go_wp2_with (at_builtin; refine Batch.wpList_append_any _ rfl _ _ 48 48 rfl 0 131 131 i0 (.agg #[.int .i64 0, .int .i64 0, .int .i64 0, .bool false]) 4 32 Try.underlying48 Try.underlying48 hi hz0 hz1 hz2 rfl (by decide) V3.vg R.lg.length (evK.flat R.lg) rfl (hownL.alloc _) (some ⟨wn.heap.size, 0, none⟩) 1 1 [.int .i64 who, .int .i64 6, .int .i64 (i : Int), .bool true] rfl rfl (.inr ⟨_, rfl, World.news_of_block (cs := #[.int .i64 who, .int .i64 6, .int .i64 (i : Int), .bool true]) (heap_alloc_new wn _)⟩) (by intro u hu; simp at hu; rcases hu with rfl | rfl | rfl | rfl <;> rfl) (by unfold maxLen; omega) (by omega) (Nat.zero_le _) ?_)
  intro v' w2 hown1 hgrow hblk
  have hown2 : Own evK w2 0 131 v' (R.lg ++ [⟨who, 6, (i : Int), true⟩]) := own_any hown1 (by simp) (by rw [flat_snoc]; rfl)
  obtain ⟨ao', n', cap', rfl⟩ : ∃ ao n c, v' = .slice ao n c := by obtain ⟨ao, c, h⟩ := hown2.form2; exact ⟨ao, _, c, h⟩
  obtain ⟨hP, d4, df4, hoth⟩ := rlog_step HV3.out _ ⟨who, 6, (i : Int), true⟩ hown2 hgrow hblk
  have HP := Lib.hid hP
  clear hownL hown1 hown2 hgrow hblk hP hoth
  go_wp2_with fail
  go_ret3
  exact ⟨rfl, RefP.trans HS3.out HP.out⟩
def stays (ok : Bool) (a : Int) (y : Int × Int) : Bool := !(ok && (y.2 == a))
def woke (ok : Bool) (a : Int) (l : List (Int × Int)) : Int := (l.filter (fun y => ok && (y.2 == a))).length
theorem woke_snoc (ok : Bool) (a : Int) (l : List (Int × Int)) (y : Int × Int) : woke ok a (l ++ [y]) = woke ok a l + (if (ok && (y.2 == a)) = true then 1 else 0) := by
  unfold woke
  rw [List.filter_append, List.length_append]
  by_cases h : (ok && (y.2 == a)) = true
  · rw [if_pos h]; simp [h]
  · rw [if_neg h]; simp [h]
theorem stays_snoc (ok : Bool) (a : Int) (l : List (Int × Int)) (y : Int × Int) : (l ++ [y]).filter (stays ok a) = l.filter (stays ok a) ++ (if (ok && (y.2 == a)) = true then [] else [y]) := by
  rw [List.filter_append]
  by_cases h : (ok && (y.2 == a)) = true
  · rw [if_pos h]; simp [stays, h]
  · rw [if_neg h]; simp [stays, h]
theorem woke_le (ok : Bool) (a : Int) (l : List (Int × Int)) : 0 ≤ woke ok a l ∧ woke ok a l ≤ l.length := by
  unfold woke
  have := List.length_filter_le (fun y : Int × Int => ok && (y.2 == a)) l
  omega
set_option maxRecDepth 1000000 in
set_option maxHeartbeats 8000000 in
theorem do_wake {w : World} {τ : Nat → Nat} {b : Nat} {R : Rs} (hR : RefAt τ w b R) (hB : RBnd R) (who v : Int) (vb : Value) (hw : 0 ≤ who) (hn : inBed R who = false) {i : Nat} {x : Int} (hx : R.la[i]? = some x) :
    Calls Try.prog 19 #[.pointer (some ⟨b, 0, none⟩), .int .i64 who, .int .i64 7, .int .i64 (i : Int), .int .u64 v, vb] w (fun e w' => DoP τ b w (woke (x == who) (i : Int) R.bd) (.slice none 0 0) (x == who) (({ R with bd := R.bd.filter (stays (x == who) (i : Int)) } : Rs).note ⟨who, 7, (i : Int), (x == who)⟩) e w') := by
  obtain ⟨i0, hi, hz0, hz1, hz2⟩ := info_partsP infoRev
  have HAS := Lib.hid (rasleep_any hR hB.2.2.2.1 who)
  rw [hn] at HAS
  obtain ⟨hb0, hb1, hb2, hb3, hb4⟩ := hB
  obtain ⟨V, hV⟩ := hR
  obtain ⟨c0, c1, c2, c3, c4, cf⟩ := five_r hV.st
  obtain ⟨ao0, cap0, hv0⟩ := row_form hV.ws
  obtain ⟨ao1, cap1, hv1⟩ := row_form hV.bs
  obtain ⟨ao2, cap2, hv2⟩ := row_form hV.la
  have HV := Lib.hid hV
  have hi0 : (0 : Int) ≤ (i : Int) := Int.natCast_nonneg _
  have hwn : decide (who < 0) = false := decide_eq_false (by omega)
  have hil := (List.getElem?_eq_some_iff.1 hx).1
  have hi1 : (i : Int) < (R.la.length : Int) := by omega
  obtain ⟨g, cap, hv, _, hτ, q, hf⟩ := row_at hV.la hx
  have d0 : w.cell? ⟨g, i, none⟩ = some (.int .i64 x) := by have := q 0 _ (by decide) rfl; rwa [show i * intK.k + 0 = i from Nat.mul_one i] at this
  obtain ⟨ao3, cap3, hv3⟩ := row_form hV.bd
  have hbd := hV.bd
  rw [hv3] at hbd c3
  have HBD := Lib.hid hbd
  have hblt := (Array.getElem?_eq_some_iff.1 hV.st).1
  have hc3 := c3
  have hf3 := cf 3
  obtain ⟨j0, hj, hj0, hj1, hj2⟩ := info_partsP infoPr
  obtain ⟨ok, hok⟩ : ∃ ok : Bool, ok = (x == who) := ⟨_, rfl⟩
  have HOK := Lib.hid hok
  have hcc : (x == who) = ok := hok.symm
  rw [hv] at c2
  have hbl : (R.bd.length : Int) ≤ 1000000 := by omega
  have hz00 : decide ((i : Int) < 0) = false := decide_eq_false (by omega)
  have hz11 : decide ((R.la.length : Int) ≤ (i : Int)) = false := decide_eq_false (by omega)
  have hz12 : decide (R.la.length ≤ i) = false := decide_eq_false (by omega)
  clear q hv hv0 hv1 hv2 c0 c1 c4 cf hV hx hf hτ hok hbd
  go_enter Try.func19, Try.ntmps19
  go_wp2_with fail
  go_at_call 24
  refine HAS.out.mono ?_
  rintro e w1 ⟨rfl, rfl⟩
  go_wp2_with fail
  go_loopg [17, 19, 20] R.bd.length (fun k s u t wr => ∃ n : Nat, n + k = R.bd.length ∧ s = .int .u64 (woke ok (i : Int) (R.bd.take n)) ∧ t = .int .i64 (n : Int) ∧ Hid (Own pairK wr w.heap.size 94 u ((R.bd.take n).filter (stays ok (i : Int)))) ∧ Hid (Below w.heap.size w wr))
  case atStart => exact ⟨0, by omega, by simp [woke], rfl, Lib.hid (Own.nil (S := pairK) _ _ _), Lib.hid (Below.refl _ _)⟩
  case round =>
    obtain ⟨n, hnk, rfl, rfl, ho, hb⟩ := hrel
    have HNK := Lib.hid hnk
    have hn0 : (0 : Int) ≤ (n : Int) := Int.natCast_nonneg _
    have e3 : wr.cell? ⟨b, 3, none⟩ = some (.slice ao3 R.bd.length cap3) := (hb.out.cell (p := ⟨b, 3, none⟩) hblt).trans hc3
    clear hnk
    by_cases hlt : n < R.bd.length
    · have hn1 : (n : Int) < (R.bd.length : Int) := by omega
      obtain ⟨y, hy⟩ : ∃ y, R.bd[n]? = some y := ⟨_, List.getElem?_eq_getElem hlt⟩
      obtain ⟨gb, cb, hsv, hgb, _, qb, _⟩ := row_at HBD.out hy
      have qb' := qb.below hb.out hgb
      have f0 : wr.cell? ⟨gb, n * 2, none⟩ = some (.int .i64 y.1) := qb' 0 _ (by decide) rfl
      have f1 : wr.cell? ⟨gb, n * 2 + 1, none⟩ = some (.int .i64 y.2) := qb' 1 _ (by decide) rfl
      simp only [Value.slice.injEq] at hsv
      obtain ⟨rfl, _, rfl⟩ := hsv
      have HY := Lib.hid hy
      have HLT := Lib.hid hlt
      have hwk := woke_le ok (i : Int) (R.bd.take n)
      have hwk2 : woke ok (i : Int) (R.bd.take n) ≤ 1000000 := by have : (R.bd.take n).length ≤ R.bd.length := by rw [List.length_take]; omega
                                                                  omega
      obtain ⟨hwk0, _⟩ := hwk
      have hty := take_succM hy
      have HTY := Lib.hid hty
      obtain ⟨y1, y2⟩ := y
      simp only at f0 f1
      clear hy qb qb' hlt hty
      by_cases hin : (ok && (y2 == (i : Int))) = true
      · have HW := Lib.hid (woke_snoc ok (i : Int) (R.bd.take n) (y1, y2))
        have HST := Lib.hid (stays_snoc ok (i : Int) (R.bd.take n) (y1, y2))
        rw [if_pos hin] at HW HST
        have hok1 : ok = true := by simp only [Bool.and_eq_true] at hin; exact hin.1
        have hy2 : (y2 == (i : Int)) = true := by simp only [Bool.and_eq_true] at hin; exact hin.2
        clear hin
        subst hok1
        go_wp2_with fail
        go_roundg (gk - 1)
        case measure => have := HNK.out; have := HLT.out; omega
        case rel => exact ⟨n + 1, by have := HNK.out; have := HLT.out; omega, by rw [HTY.out, HW.out], by go_num, Lib.hid (by rw [HTY.out, HST.out, List.append_nil]; exact ho.out), hb⟩
      · have HW := Lib.hid (woke_snoc ok (i : Int) (R.bd.take n) (y1, y2))
        have HST := Lib.hid (stays_snoc ok (i : Int) (R.bd.take n) (y1, y2))
        rw [if_neg hin] at HW HST
        have hway : ok = false ∨ ok = true ∧ (y2 == (i : Int)) = false := by
          cases ok
          · exact .inl rfl
          · exact .inr ⟨rfl, by simpa using hin⟩
        have hown : wr.ownsRow w.heap.size 94 2 u19 ((R.bd.take n).filter (stays ok (i : Int))).length (pairK.flat ((R.bd.take n).filter (stays ok (i : Int)))) := ho.out
        have hfl : ((R.bd.take n).filter (stays ok (i : Int))).length ≤ 1000000 := by
          have h1 := List.length_filter_le (stays ok (i : Int)) (R.bd.take n)
          rw [List.length_take] at h1
          omega
        have hbase := hb.out.size
        generalize hLL : (R.bd.take n).filter (stays ok (i : Int)) = LL at HST hown hfl
        have HLL := Lib.hid hLL
        clear hin ho hLL
        rcases hway with rfl | ⟨rfl, hy2⟩
        all_goals
          go_wp2_with (at_builtin; refine Batch.wpList_append_any _ rfl _ _ 47 47 rfl w.heap.size 94 94 j0 (.agg #[.int .i64 0, .int .i64 0]) 2 16 Try.underlying47 Try.underlying47 hj hj0 hj1 hj2 rfl (by decide) u19 LL.length (pairK.flat LL) rfl (hown.alloc _) (some ⟨wr.heap.size, 0, none⟩) 1 1 [.int .i64 y1, .int .i64 y2] rfl rfl (.inr ⟨_, rfl, World.news_of_block (cs := #[.int .i64 y1, .int .i64 y2]) (heap_alloc_new wr _)⟩) (by intro u hu; simp at hu; rcases hu with rfl | rfl <;> rfl) (by unfold maxLen; omega) (by omega) (by simp; omega) ?_)
          intro vB w3 hownb hgrowb hblkb
          have HO3 : Hid (Own pairK w3 w.heap.size 94 vB (LL ++ [(y1, y2)])) := Lib.hid (by unfold Own; rw [List.length_append, flat_snoc]; exact hownb)
          have HB3 : Hid (Below w.heap.size w w3) := Lib.hid ((hb.out.alloc hbase _).grown hgrowb (by simp; omega) (fun k e => (hown.lt k e).1))
          clear hown hownb hgrowb hblkb
          go_wp2_with fail
          go_roundg (gk - 1)
          case measure => have := HNK.out; have := HLT.out; omega
          case rel => exact ⟨n + 1, by have := HNK.out; have := HLT.out; omega, by rw [HTY.out, HW.out, Int.add_zero], by go_num, Lib.hid (by rw [HTY.out, HST.out, ← HLL.out] at *; first | exact HO3.out | (rw [HLL.out]; exact HO3.out)), HB3⟩
    · obtain rfl : n = R.bd.length := by have := HNK.out; omega
      have hj2' : decide ((R.bd.length : Int) < (R.bd.length : Int)) = false := decide_eq_false (by omega)
      rw [List.take_length] at ho ⊢
      obtain ⟨lo, lc, hlo⟩ := ho.out.form2
      have hn3 : ∃ ln, ln = (R.bd.filter (stays ok (i : Int))).length := ⟨_, rfl⟩
      obtain ⟨ln, hln⟩ := hn3
      rw [← hln] at hlo
      have g3 : wr.frozen? ⟨b, 3, none⟩ = false := (hb.out.frozen (p := ⟨b, 3, none⟩) hblt).trans hf3
      have hPB := HV.out.beds (ho.out.mono (Nat.zero_le _)) hb.out.size (hb.out.mono (Nat.zero_le _)) (fun j hj _ => hb.out.block j hj) (fun g' hg' hlt' => by have := (World.ownsRow.lt ho.out g' hg').1; omega)
      have HPB := Lib.hid hPB
      subst hlo
      clear hPB ho hb hc3 hf3 hln
      go_upto_region 41 with fail
      clear e3 g3
      generalize wr.setCell ⟨b, 3, none⟩ (.slice lo ln lc) = wn at HPB ⊢
      obtain ⟨τ3, ⟨V3, hV3⟩, hS3⟩ := HPB.out
      obtain ⟨_, _, _, _, e4, _⟩ := five_r hV3.st
      have HV3 := Lib.hid hV3
      have HS3 := Lib.hid hS3
      clear hV3 hS3 HPB
      have hownL : wn.ownsRow 0 131 4 V3.vg R.lg.length (evK.flat R.lg) := HV3.out.lg.1
      go_wp2_with (at_builtin; refine Batch.wpList_append_any _ rfl _ _ 48 48 rfl 0 131 131 i0 (.agg #[.int .i64 0, .int .i64 0, .int .i64 0, .bool false]) 4 32 Try.underlying48 Try.underlying48 hi hz0 hz1 hz2 rfl (by decide) V3.vg R.lg.length (evK.flat R.lg) rfl (hownL.alloc _) (some ⟨wn.heap.size, 0, none⟩) 1 1 [.int .i64 who, .int .i64 7, .int .i64 (i : Int), .bool ok] rfl rfl (.inr ⟨_, rfl, World.news_of_block (cs := #[.int .i64 who, .int .i64 7, .int .i64 (i : Int), .bool ok]) (heap_alloc_new wn _)⟩) (by intro u hu; simp at hu; rcases hu with rfl | rfl | rfl | rfl <;> rfl) (by unfold maxLen; omega) (by omega) (Nat.zero_le _) ?_)
      intro v' w2 hown1 hgrow hblk
      have hown2 : Own evK w2 0 131 v' (R.lg ++ [⟨who, 7, (i : Int), ok⟩]) := own_any hown1 (by simp) (by rw [flat_snoc]; rfl)
      obtain ⟨ao', n', cap', rfl⟩ : ∃ ao n c, v' = .slice ao n c := by obtain ⟨ao, c, h⟩ := hown2.form2; exact ⟨ao, _, c, h⟩
      obtain ⟨hP, d4, df4, hoth⟩ := rlog_step HV3.out _ ⟨who, 7, (i : Int), ok⟩ hown2 hgrow hblk
      have HP := Lib.hid hP
      clear hownL hown1 hown2 hgrow hblk hP hoth
      go_wp2_with fail
      go_ret3
      exact ⟨tup3 (by rw [← HOK.out]) HOK.out, by rw [← HOK.out]; exact RefP.trans HS3.out HP.out⟩


/-! ### what isn't an access -/
theorem rcnt_lt {R : Rs} {q : Int} (h : q = 0 ∨ q = 1) : rcnt R q = R.ws.length := by unfold rcnt; rw [if_pos (by omega)]
theorem rcnt_mid {R : Rs} {q : Int} (h : q = 2 ∨ q = 3) : rcnt R q = R.bs.length := by unfold rcnt; rw [if_neg (by omega), if_pos (by omega)]
theorem rcnt_hi {R : Rs} {q : Int} (h : 4 ≤ q) : rcnt R q = R.la.length := by unfold rcnt; rw [if_neg (by omega), if_neg (by omega)]
set_option maxRecDepth 1000000 in
set_option maxHeartbeats 16000000 in
theorem do_no {w : World} {τ : Nat → Nat} {b : Nat} {R : Rs} (hR : RefAt τ w b R) (hB : RBnd R) (who q a v : Int) (vb : Value) (hq : 0 ≤ q ∧ q ≤ 7) (ha : (who < 0 ∨ a < 0 ∨ (rcnt R q : Int) ≤ a) ∨ (0 ≤ who ∧ 0 ≤ a ∧ a < (rcnt R q : Int)) ∧ inBed R who = true) :
    Calls Try.prog 19 #[.pointer (some ⟨b, 0, none⟩), .int .i64 who, .int .i64 q, .int .i64 a, .int .u64 v, vb] w fun e w' => e = .returned (.tuple #[.int .u64 0, .slice none 0 0, .bool false]) ∧ w = w' := by
  have HAS := Lib.hid (rasleep_any hR hB.2.2.2.1 who)
  obtain ⟨hb0, hb1, hb2, hb3, hb4⟩ := hB
  obtain ⟨V, hV⟩ := hR
  obtain ⟨c0, c1, c2, c3, c4, cf⟩ := five_r hV.st
  obtain ⟨ao0, cap0, hv0⟩ := row_form hV.ws
  obtain ⟨ao1, cap1, hv1⟩ := row_form hV.bs
  obtain ⟨ao2, cap2, hv2⟩ := row_form hV.la
  rw [hv0] at c0
  rw [hv1, hV.bl] at c1
  rw [hv2] at c2
  clear hV hv0 hv1 hv2 c3 c4 cf
  have hk2 : (q = 0 ∨ q = 1) ∨ (q = 2 ∨ q = 3) ∨ (q = 4 ∨ q = 5 ∨ q = 6 ∨ q = 7) := by omega
  have main : ∀ n : Nat, rcnt R q = n → n ≤ 1000 → Hid (((who < 0) ∨ (0 ≤ who ∧ a < 0) ∨ ((0 ≤ who ∧ 0 ≤ a) ∧ (n : Int) ≤ a)) ∨ (0 ≤ who ∧ 0 ≤ a ∧ a < (n : Int)) ∧ inBed R who = true) := fun n hn _ => Lib.hid (by
    rw [hn] at ha
    rcases ha with h | h
    · exact .inl (by omega)
    · exact .inr h)
  rcases hk2 with hk2 | hk2 | hk2
  case' inl => have H := main _ (rcnt_lt hk2) hb0
  case' inr.inl => have H := main _ (rcnt_mid hk2) hb1
  case' inr.inr => have H := main _ (rcnt_hi (by omega)) hb2
  all_goals
    clear main ha hq
    rcases H.out with (h | ⟨h1, h⟩ | ⟨⟨h1, h2⟩, h⟩) | ⟨⟨h1, h2, h3⟩, hbed⟩
  all_goals clear H
  all_goals first
    | (rcases hk2 with (rfl | rfl | rfl | rfl))
    | (rcases hk2 with (rfl | rfl))
  all_goals try rw [hbed] at HAS
  all_goals
    go_enter Try.func19, Try.ntmps19
    go_wp2_with fail
    (try (go_at_call 24; refine HAS.out.mono ?_; rintro e w1 ⟨rfl, rfl⟩; go_wp2_with fail))
    go_ret3
    exact ⟨rfl, rfl⟩
end Go.Proofs.Ytneegocbknkhjaa.Rm
