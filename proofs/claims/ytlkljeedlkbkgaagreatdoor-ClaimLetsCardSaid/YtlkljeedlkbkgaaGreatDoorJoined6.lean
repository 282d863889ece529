/-
  PACKAGE marchlandref03: Minus, Fix, Merge.
  PACKAGE marchlandref03: Fix, Merge.
  PACKAGE marchlandref03: Merge.
  PACKAGE batch, PLAIN MATHEMATICS OF THE LAWS: what Fix gives may be; merged in any order and either way of three it is the same; with its opposite it is nothing; the same just if each count is.
-/
import Derived.Test.YtlkljeedlkbkgaaGreatDoorBatchRefRest
namespace Go.Proofs.YtlkljeedlkbkgaaGreatDoor.Batch
open Go.RowKit
set_option linter.unusedVariables false

end Go.Proofs.YtlkljeedlkbkgaaGreatDoor.Batch
namespace Go.Proofs.YtlkljeedlkbkgaaGreatDoor.Batch
open Go.RowKit
set_option linter.unusedVariables false

def fixC (x : Ch) : Ch := ⟨IntKind.i64.wrap ((IntKind.u64.wrap x.p).tmod 64), x.t.tmod 18446744073709551615, x.d.tmod 1000⟩
def fixL (l : List Ch) : List Ch := sumsR ((l.take 12).map fixC)
theorem u64_wrap_range (n : Int) : 0 ≤ IntKind.u64.wrap n ∧ IntKind.u64.wrap n ≤ 18446744073709551615 := by
  unfold IntKind.wrap
  simp [IntKind.bits, IntKind.signed]
  omega
theorem fixC_mk (p t d : Int) : fixC ⟨p, t, d⟩ = ⟨IntKind.i64.wrap ((IntKind.u64.wrap p).tmod 64), t.tmod 18446744073709551615, d.tmod 1000⟩ := rfl
theorem tmod_pos {a b : Int} (ha : 0 ≤ a) (hb : 0 < b) : 0 ≤ a.tmod b ∧ a.tmod b < b := ⟨Int.tmod_nonneg _ ha, Int.tmod_lt_of_pos _ hb⟩
theorem fixC_p (x : Ch) : 0 ≤ (fixC x).p ∧ (fixC x).p < 64 := by
  unfold fixC
  simp only
  have h := tmod_pos (u64_wrap_range x.p).1 (show (0 : Int) < 64 by decide)
  rw [wr_i64, wr_id (by omega) (by omega)]
  exact h
theorem fixC_d (x : Ch) : -999 ≤ (fixC x).d ∧ (fixC x).d ≤ 999 := by
  unfold fixC
  simp only
  have h1 := Int.tmod_lt_of_pos x.d (show (0 : Int) < 1000 by decide)
  have h2 := Int.tmod_lt_of_pos (-x.d) (show (0 : Int) < 1000 by decide)
  rw [Int.neg_tmod] at h2
  omega
theorem fixC_t {x : Ch} (h : x.Wf) : 0 ≤ (fixC x).t ∧ (fixC x).t < 18446744073709551615 := tmod_pos h.t0 (by decide)
theorem fixC_wf {x : Ch} (h : x.Wf) : (fixC x).Wf := by
  have h1 := fixC_p x
  have h2 := fixC_d x
  have h3 := fixC_t h
  exact ⟨by omega, by omega, by omega, by omega, by omega, by omega⟩

set_option maxRecDepth 1000000 in
set_option maxHeartbeats 4000000 in
theorem fix_any {w : World} {v : Value} {l : List Ch} (hv : Rd w v l) :
    Calls Tryz.prog 60 #[v] w fun e w' => ∃ v', e = .returned v' ∧ Own w' w.heap.size 67 v' (fixL l) ∧ Below w.heap.size w w' := by
  have hwf := hv.wf
  obtain ⟨ao, cap, rfl, hlc, hcm, _, hcell⟩ := hv
  obtain ⟨i0, hi, hz0, hz1, hz2⟩ := info_parts infoRf2
  have HC := Lib.hid hcell
  have HWF := Lib.hid hwf
  have hlen : l.length ≤ 9223372036854775807 := by omega
  clear hwf hcell hlc hcm
  go_enter Tryz.func60, Tryz.ntmps60
  go_wp2
  go_loopg [3, 4] 13 (fun k o t wr => ∃ i : Nat, i + k = 13 ∧ i ≤ 12 ∧ i ≤ l.length ∧ t = .int .i64 i ∧ wr.ownsRow w.heap.size 67 3 o i (cellsL ((l.take i).map fixC)) ∧ Below w.heap.size w wr)
  case atStart => exact ⟨0, by omega, by omega, by omega, rfl, World.ownsRow_nil _ _ _ _, Below.refl _ _⟩
  case round =>
    obtain ⟨i, hik, hi12, hil, rfl, hown, hbw⟩ := hrel
    have HIK := Lib.hid hik
    clear hik
    by_cases hend : i < l.length ∧ i < 12
    · obtain ⟨hlt1, hlt2⟩ := hend
      obtain ⟨x, hx, hxm⟩ := at_of hlt1
      have hne : l ≠ [] := by intro e; rw [e] at hlt1; simp at hlt1
      obtain ⟨b, off, hao, hcc⟩ := HC.out.resolve_left hne
      have q := hcc i x hx
      have hbl := q.lt
      obtain ⟨c0, c1, c2⟩ := q.below hbw hbl
      have hxw := HWF.out x hxm
      obtain ⟨p, t, d⟩ := x
      simp only at c0 c1 c2
      have HX := Lib.hid hx
      have HI := Lib.hid hlt1
      have HI2 := Lib.hid hlt2
      subst hao
      have HBL := Lib.hid (show b < w.heap.size from hbl)
      clear hx hxm hne hcc q hbl HC hxw
      have hbase : w.heap.size ≤ wr.heap.size := hbw.size
      have hi0' : (0 : Int) ≤ (i : Int) := Int.natCast_nonneg _
      have hi1 : (i : Int) < (l.length : Int) := by omega
      have hi3 : (i : Int) < 12 := by omega
      have ag : u3.ownBlock ≠ some b := fun e => by have := (hown.lt b e).1; have := HBL.out; omega
      have hbl2 : b < wr.heap.size := by have := HBL.out; omega
      go_wp2_with fail
      go_region_held3 (fun w' => w'.cell? ⟨b, off + i * 3, none⟩ = some (.int .i64 p) ∧ w'.cell? ⟨b, off + i * 3 + 1, none⟩ = some (.int .u64 t) ∧ w'.cell? ⟨b, off + i * 3 + 2, none⟩ = some (.int .i64 d))
        (first
          | go_keep
          | (go_split_ands
             refine ⟨?_, ?_, ?_⟩
             · (rw [hgrow.cell_far _ (by simp; omega) (Ne.symm ag)]; assumption)
             · (rw [hgrow.cell_far _ (by simp; omega) (Ne.symm ag)]; assumption)
             · (rw [hgrow.cell_far _ (by simp; omega) (Ne.symm ag)]; assumption)))
        ((refine step_append_lies _ (by rfl) _ _ _ (by rfl) w.heap.size 67 i0 _ 3 24 Tryz.underlying27 hi hz0 hz1 hz2 rfl (by omega) u3 i (cellsL ((l.take i).map fixC)) (by rfl) ((hown.alloc _).drew)
            ⟨wr.heap.size, 0, none⟩ 1 1 [.int .i64 (IntKind.i64.wrap ((IntKind.u64.wrap p).tmod 64)), .int .u64 (t.tmod 18446744073709551615), .int .i64 (d.tmod 1000)] (by rfl) (by rfl) (World.news_of_block (cs := #[.int .i64 (IntKind.i64.wrap ((IntKind.u64.wrap p).tmod 64)), .int .u64 (t.tmod 18446744073709551615), .int .i64 (d.tmod 1000)]) (t := 67) (fr := (0, 0)) (heap_alloc_new wr _)) (by simp [Value.oneCell'])
            (by omega) (by unfold maxLen; omega) (by omega) (by simp; omega) (wr.heap.size + 1) (by simp) ?_; intro gg cap1 w1 hown1 hgrow hat hlt))
      have hb1 : Below w.heap.size w w1 := ((hbw.alloc hbase _).drew).grown hgrow (by simp; omega) (fun k e => (hown.lt k e).1)
      have HO := Lib.hid hown1
      have HB1 := Lib.hid hb1
      clear hown hown1 hgrow hat hlt hbw hb1 c0 c1 c2 ag
      go_wp2
      go_roundg (gk - 1)
      case measure => have := HIK.out; have := HI2.out; omega
      case rel =>
        refine ⟨i + 1, by have := HIK.out; have := HI2.out; omega, by have := HI2.out; omega, by have := HI.out; omega, by go_num, ?_, HB1.out⟩
        have e1 : l.take (i + 1) = l.take i ++ [⟨p, t, d⟩] := by rw [List.take_add_one, HX.out]; rfl
        rw [e1, List.map_append, List.map_singleton, cellsL_snoc, fixC_mk]
        exact HO.out
    · have hin : l.take i = l.take 12 := by
        by_cases h : i < l.length
        · obtain rfl : i = 12 := by omega
          rfl
        · rw [take_all (by omega), take_all (by omega)]
      have hown2 : Own wr w.heap.size 67 u3 ((l.take 12).map fixC) := by
        unfold Own
        rw [← hin, List.length_map, List.length_take, show min i l.length = i by omega]
        exact hown
      have hwf2 : ∀ x ∈ (l.take 12).map fixC, x.Wf := by
        intro x hx
        obtain ⟨y, hy, rfl⟩ := List.mem_map.1 hx
        exact fixC_wf (HWF.out y (List.mem_of_mem_take hy))
      have hL : ((l.take 12).map fixC).length ≤ 12 := by rw [List.length_map, List.length_take]; omega
      have HFL := Lib.hid (show fixL l = sumsR ((l.take 12).map fixC) from rfl)
      generalize (l.take 12).map fixC = L at hown2 hwf2 hL HFL
      have HS := Lib.hid (refsums_any (hown2.rd hwf2) (by omega))
      have HB := Lib.hid hbw
      have hbs : w.heap.size ≤ wr.heap.size := hbw.size
      obtain ⟨ao3, cap3, rfl, _⟩ := hown2.form'
      by_cases hlt : i < l.length
      case' pos =>
        have hj0 : (i : Int) < (l.length : Int) := by omega
        have hj1 : ¬ ((i : Int) < 12) := by omega
      case' neg => have hj0 : ¬ ((i : Int) < (l.length : Int)) := by omega
      all_goals
        clear hown2 hwf2 hown hin hend hbw hlt
        go_wp2_with fail
        go_at_call 106
        refine HS.out.mono ?_
        rintro e w1 ⟨v1, rfl, hown1, hb1⟩
        have HO := Lib.hid (hown1.mono hbs)
        have HB1 := Lib.hid (HB.out.trans (hb1.mono hbs))
        clear hown1 hb1
        go_wp2_with fail
        go_ret
        exact ⟨_, rfl, by rw [HFL.out]; exact HO.out, HB1.out⟩
end Go.Proofs.YtlkljeedlkbkgaaGreatDoor.Batch
namespace Go.Proofs.YtlkljeedlkbkgaaGreatDoor.Batch
open Go.RowKit
set_option linter.unusedVariables false

theorem own0 (w : World) (T : TypeId) : (w.alloc (.cells #[] T)).ownsRow w.heap.size T 3 (.slice (some ⟨w.heap.size, 0, none⟩) 0 0) 0 [] :=
  ⟨rfl, .inr ⟨w.heap.size, 0, #[], rfl, Nat.le_refl _, heap_alloc_new w _, Nat.le_refl _, by simp, rfl, rfl⟩⟩
theorem Rd.srcR {w : World} {ao : Option Addr} {n cap : Nat} {l : List Ch} (h : Rd w (.slice ao n cap) l) : n = l.length ∧ Src w ao l.length (cellsL l) := by
  obtain ⟨ao', cap', hv, h1, h2, h3, h4⟩ := h
  simp at hv
  obtain ⟨rfl, rfl, rfl⟩ := hv
  refine ⟨rfl, ?_⟩
  rcases h4 with rfl | h4
  · cases ao with
    | none => exact .inl ⟨rfl, rfl, rfl⟩
    | some a => exact .inr ⟨a, rfl, fun j u hu => by simp [cellsL] at hu⟩
  · exact (Sl.src (l := l) (n := l.length) (cap := cap) ⟨_, _, rfl, .inr h4, h1, h2, h3⟩).2
set_option maxRecDepth 1000000 in
set_option maxHeartbeats 4000000 in
theorem refmerge_anyR {w : World} {va vb : Value} {A B : List Ch} (ha : Sl w va A) (hb : Rd w vb B) (hl : A.length + B.length ≤ 100000) :
    Calls Tryz.prog 84 #[va, vb] w fun e w' => ∃ v' : Value, (e = .returned (.tuple #[v', .int .i64 (sumsE (A ++ B))])) ∧ Own w' w.heap.size 67 v' (sumsR (A ++ B)) ∧ Below w.heap.size w w' := by
  obtain ⟨i0, hi, hz0, hz1, hz2⟩ := info_parts infoRf2
  have HA := Lib.hid ha
  have HB := Lib.hid hb
  have HL := Lib.hid hl
  have HW := Lib.hid (both_wf ha.wf hb.wf)
  obtain ⟨aa, ca, rfl, _⟩ := ha
  obtain ⟨ab, cb, rfl, _⟩ := hb
  clear hl
  go_enter Tryz.func84, Tryz.ntmps84
  have h0 := own0 w 67
  have hB0 : Below w.heap.size w (w.alloc (.cells #[] 67)) := (Below.refl _ _).alloc (Nat.le_refl _) _
  have HAr := Lib.hid (HA.out.below hB0).src.2
  have HB0 := Lib.hid hB0
  have hs0 : w.heap.size ≤ (w.alloc (.cells #[] 67)).heap.size := hB0.size
  clear hB0
  go_wp2_with (first
    | (at_builtin
       refine wpList_append_any _ rfl (.tmp 9) (.tmp 10) _ _ rfl w.heap.size 67 67 i0 (.agg #[.int .i64 0, .int .u64 0, .int .i64 0]) 3 24 Tryz.underlying27 Tryz.underlying27 hi hz0 hz1 hz2 rfl (by decide) _ 0 [] rfl h0 aa A.length ca (cellsL A) rfl (cellsL_length _) HAr.out (cellsL_one _) (by have := HL.out; unfold maxLen; omega) (by have := HL.out; omega) hs0 ?_
       intro v1 w1 hown1 hg1 hat1
       have hbw1 : Below w.heap.size w w1 := HB0.out.grown hg1 hs0 (fun k e => (h0.lt k e).1)
       have HB1 := Lib.hid hbw1
       have HO1 := Lib.hid hown1
       have hbs1 : w.heap.size ≤ w1.heap.size := hbw1.size
       have HBr := Lib.hid (HB.out.below HB1.out).srcR.2
       clear hg1 hat1 hbw1 h0 hown1 hs0)
    | (at_builtin
       refine wpList_append_any _ rfl (.tmp 11) (.tmp 12) _ _ rfl w.heap.size 67 67 i0 (.agg #[.int .i64 0, .int .u64 0, .int .i64 0]) 3 24 Tryz.underlying27 Tryz.underlying27 hi hz0 hz1 hz2 rfl (by decide) _ (0 + A.length) ([] ++ cellsL A) rfl HO1.out ab B.length cb (cellsL B) rfl (cellsL_length _) HBr.out (cellsL_one _) (by have := HL.out; unfold maxLen; omega) (by have := HL.out; omega) hbs1 ?_
       intro v2 w2 hown2 hg2 hat2
       have hbw2 : Below w.heap.size w w2 := HB1.out.grown hg2 hbs1 (fun k e => (HO1.out.lt k e).1)
       have HB2 := Lib.hid hbw2
       have hO2 : Own w2 w.heap.size 67 v2 (A ++ B) := by
         unfold Own
         rw [List.length_append, cellsL_append]
         rw [Nat.zero_add, List.nil_append] at hown2
         exact hown2
       have hform := hO2.form'
       have hlen : (A ++ B).length ≤ 100000 := by rw [List.length_append]; exact HL.out
       have HP := Lib.hid (fun ho : overK (A ++ B) = false => sums_ok ho)
       have HPO := Lib.hid (fun ho : overK (A ++ B) = true => sums_over ho)
       generalize hLe : A ++ B = L at hO2 hform hlen HP HPO HW
       have HLe := Lib.hid hLe
       clear hLe
       have HO2 := Lib.hid hO2
       obtain ⟨ao2, cap2, rfl, _⟩ := hform
       have HS := Lib.hid (refsums_any (hO2.rd HW.out) hlen)
       clear hg2 hat2 hbw2 hown2 hO2 hlen))
  go_at_call 106
  refine HS.out.mono ?_
  rintro e w3 ⟨v3, rfl, hown3, hb3⟩
  have HO3 := Lib.hid (hown3.mono HB2.out.size)
  have HB3 := Lib.hid (HB2.out.trans (hb3.mono HB2.out.size))
  clear hown3 hb3
  cases ho : overK L
  · go_wp2_with fail
    go_ret2
    exact ⟨_, ret_two (by rw [HLe.out]; exact (HP.out ho).1.symm), by rw [HLe.out]; exact HO3.out, HB3.out⟩
  · go_wp2_with fail
    go_ret2
    refine ⟨_, ret_two (by rw [HLe.out]; exact (HPO.out ho).1.symm), ?_, HB3.out⟩
    rw [HLe.out, (HPO.out ho).2]
    exact Own.nil _ _ _
theorem refmerge_any {w : World} {va vb : Value} {A B : List Ch} (ha : Sl w va A) (hb : Sl w vb B) (hl : A.length + B.length ≤ 100000) :
    Calls Tryz.prog 84 #[va, vb] w fun e w' => ∃ v' : Value, (e = .returned (.tuple #[v', .int .i64 (sumsE (A ++ B))])) ∧ Own w' w.heap.size 67 v' (sumsR (A ++ B)) ∧ Below w.heap.size w w' := refmerge_anyR ha hb.rd hl
end Go.Proofs.YtlkljeedlkbkgaaGreatDoor.Batch
namespace Go.Proofs.YtlkljeedlkbkgaaGreatDoor.Batch
open Go.RowKit
set_option linter.unusedVariables false

theorem firstWrong_zero {l : List Ch} (h : firstWrong l = 0) : ∀ x ∈ l, wrongN x = 0 := by
  induction l with
  | nil => simp
  | cons y r ih =>
    unfold firstWrong at h
    split at h
    · rename_i hn; exact absurd h hn
    · rename_i hn
      intro x hx
      rcases List.mem_cons.1 hx with rfl | hx
      · exact Decidable.not_not.1 hn
      · exact ih h x hx
def Fit (x : Ch) : Prop := 0 ≤ x.p ∧ x.p < 64 ∧ x.t ≠ 18446744073709551615
theorem fit_of_wrong {x : Ch} (h : wrongN x = 0) : Fit x := by
  unfold wrongN at h
  split at h
  · exact absurd h (by decide)
  · split at h
    · exact absurd h (by decide)
    · exact ⟨by omega, by omega, by assumption⟩
theorem wrong_of_fit {x : Ch} (h : Fit x) (ho : overB x.d = false) : wrongN x = 0 := by
  unfold wrongN
  rw [if_neg (by have := h.1; have := h.2.1; omega), if_neg h.2.2, if_neg (by rw [ho]; decide)]
theorem right_sum {l : List Ch} (hw : ∀ x ∈ l, x.Wf) (hf : ∀ x ∈ l, Fit x) (ho : overK l = false) : RightP (sumL l) := by
  have hs := sumL_is hw
  refine ⟨fun z hz => ⟨?_, ((hs.2 z).1 hz).1⟩, hs.1⟩
  obtain ⟨x, hx, hk⟩ := sumL_key hw z hz
  have hfx := hf x hx
  refine wrong_of_fit ⟨by rw [← hk.1]; exact hfx.1, by rw [← hk.1]; exact hfx.2.1, by rw [← hk.2]; exact hfx.2.2⟩ ?_
  cases e : overB z.d
  · rfl
  · have h1 : overK l = true := (overK_iff hw).2 ⟨z.p, z.t, by rw [← ((hs.2 z).1 hz).2]; exact e⟩
    rw [h1] at ho
    exact absurd ho (by decide)
theorem right_nil : RightP [] := ⟨by simp, by simp⟩
theorem right_sums {l : List Ch} (hw : ∀ x ∈ l, x.Wf) (hf : ∀ x ∈ l, Fit x) : RightP (sumsR l) := by
  unfold sumsR
  split
  · exact right_nil
  · rename_i h
    exact right_sum hw hf (by cases e : overK l <;> simp_all)
theorem pack_right {l : List Ch} (hw : ∀ x ∈ l, x.Wf) (h : packE l = 0) : RightP (packR l) := by
  unfold packE at h
  unfold packR
  split at h
  · exact absurd h (by decide)
  · split at h
    · rename_i h1; exact absurd h h1
    · rename_i h0 h1
      rw [if_neg (by intro hh; exact hh.elim h0 h1)]
      exact right_sums hw fun x hx => fit_of_wrong (firstWrong_zero (Decidable.not_not.1 h1) x hx)
theorem RightP.fit {l : List Ch} (h : RightP l) : ∀ x ∈ l, Fit x := fun x hx => fit_of_wrong (h.1 x hx).1
theorem RightP.sorted {l : List Ch} (h : RightP l) : Sorted l := h.2.imp fun h => h.asymm

/-- What Fix gives. -/
structure Nice (A : List Ch) : Prop where
  right : RightP A
  wf : ∀ x ∈ A, x.Wf
  lo : ∀ p t, -12000 ≤ tot A p t
  hi : ∀ p t, tot A p t ≤ 12000
  len : A.length ≤ 12
theorem fix_nice {l : List Ch} (h : ∀ x ∈ l, x.Wf) : Nice (fixL l) := by
  have hw : ∀ x ∈ (l.take 12).map fixC, x.Wf := by
    intro x hx
    obtain ⟨y, hy, rfl⟩ := List.mem_map.1 hx
    exact fixC_wf (h y (List.mem_of_mem_take hy))
  have hf : ∀ x ∈ (l.take 12).map fixC, Fit x := by
    intro x hx
    obtain ⟨y, hy, rfl⟩ := List.mem_map.1 hx
    have h1 := fixC_p y
    have h2 := fixC_t (h y (List.mem_of_mem_take hy))
    exact ⟨h1.1, h1.2, by omega⟩
  have hl : ((l.take 12).map fixC).length ≤ 12 := by rw [List.length_map, List.length_take]; omega
  have hd : ∀ x ∈ (l.take 12).map fixC, -999 ≤ x.d ∧ x.d ≤ 999 := by
    intro x hx
    obtain ⟨y, hy, rfl⟩ := List.mem_map.1 hx
    exact fixC_d y
  unfold fixL
  generalize (l.take 12).map fixC = L at *
  have hb : ∀ p t, -12000 ≤ tot L p t ∧ tot L p t ≤ 12000 := fun p t => by
    have := tot_bound (B := 999) hd (by decide) p t
    omega
  have ho : overK L = false := by
    cases e : overK L
    · rfl
    · obtain ⟨p, t, ho⟩ := (overK_iff hw).1 e
      have := hb p t
      rw [wr_id (by omega) (by omega)] at ho
      have := of_decide_eq_true ho
      omega
  rw [(sums_ok ho).2]
  refine ⟨right_sum hw hf ho, sumL_wf hw, fun p t => ?_, fun p t => ?_, Nat.le_trans (sumL_length L) hl⟩
  · have := hb p t
    rw [(sumL_is hw).tot, wr_id (by omega) (by omega)]
    omega
  · have := hb p t
    rw [(sumL_is hw).tot, wr_id (by omega) (by omega)]
    omega
theorem Nice.d {A : List Ch} (h : Nice A) : ∀ x ∈ A, -12000 ≤ x.d ∧ x.d ≤ 12000 := fun x hx => by
  have h1 := h.lo x.p x.t
  have h2 := h.hi x.p x.t
  rw [tot_one h.right.2 hx] at h1 h2
  exact ⟨h1, h2⟩
theorem no_over {l : List Ch} (hw : ∀ x ∈ l, x.Wf) (h : ∀ p t, -100000 ≤ tot l p t ∧ tot l p t ≤ 100000) : overK l = false := by
  cases e : overK l
  · rfl
  · obtain ⟨p, t, ho⟩ := (overK_iff hw).1 e
    have := h p t
    rw [wr_id (by omega) (by omega)] at ho
    have := of_decide_eq_true ho
    omega
theorem sum_tot {l : List Ch} (hw : ∀ x ∈ l, x.Wf) (h : ∀ p t, -100000 ≤ tot l p t ∧ tot l p t ≤ 100000) : sumsE l = 0 ∧ sumsR l = sumL l ∧ ∀ p t, tot (sumL l) p t = tot l p t := by
  have ho := sums_ok (no_over hw h)
  refine ⟨ho.1, ho.2, fun p t => ?_⟩
  have := h p t
  rw [(sumL_is hw).tot, wr_id (by omega) (by omega)]
theorem Nice.two {A B : List Ch} (ha : Nice A) (hb : Nice B) : sumsE (A ++ B) = 0 ∧ sumsR (A ++ B) = sumL (A ++ B) ∧ ∀ p t, tot (sumL (A ++ B)) p t = tot A p t + tot B p t := by
  have h := sum_tot (both_wf ha.wf hb.wf) fun p t => by
    have := ha.lo p t; have := ha.hi p t; have := hb.lo p t; have := hb.hi p t
    rw [tot_append]
    omega
  exact ⟨h.1, h.2.1, fun p t => by rw [h.2.2, tot_append]⟩
theorem Nice.comm {A B : List Ch} (ha : Nice A) (hb : Nice B) : sumsE (B ++ A) = sumsE (A ++ B) ∧ sumsR (B ++ A) = sumsR (A ++ B) :=
  sums_perm List.perm_append_comm (both_wf ha.wf hb.wf)
theorem Nice.right2 {A B : List Ch} (ha : Nice A) (hb : Nice B) : RightP (sumsR (A ++ B)) :=
  right_sums (both_wf ha.wf hb.wf) fun x hx => (List.mem_append.1 hx).elim (ha.right.fit x) (hb.right.fit x)
theorem Nice.assoc {A B C : List Ch} (ha : Nice A) (hb : Nice B) (hc : Nice C) : sumsR (sumsR (A ++ B) ++ C) = sumsR (A ++ sumsR (B ++ C)) := by
  have h1 := ha.two hb
  have h2 := hb.two hc
  rw [h1.2.1, h2.2.1]
  refine (sums_same (both_wf (sumL_wf (both_wf ha.wf hb.wf)) hc.wf) (both_wf ha.wf (sumL_wf (both_wf hb.wf hc.wf))) fun p t => ?_).2
  rw [tot_append, tot_append, h1.2.2, h2.2.2, Int.add_assoc]
theorem tot_minus {A : List Ch} (h : ∀ x ∈ A, -12000 ≤ x.d ∧ x.d ≤ 12000) (p t : Int) : tot (minusL A) p t = -tot A p t := by
  induction A with
  | nil => rfl
  | cons x r ih =>
    have hx := h x (by simp)
    have := ih fun y hy => h y (by simp [hy])
    have e : minusL (x :: r) = negC x :: minusL r := rfl
    rw [e]
    simp only [tot]
    rw [this]
    have e2 : (negC x).d = -x.d := wr_id (by omega) (by omega)
    have e3 : (negC x).p = x.p := rfl
    have e4 : (negC x).t = x.t := rfl
    rw [e2, e3, e4]
    split <;> omega
theorem Nice.back {A : List Ch} (h : Nice A) : sumsE (A ++ minusL A) = 0 ∧ sumsR (A ++ minusL A) = [] := by
  have hw := both_wf h.wf (minusL_wf h.wf)
  have ht : ∀ p t, tot (A ++ minusL A) p t = 0 := fun p t => by rw [tot_append, tot_minus h.d]; omega
  have hs := sum_tot hw fun p t => by rw [ht]; omega
  refine ⟨hs.1, ?_⟩
  rw [hs.2.1]
  rw [List.eq_nil_iff_forall_not_mem]
  intro z hz
  have := ((sumL_is hw).2 z).1 hz
  rw [ht] at this
  exact this.1 (this.2.trans (by decide))
theorem minus_sorted {A : List Ch} (h : RightP A) : Sorted (minusL A) := by
  unfold Sorted minusL
  rw [List.pairwise_map]
  exact h.2.imp fun h => h.asymm
theorem minus_length (A : List Ch) : (minusL A).length = A.length := by unfold minusL; rw [List.length_map]

/-! the same just if each count is -/
theorem sub_of {A B : List Ch} (ha : RightP A) (hb : RightP B) (h : ∀ x ∈ A, tot B x.p x.t = x.d) : ∀ z ∈ A, z ∈ B := by
  intro z hz
  by_cases hk : ∃ y ∈ B, y.p = z.p ∧ y.t = z.t
  · obtain ⟨y, hy, hp, ht⟩ := hk
    have h1 := tot_one hb.2 hy
    rw [hp, ht, h z hz] at h1
    obtain ⟨a, b, c⟩ := y
    obtain ⟨a', b', c'⟩ := z
    simp only at hp ht h1
    subst hp ht h1
    exact hy
  · have := h z hz
    rw [tot_none (fun y hy hyk => hk ⟨y, hy, hyk⟩)] at this
    exact absurd this.symm (ha.1 z hz).2
theorem once {A B : List Ch} (ha : RightP A) (hb : RightP B) : A = B ↔ (∀ x ∈ A, tot B x.p x.t = x.d) ∧ (∀ x ∈ B, tot A x.p x.t = x.d) := by
  constructor
  · rintro rfl
    exact ⟨fun x hx => tot_one ha.2 hx, fun x hx => tot_one ha.2 hx⟩
  · rintro ⟨h1, h2⟩
    exact rising_ext ha.2 hb.2 fun z => ⟨sub_of ha hb h1 z, sub_of hb ha h2 z⟩
end Go.Proofs.YtlkljeedlkbkgaaGreatDoor.Batch
