/-
  YtlkljeedlkbkgaaGreatDoorBatchRefMinus
  YtlkljeedlkbkgaaGreatDoorBatchRefFix
  YtlkljeedlkbkgaaGreatDoorBatchRefMerge
  YtlkljeedlkbkgaaGreatDoorBatchLawMath
  YtlkljeedlkbkgaaGreatDoorBagMath
  YtlkljeedlkbkgaaGreatDoorFrMath
-/
import Derived.Test.YtlkljeedlkbkgaaGreatDoorJoined7
import Derived.Test.YtlkljeedlkbkgaaGreatDoorJoined1
namespace Go.Proofs.YtlkljeedlkbkgaaGreatDoor.Batch
open Go.RowKit
set_option linter.unusedVariables false
end Go.Proofs.YtlkljeedlkbkgaaGreatDoor.Batch
namespace Go.Proofs.YtlkljeedlkbkgaaGreatDoor.Batch
open Go.RowKit
set_option linter.unusedVariables false
def fixC (x : Ch) : Ch := ⟨IntKind.i64.wrap ((IntKind.u64.wrap x.p).tmod 64), x.t.tmod 18446744073709551615, x.d.tmod 1000⟩
def fixL (l : List Ch) : List Ch := sumsR ((l.take 12).map fixC)
theorem u64_wrap_range (n : Int) : 0 ≤ IntKind.u64.wrap n ∧ IntKind.u64.wrap n ≤ 18446744073709551615 := by
  unfold IntKind.wrap
  simp [IntKind.bits, IntKind.signed]
  omega
theorem fixC_mk (p t d : Int) : fixC ⟨p, t, d⟩ = ⟨IntKind.i64.wrap ((IntKind.u64.wrap p).tmod 64), t.tmod 18446744073709551615, d.tmod 1000⟩ := rfl
theorem tmod_pos {a b : Int} (ha : 0 ≤ a) (hb : 0 < b) : 0 ≤ a.tmod b ∧ a.tmod b < b := ⟨Int.tmod_nonneg _ ha, Int.tmod_lt_of_pos _ hb⟩
theorem fixC_p (x : Ch) : 0 ≤ (fixC x).p ∧ (fixC x).p < 64 := by
  unfold fixC
  simp only
  have h := tmod_pos (u64_wrap_range x.p).1 (show (0 : Int) < 64 by decide)
  rw [wr_i64, wr_id (by omega) (by omega)]
  exact h
theorem fixC_d (x : Ch) : -999 ≤ (fixC x).d ∧ (fixC x).d ≤ 999 := by
  unfold fixC
  simp only
  have h1 := Int.tmod_lt_of_pos x.d (show (0 : Int) < 1000 by decide)
  have h2 := Int.tmod_lt_of_pos (-x.d) (show (0 : Int) < 1000 by decide)
  rw [Int.neg_tmod] at h2
  omega
theorem fixC_t {x : Ch} (h : x.Wf) : 0 ≤ (fixC x).t ∧ (fixC x).t < 18446744073709551615 := tmod_pos h.t0 (by decide)
theorem fixC_wf {x : Ch} (h : x.Wf) : (fixC x).Wf := by
  have h1 := fixC_p x
  have h2 := fixC_d x
  have h3 := fixC_t h
  exact ⟨by omega, by omega, by omega, by omega, by omega, by omega⟩
set_option maxRecDepth 1000000 in
set_option maxHeartbeats 4000000 in
theorem fix_any {w : World} {v : Value} {l : List Ch} (hv : Rd w v l) :
    Calls Tryz.prog 60 #[v] w fun e w' => ∃ v', e = .returned v' ∧ Own w' w.heap.size 67 v' (fixL l) ∧ Below w.heap.size w w' := by
  have hwf := hv.wf
  obtain ⟨ao, cap, rfl, hlc, hcm, _, hcell⟩ := hv
  obtain ⟨i0, hi, hz0, hz1, hz2⟩ := info_parts infoRf2
  have HC := Lib.hid hcell
  have HWF := Lib.hid hwf
  have hlen : l.length ≤ 9223372036854775807 := by omega
  clear hwf hcell hlc hcm
  go_enter Tryz.func60, Tryz.ntmps60
  go_wp2
  go_loopg [3, 4] 13 (fun k o t wr => ∃ i : Nat, i + k = 13 ∧ i ≤ 12 ∧ i ≤ l.length ∧ t = .int .i64 i ∧ wr.ownsRow w.heap.size 67 3 o i (cellsL ((l.take i).map fixC)) ∧ Below w.heap.size w wr)
  case atStart => exact ⟨0, by omega, by omega, by omega, rfl, World.ownsRow_nil _ _ _ _, Below.refl _ _⟩
  case round =>
    obtain ⟨i, hik, hi12, hil, rfl, hown, hbw⟩ := hrel
    have HIK := Lib.hid hik
    clear hik
    by_cases hend : i < l.length ∧ i < 12
    · obtain ⟨hlt1, hlt2⟩ := hend
      obtain ⟨x, hx, hxm⟩ := at_of hlt1
      have hne : l ≠ [] := by intro e; rw [e] at hlt1; simp at hlt1
      obtain ⟨b, off, hao, hcc⟩ := HC.out.resolve_left hne
      have q := hcc i x hx
      have hbl := q.lt
      obtain ⟨c0, c1, c2⟩ := q.below hbw hbl
      have hxw := HWF.out x hxm
      obtain ⟨p, t, d⟩ := x
      simp only at c0 c1 c2
      have HX := Lib.hid hx
      have HI := Lib.hid hlt1
      have HI2 := Lib.hid hlt2
      subst hao
      have HBL := Lib.hid (show b < w.heap.size from hbl)
      clear hx hxm hne hcc q hbl HC hxw
      have hbase : w.heap.size ≤ wr.heap.size := hbw.size
      have hi0' : (0 : Int) ≤ (i : Int) := Int.natCast_nonneg _
      have hi1 : (i : Int) < (l.length : Int) := by omega
      have hi3 : (i : Int) < 12 := by omega
      have ag : u3.ownBlock ≠ some b := fun e => by have := (hown.lt b e).1; have := HBL.out; omega
      have hbl2 : b < wr.heap.size := by have := HBL.out; omega
      go_wp2_with fail
      go_region_held3 (fun w' => w'.cell? ⟨b, off + i * 3, none⟩ = some (.int .i64 p) ∧ w'.cell? ⟨b, off + i * 3 + 1, none⟩ = some (.int .u64 t) ∧ w'.cell? ⟨b, off + i * 3 + 2, none⟩ = some (.int .i64 d))
        (first
          | go_keep
          | (go_split_ands
             refine ⟨?_, ?_, ?_⟩
             · (rw [hgrow.cell_far _ (by simp; omega) (Ne.symm ag)]; assumption)
             · (rw [hgrow.cell_far _ (by simp; omega) (Ne.symm ag)]; assumption)
             · (rw [hgrow.cell_far _ (by simp; omega) (Ne.symm ag)]; assumption)))
        ((refine step_append_lies _ (by rfl) _ _ _ (by rfl) w.heap.size 67 i0 _ 3 24 Tryz.underlying27 hi hz0 hz1 hz2 rfl (by omega) u3 i (cellsL ((l.take i).map fixC)) (by rfl) ((hown.alloc _).drew)
            ⟨wr.heap.size, 0, none⟩ 1 1 [.int .i64 (IntKind.i64.wrap ((IntKind.u64.wrap p).tmod 64)), .int .u64 (t.tmod 18446744073709551615), .int .i64 (d.tmod 1000)] (by rfl) (by rfl) (World.news_of_block (cs := #[.int .i64 (IntKind.i64.wrap ((IntKind.u64.wrap p).tmod 64)), .int .u64 (t.tmod 18446744073709551615), .int .i64 (d.tmod 1000)]) (t := 67) (fr := (0, 0)) (heap_alloc_new wr _)) (by simp [Value.oneCell'])
            (by omega) (by unfold maxLen; omega) (by omega) (by simp; omega) (wr.heap.size + 1) (by simp) ?_; intro gg cap1 w1 hown1 hgrow hat hlt))
      have hb1 : Below w.heap.size w w1 := ((hbw.alloc hbase _).drew).grown hgrow (by simp; omega) (fun k e => (hown.lt k e).1)
      have HO := Lib.hid hown1
      have HB1 := Lib.hid hb1
      clear hown hown1 hgrow hat hlt hbw hb1 c0 c1 c2 ag
      go_wp2
      go_roundg (gk - 1)
      case measure => have := HIK.out; have := HI2.out; omega
      case rel =>
        refine ⟨i + 1, by have := HIK.out; have := HI2.out; omega, by have := HI2.out; omega, by have := HI.out; omega, by go_num, ?_, HB1.out⟩
        have e1 : l.take (i + 1) = l.take i ++ [⟨p, t, d⟩] := by rw [List.take_add_one, HX.out]; rfl
        rw [e1, List.map_append, List.map_singleton, cellsL_snoc, fixC_mk]
        exact HO.out
    · have hin : l.take i = l.take 12 := by
        by_cases h : i < l.length
        · obtain rfl : i = 12 := by omega
          rfl
        · rw [take_all (by omega), take_all (by omega)]
      have hown2 : Own wr w.heap.size 67 u3 ((l.take 12).map fixC) := by
        unfold Own
        rw [← hin, List.length_map, List.length_take, show min i l.length = i by omega]
        exact hown
      have hwf2 : ∀ x ∈ (l.take 12).map fixC, x.Wf := by
        intro x hx
        obtain ⟨y, hy, rfl⟩ := List.mem_map.1 hx
        exact fixC_wf (HWF.out y (List.mem_of_mem_take hy))
      have hL : ((l.take 12).map fixC).length ≤ 12 := by rw [List.length_map, List.length_take]; omega
      have HFL := Lib.hid (show fixL l = sumsR ((l.take 12).map fixC) from rfl)
      generalize (l.take 12).map fixC = L at hown2 hwf2 hL HFL
      have HS := Lib.hid (refsums_any (hown2.rd hwf2) (by omega))
      have HB := Lib.hid hbw
      have hbs : w.heap.size ≤ wr.heap.size := hbw.size
      obtain ⟨ao3, cap3, rfl, _⟩ := hown2.form'
      by_cases hlt : i < l.length
      case' pos =>
        have hj0 : (i : Int) < (l.length : Int) := by omega
        have hj1 : ¬ ((i : Int) < 12) := by omega
      case' neg => have hj0 : ¬ ((i : Int) < (l.length : Int)) := by omega
      all_goals
        clear hown2 hwf2 hown hin hend hbw hlt
        go_wp2_with fail
        go_at_call 106
        refine HS.out.mono ?_
        rintro e w1 ⟨v1, rfl, hown1, hb1⟩
        have HO := Lib.hid (hown1.mono hbs)
        have HB1 := Lib.hid (HB.out.trans (hb1.mono hbs))
        clear hown1 hb1
        go_wp2_with fail
        go_ret
        exact ⟨_, rfl, by rw [HFL.out]; exact HO.out, HB1.out⟩
end Go.Proofs.YtlkljeedlkbkgaaGreatDoor.Batch
namespace Go.Proofs.YtlkljeedlkbkgaaGreatDoor.Batch
open Go.RowKit
set_option linter.unusedVariables false
theorem own0 (w : World) (T : TypeId) : (w.alloc (.cells #[] T)).ownsRow w.heap.size T 3 (.slice (some ⟨w.heap.size, 0, none⟩) 0 0) 0 [] :=
  ⟨rfl, .inr ⟨w.heap.size, 0, #[], rfl, Nat.le_refl _, heap_alloc_new w _, Nat.le_refl _, by simp, rfl, rfl⟩⟩
theorem Rd.srcR {w : World} {ao : Option Addr} {n cap : Nat} {l : List Ch} (h : Rd w (.slice ao n cap) l) : n = l.length ∧ Src w ao l.length (cellsL l) := by
  obtain ⟨ao', cap', hv, h1, h2, h3, h4⟩ := h
  simp at hv
  obtain ⟨rfl, rfl, rfl⟩ := hv
  refine ⟨rfl, ?_⟩
  rcases h4 with rfl | h4
  · cases ao with
    | none => exact .inl ⟨rfl, rfl, rfl⟩
    | some a => exact .inr ⟨a, rfl, fun j u hu => by simp [cellsL] at hu⟩
  · exact (Sl.src (l := l) (n := l.length) (cap := cap) ⟨_, _, rfl, .inr h4, h1, h2, h3⟩).2
set_option maxRecDepth 1000000 in
set_option maxHeartbeats 4000000 in
theorem refmerge_anyR {w : World} {va vb : Value} {A B : List Ch} (ha : Sl w va A) (hb : Rd w vb B) (hl : A.length + B.length ≤ 100000) :
    Calls Tryz.prog 84 #[va, vb] w fun e w' => ∃ v' : Value, (e = .returned (.tuple #[v', .int .i64 (sumsE (A ++ B))])) ∧ Own w' w.heap.size 67 v' (sumsR (A ++ B)) ∧ Below w.heap.size w w' := by
  obtain ⟨i0, hi, hz0, hz1, hz2⟩ := info_parts infoRf2
  have HA := Lib.hid ha
  have HB := Lib.hid hb
  have HL := Lib.hid hl
  have HW := Lib.hid (both_wf ha.wf hb.wf)
  obtain ⟨aa, ca, rfl, _⟩ := ha
  obtain ⟨ab, cb, rfl, _⟩ := hb
  clear hl
  go_enter Tryz.func84, Tryz.ntmps84
  have h0 := own0 w 67
  have hB0 : Below w.heap.size w (w.alloc (.cells #[] 67)) := (Below.refl _ _).alloc (Nat.le_refl _) _
  have HAr := Lib.hid (HA.out.below hB0).src.2
  have HB0 := Lib.hid hB0
  have hs0 : w.heap.size ≤ (w.alloc (.cells #[] 67)).heap.size := hB0.size
  clear hB0
  go_wp2_with (first
    | (at_builtin
       refine wpList_append_any _ rfl (.tmp 9) (.tmp 10) _ _ rfl w.heap.size 67 67 i0 (.agg #[.int .i64 0, .int .u64 0, .int .i64 0]) 3 24 Tryz.underlying27 Tryz.underlying27 hi hz0 hz1 hz2 rfl (by decide) _ 0 [] rfl h0 aa A.length ca (cellsL A) rfl (cellsL_length _) HAr.out (cellsL_one _) (by have := HL.out; unfold maxLen; omega) (by have := HL.out; omega) hs0 ?_
       intro v1 w1 hown1 hg1 hat1
       have hbw1 : Below w.heap.size w w1 := HB0.out.grown hg1 hs0 (fun k e => (h0.lt k e).1)
       have HB1 := Lib.hid hbw1
       have HO1 := Lib.hid hown1
       have hbs1 : w.heap.size ≤ w1.heap.size := hbw1.size
       have HBr := Lib.hid (HB.out.below HB1.out).srcR.2
       clear hg1 hat1 hbw1 h0 hown1 hs0)
    | (at_builtin
       refine wpList_append_any _ rfl (.tmp 11) (.tmp 12) _ _ rfl w.heap.size 67 67 i0 (.agg #[.int .i64 0, .int .u64 0, .int .i64 0]) 3 24 Tryz.underlying27 Tryz.underlying27 hi hz0 hz1 hz2 rfl (by decide) _ (0 + A.length) ([] ++ cellsL A) rfl HO1.out ab B.length cb (cellsL B) rfl (cellsL_length _) HBr.out (cellsL_one _) (by have := HL.out; unfold maxLen; omega) (by have := HL.out; omega) hbs1 ?_
       intro v2 w2 hown2 hg2 hat2
       have hbw2 : Below w.heap.size w w2 := HB1.out.grown hg2 hbs1 (fun k e => (HO1.out.lt k e).1)
       have HB2 := Lib.hid hbw2
       have hO2 : Own w2 w.heap.size 67 v2 (A ++ B) := by
         unfold Own
         rw [List.length_append, cellsL_append]
         rw [Nat.zero_add, List.nil_append] at hown2
         exact hown2
       have hform := hO2.form'
       have hlen : (A ++ B).length ≤ 100000 := by rw [List.length_append]; exact HL.out
       have HP := Lib.hid (fun ho : overK (A ++ B) = false => sums_ok ho)
       have HPO := Lib.hid (fun ho : overK (A ++ B) = true => sums_over ho)
       generalize hLe : A ++ B = L at hO2 hform hlen HP HPO HW
       have HLe := Lib.hid hLe
       clear hLe
       have HO2 := Lib.hid hO2
       obtain ⟨ao2, cap2, rfl, _⟩ := hform
       have HS := Lib.hid (refsums_any (hO2.rd HW.out) hlen)
       clear hg2 hat2 hbw2 hown2 hO2 hlen))
  go_at_call 106
  refine HS.out.mono ?_
  rintro e w3 ⟨v3, rfl, hown3, hb3⟩
  have HO3 := Lib.hid (hown3.mono HB2.out.size)
  have HB3 := Lib.hid (HB2.out.trans (hb3.mono HB2.out.size))
  clear hown3 hb3
  cases ho : overK L
  · go_wp2_with fail
    go_ret2
    exact ⟨_, ret_two (by rw [HLe.out]; exact (HP.out ho).1.symm), by rw [HLe.out]; exact HO3.out, HB3.out⟩
  · go_wp2_with fail
    go_ret2
    refine ⟨_, ret_two (by rw [HLe.out]; exact (HPO.out ho).1.symm), ?_, HB3.out⟩
    rw [HLe.out, (HPO.out ho).2]
    exact Own.nil _ _ _
theorem refmerge_any {w : World} {va vb : Value} {A B : List Ch} (ha : Sl w va A) (hb : Sl w vb B) (hl : A.length + B.length ≤ 100000) :
    Calls Tryz.prog 84 #[va, vb] w fun e w' => ∃ v' : Value, (e = .returned (.tuple #[v', .int .i64 (sumsE (A ++ B))])) ∧ Own w' w.heap.size 67 v' (sumsR (A ++ B)) ∧ Below w.heap.size w w' := refmerge_anyR ha hb.rd hl
end Go.Proofs.YtlkljeedlkbkgaaGreatDoor.Batch
namespace Go.Proofs.YtlkljeedlkbkgaaGreatDoor.Batch
open Go.RowKit
set_option linter.unusedVariables false
theorem firstWrong_zero {l : List Ch} (h : firstWrong l = 0) : ∀ x ∈ l, wrongN x = 0 := by
  induction l with
  | nil => simp
  | cons y r ih =>
    unfold firstWrong at h
    split at h
    · rename_i hn; exact absurd h hn
    · rename_i hn
      intro x hx
      rcases List.mem_cons.1 hx with rfl | hx
      · exact Decidable.not_not.1 hn
      · exact ih h x hx
def Fit (x : Ch) : Prop := 0 ≤ x.p ∧ x.p < 64 ∧ x.t ≠ 18446744073709551615
theorem fit_of_wrong {x : Ch} (h : wrongN x = 0) : Fit x := by
  unfold wrongN at h
  split at h
  · exact absurd h (by decide)
  · split at h
    · exact absurd h (by decide)
    · exact ⟨by omega, by omega, by assumption⟩
theorem wrong_of_fit {x : Ch} (h : Fit x) (ho : overB x.d = false) : wrongN x = 0 := by
  unfold wrongN
  rw [if_neg (by have := h.1; have := h.2.1; omega), if_neg h.2.2, if_neg (by rw [ho]; decide)]
theorem right_sum {l : List Ch} (hw : ∀ x ∈ l, x.Wf) (hf : ∀ x ∈ l, Fit x) (ho : overK l = false) : RightP (sumL l) := by
  have hs := sumL_is hw
  refine ⟨fun z hz => ⟨?_, ((hs.2 z).1 hz).1⟩, hs.1⟩
  obtain ⟨x, hx, hk⟩ := sumL_key hw z hz
  have hfx := hf x hx
  refine wrong_of_fit ⟨by rw [← hk.1]; exact hfx.1, by rw [← hk.1]; exact hfx.2.1, by rw [← hk.2]; exact hfx.2.2⟩ ?_
  cases e : overB z.d
  · rfl
  · have h1 : overK l = true := (overK_iff hw).2 ⟨z.p, z.t, by rw [← ((hs.2 z).1 hz).2]; exact e⟩
    rw [h1] at ho
    exact absurd ho (by decide)
theorem right_nil : RightP [] := ⟨by simp, by simp⟩
theorem right_sums {l : List Ch} (hw : ∀ x ∈ l, x.Wf) (hf : ∀ x ∈ l, Fit x) : RightP (sumsR l) := by
  unfold sumsR
  split
  · exact right_nil
  · rename_i h
    exact right_sum hw hf (by cases e : overK l <;> simp_all)
theorem pack_right {l : List Ch} (hw : ∀ x ∈ l, x.Wf) (h : packE l = 0) : RightP (packR l) := by
  unfold packE at h
  unfold packR
  split at h
  · exact absurd h (by decide)
  · split at h
    · rename_i h1; exact absurd h h1
    · rename_i h0 h1
      rw [if_neg (by intro hh; exact hh.elim h0 h1)]
      exact right_sums hw fun x hx => fit_of_wrong (firstWrong_zero (Decidable.not_not.1 h1) x hx)
theorem RightP.fit {l : List Ch} (h : RightP l) : ∀ x ∈ l, Fit x := fun x hx => fit_of_wrong (h.1 x hx).1
theorem RightP.sorted {l : List Ch} (h : RightP l) : Sorted l := h.2.imp fun h => h.asymm
structure Nice (A : List Ch) : Prop where
  right : RightP A
  wf : ∀ x ∈ A, x.Wf
  lo : ∀ p t, -12000 ≤ tot A p t
  hi : ∀ p t, tot A p t ≤ 12000
  len : A.length ≤ 12
theorem fix_nice {l : List Ch} (h : ∀ x ∈ l, x.Wf) : Nice (fixL l) := by
  have hw : ∀ x ∈ (l.take 12).map fixC, x.Wf := by
    intro x hx
    obtain ⟨y, hy, rfl⟩ := List.mem_map.1 hx
    exact fixC_wf (h y (List.mem_of_mem_take hy))
  have hf : ∀ x ∈ (l.take 12).map fixC, Fit x := by
    intro x hx
    obtain ⟨y, hy, rfl⟩ := List.mem_map.1 hx
    have h1 := fixC_p y
    have h2 := fixC_t (h y (List.mem_of_mem_take hy))
    exact ⟨h1.1, h1.2, by omega⟩
  have hl : ((l.take 12).map fixC).length ≤ 12 := by rw [List.length_map, List.length_take]; omega
  have hd : ∀ x ∈ (l.take 12).map fixC, -999 ≤ x.d ∧ x.d ≤ 999 := by
    intro x hx
    obtain ⟨y, hy, rfl⟩ := List.mem_map.1 hx
    exact fixC_d y
  unfold fixL
  generalize (l.take 12).map fixC = L at *
  have hb : ∀ p t, -12000 ≤ tot L p t ∧ tot L p t ≤ 12000 := fun p t => by
    have := tot_bound (B := 999) hd (by decide) p t
    omega
  have ho : overK L = false := by
    cases e : overK L
    · rfl
    · obtain ⟨p, t, ho⟩ := (overK_iff hw).1 e
      have := hb p t
      rw [wr_id (by omega) (by omega)] at ho
      have := of_decide_eq_true ho
      omega
  rw [(sums_ok ho).2]
  refine ⟨right_sum hw hf ho, sumL_wf hw, fun p t => ?_, fun p t => ?_, Nat.le_trans (sumL_length L) hl⟩
  · have := hb p t
    rw [(sumL_is hw).tot, wr_id (by omega) (by omega)]
    omega
  · have := hb p t
    rw [(sumL_is hw).tot, wr_id (by omega) (by omega)]
    omega
theorem no_over {l : List Ch} (hw : ∀ x ∈ l, x.Wf) (h : ∀ p t, -100000 ≤ tot l p t ∧ tot l p t ≤ 100000) : overK l = false := by
  cases e : overK l
  · rfl
  · obtain ⟨p, t, ho⟩ := (overK_iff hw).1 e
    have := h p t
    rw [wr_id (by omega) (by omega)] at ho
    have := of_decide_eq_true ho
    omega
theorem sum_tot {l : List Ch} (hw : ∀ x ∈ l, x.Wf) (h : ∀ p t, -100000 ≤ tot l p t ∧ tot l p t ≤ 100000) : sumsE l = 0 ∧ sumsR l = sumL l ∧ ∀ p t, tot (sumL l) p t = tot l p t := by
  have ho := sums_ok (no_over hw h)
  refine ⟨ho.1, ho.2, fun p t => ?_⟩
  have := h p t
  rw [(sumL_is hw).tot, wr_id (by omega) (by omega)]
theorem sub_of {A B : List Ch} (ha : RightP A) (hb : RightP B) (h : ∀ x ∈ A, tot B x.p x.t = x.d) : ∀ z ∈ A, z ∈ B := by
  intro z hz
  by_cases hk : ∃ y ∈ B, y.p = z.p ∧ y.t = z.t
  · obtain ⟨y, hy, hp, ht⟩ := hk
    have h1 := tot_one hb.2 hy
    rw [hp, ht, h z hz] at h1
    obtain ⟨a, b, c⟩ := y
    obtain ⟨a', b', c'⟩ := z
    simp only at hp ht h1
    subst hp ht h1
    exact hy
  · have := h z hz
    rw [tot_none (fun y hy hyk => hk ⟨y, hy, hyk⟩)] at this
    exact absurd this.symm (ha.1 z hz).2
theorem once {A B : List Ch} (ha : RightP A) (hb : RightP B) : A = B ↔ (∀ x ∈ A, tot B x.p x.t = x.d) ∧ (∀ x ∈ B, tot A x.p x.t = x.d) := by
  constructor
  · rintro rfl
    exact ⟨fun x hx => tot_one ha.2 hx, fun x hx => tot_one ha.2 hx⟩
  · rintro ⟨h1, h2⟩
    exact rising_ext ha.2 hb.2 fun z => ⟨sub_of ha hb h1 z, sub_of hb ha h2 z⟩
end Go.Proofs.YtlkljeedlkbkgaaGreatDoor.Batch
namespace Go.Proofs.YtlkljeedlkbkgaaGreatDoor.Batch
open Go.RowKit
set_option linter.unusedVariables false
structure BagP (l : List Ch) : Prop where
  right : RightP l
  pos : ∀ x ∈ l, 0 < x.d
theorem wrong_d {x : Ch} (h : wrongN x = 0) : -576460752303423488 ≤ x.d ∧ x.d ≤ 576460752303423488 := by
  unfold wrongN at h
  split at h
  · exact absurd h (by decide)
  · split at h
    · exact absurd h (by decide)
    · split at h
      · exact absurd h (by decide)
      · rename_i ho
        have ho := Bool.eq_false_iff.2 ho
        have := of_decide_eq_false ho
        omega
theorem RightP.d {l : List Ch} (h : RightP l) : ∀ x ∈ l, -576460752303423488 ≤ x.d ∧ x.d ≤ 576460752303423488 := fun x hx => wrong_d (h.1 x hx).1
theorem RightP.totR {l : List Ch} (h : RightP l) (p t : Int) : -576460752303423488 ≤ tot l p t ∧ tot l p t ≤ 576460752303423488 := by
  by_cases hk : ∃ x ∈ l, x.p = p ∧ x.t = t
  · obtain ⟨x, hx, hp, ht⟩ := hk
    have e := tot_one h.2 hx
    rw [hp, ht] at e
    rw [e]
    exact h.d x hx
  · rw [tot_none (fun x hx hkx => hk ⟨x, hx, hkx⟩)]
    omega
theorem tot_key {l : List Ch} (h : l.Pairwise Lt) {x : Ch} (hx : x ∈ l) {p t : Int} (hp : x.p = p) (ht : x.t = t) : tot l p t = x.d := by rw [← hp, ← ht]; exact tot_one h hx
theorem BagP.tot0 {l : List Ch} (h : BagP l) (p t : Int) : 0 ≤ tot l p t := by
  by_cases hk : ∃ x ∈ l, x.p = p ∧ x.t = t
  · obtain ⟨x, hx, hp, ht⟩ := hk
    have := h.pos x hx
    rw [tot_key h.right.2 hx hp ht]
    omega
  · rw [tot_none (fun x hx hkx => hk ⟨x, hx, hkx⟩)]
    omega
def negAt (B : List Ch) (x : Ch) : Bool := decide (tot B x.p x.t + x.d < 0)
def anyNeg (B C : List Ch) : Bool := C.any (negAt B)
def applyE (B C : List Ch) : Int := if anyNeg B C = true then 11 else sumsE (B ++ C)
def applyR (B C : List Ch) : List Ch := if anyNeg B C = true then [] else sumsR (B ++ C)
theorem apply_neg {B C : List Ch} (h : anyNeg B C = true) : applyE B C = 11 ∧ applyR B C = [] := ⟨if_pos h, if_pos h⟩
theorem apply_not {B C : List Ch} (h : anyNeg B C = false) : applyE B C = sumsE (B ++ C) ∧ applyR B C = sumsR (B ++ C) := by unfold applyE applyR; rw [h]; exact ⟨rfl, rfl⟩
theorem anyNeg_at {B C : List Ch} {x : Ch} (hx : x ∈ C) (h : tot B x.p x.t + x.d < 0) : anyNeg B C = true := List.any_eq_true.2 ⟨x, hx, decide_eq_true h⟩
theorem anyNeg_no {B C : List Ch} (h : ∀ x ∈ C, ¬ (tot B x.p x.t + x.d < 0)) : anyNeg B C = false := by
  cases e : anyNeg B C
  · rfl
  · obtain ⟨x, hx, hn⟩ := List.any_eq_true.1 e
    exact absurd (of_decide_eq_true hn) (h x hx)
theorem anyNeg_of {B C : List Ch} (h : anyNeg B C = false) : ∀ x ∈ C, 0 ≤ tot B x.p x.t + x.d := fun x hx => by
  by_cases hn : tot B x.p x.t + x.d < 0
  · rw [anyNeg_at hx hn] at h
    exact absurd h (by decide)
  · omega
def overAt (B : List Ch) (x : Ch) : Bool := decide (576460752303423488 < tot B x.p x.t + x.d)
def anyOver (B C : List Ch) : Bool := C.any (overAt B)
theorem anyOver_is {B C : List Ch} (hB : BagP B) (hC : RightP C) (hwB : ∀ x ∈ B, x.Wf) (hwC : ∀ x ∈ C, x.Wf) (hn : anyNeg B C = false) : anyOver B C = overK (B ++ C) := by
  have hw := both_wf hwB hwC
  rw [Bool.eq_iff_iff, overK_iff hw]
  constructor
  · intro h
    obtain ⟨x, hx, ho⟩ := List.any_eq_true.1 h
    have ho := of_decide_eq_true ho
    refine ⟨x.p, x.t, ?_⟩
    have h1 := hB.right.totR x.p x.t
    have h2 := hC.d x hx
    rw [tot_append, tot_one hC.2 hx, wr_id (by omega) (by omega)]
    exact decide_eq_true (.inr ho)
  · rintro ⟨p, t, ho⟩
    have h1 := hB.right.totR p t
    have h2 := hC.totR p t
    rw [tot_append, wr_id (by omega) (by omega)] at ho
    have ho := of_decide_eq_true ho
    by_cases hk : ∃ x ∈ C, x.p = p ∧ x.t = t
    · obtain ⟨x, hx, hp, ht⟩ := hk
      have h3 := anyNeg_of hn x hx
      have e := tot_key hC.2 hx hp ht
      rw [hp, ht] at h3
      refine List.any_eq_true.2 ⟨x, hx, decide_eq_true ?_⟩
      rw [hp, ht]
      omega
    · rw [tot_none (fun x hx hkx => hk ⟨x, hx, hkx⟩)] at ho
      omega
theorem applyR_wf {B C : List Ch} (hB : ∀ x ∈ B, x.Wf) (hC : ∀ x ∈ C, x.Wf) : ∀ x ∈ applyR B C, x.Wf := by
  unfold applyR
  split
  · simp
  · exact sumsR_wf (both_wf hB hC)
theorem applyR_length (B C : List Ch) : (applyR B C).length ≤ B.length + C.length := by
  unfold applyR
  split
  · simp
  · have := sumsR_length (B ++ C)
    rw [List.length_append] at this
    exact this
theorem applyR_right {B C : List Ch} (hB : RightP B) (hC : RightP C) (hwB : ∀ x ∈ B, x.Wf) (hwC : ∀ x ∈ C, x.Wf) : RightP (applyR B C) := by
  unfold applyR
  split
  · exact right_nil
  · exact right_sums (both_wf hwB hwC) fun x hx => (List.mem_append.1 hx).elim (hB.fit x) (hC.fit x)
theorem applyR_tot {B C : List Ch} (hB : RightP B) (hC : RightP C) (hwB : ∀ x ∈ B, x.Wf) (hwC : ∀ x ∈ C, x.Wf) (h : applyE B C = 0) (p t : Int) : tot (applyR B C) p t = tot B p t + tot C p t := by
  have hn : anyNeg B C = false := by
    cases e : anyNeg B C
    · rfl
    · rw [(apply_neg e).1] at h; exact absurd h (by decide)
  rw [(apply_not hn).2]
  rw [(apply_not hn).1] at h
  have ho : overK (B ++ C) = false := by
    cases e : overK (B ++ C)
    · rfl
    · rw [(sums_over e).1] at h; exact absurd h (by decide)
  have h1 := hB.totR p t
  have h2 := hC.totR p t
  rw [(sums_ok ho).2, (sumL_is (both_wf hwB hwC)).tot, tot_append, wr_id (by omega) (by omega)]
theorem applyR_bag {B C : List Ch} (hB : BagP B) (hC : RightP C) (hwB : ∀ x ∈ B, x.Wf) (hwC : ∀ x ∈ C, x.Wf) (h : applyE B C = 0) : BagP (applyR B C) := by
  have hr := applyR_right hB.right hC hwB hwC
  refine ⟨hr, fun z hz => ?_⟩
  have e := applyR_tot hB.right hC hwB hwC h z.p z.t
  rw [tot_one hr.2 hz] at e
  have hn : anyNeg B C = false := by
    cases e : anyNeg B C
    · rfl
    · rw [(apply_neg e).1] at h; exact absurd h (by decide)
  have h0 := (hr.1 z hz).2
  have h1 := hB.tot0 z.p z.t
  by_cases hk : ∃ x ∈ C, x.p = z.p ∧ x.t = z.t
  · obtain ⟨x, hx, hp, ht⟩ := hk
    have h3 := anyNeg_of hn x hx
    rw [hp, ht] at h3
    rw [tot_key hC.2 hx hp ht] at e
    omega
  · rw [tot_none (fun x hx hkx => hk ⟨x, hx, hkx⟩)] at e
    omega
def leastL : List Ch → Int → Int
  | [], _ => 18446744073709551615
  | x :: r, p => if x.p = p ∧ x.t < leastL r p then x.t else leastL r p
theorem leastL_le {l : List Ch} {p : Int} : leastL l p ≤ 18446744073709551615 := by
  induction l with
  | nil => exact Int.le_refl _
  | cons x r ih => unfold leastL; split <;> omega
theorem leastL_lo {l : List Ch} {p : Int} : ∀ x ∈ l, x.p = p → leastL l p ≤ x.t := by
  induction l with
  | nil => simp
  | cons x r ih =>
    intro y hy hp
    unfold leastL
    rcases List.mem_cons.1 hy with rfl | hy
    · split
      · exact Int.le_refl _
      · rename_i h
        have := Int.not_lt.1 (fun h' => h ⟨hp, h'⟩)
        omega
    · have := ih y hy hp
      split <;> omega
theorem leastL_is {l : List Ch} {p : Int} : leastL l p = 18446744073709551615 ∨ ∃ x ∈ l, x.p = p ∧ x.t = leastL l p := by
  induction l with
  | nil => exact .inl rfl
  | cons x r ih =>
    unfold leastL
    split
    · rename_i h
      exact .inr ⟨x, List.mem_cons_self, h.1, rfl⟩
    · rcases ih with h | ⟨y, hy, h⟩
      · exact .inl h
      · exact .inr ⟨y, List.mem_cons_of_mem _ hy, h⟩
theorem leastL_one {l : List Ch} {p n : Int} (hn : n ≤ 18446744073709551615) (h1 : ∀ x ∈ l, x.p = p → n ≤ x.t) (h2 : n = 18446744073709551615 ∨ ∃ x ∈ l, x.p = p ∧ x.t = n) : leastL l p = n := by
  have h3 := leastL_le (l := l) (p := p)
  rcases h2 with rfl | ⟨x, hx, hp, rfl⟩
  · rcases leastL_is (l := l) (p := p) with h | ⟨y, hy, hyp, hyt⟩
    · exact h
    · have := h1 y hy hyp
      omega
  · have h4 := leastL_lo x hx hp
    rcases leastL_is (l := l) (p := p) with h | ⟨y, hy, hyp, hyt⟩
    · omega
    · have := h1 y hy hyp
      omega
theorem leastL_none {l : List Ch} {p : Int} (h : ∀ x ∈ l, x.p ≠ p) : leastL l p = 18446744073709551615 := leastL_one (Int.le_refl _) (fun x hx hp => absurd hp (h x hx)) (.inl rfl)
theorem leastL_first {l : List Ch} (hr : l.Pairwise Lt) {i : Nat} {y : Ch} {p : Int} (hw : y.t ≤ 18446744073709551615) (hy : l[i]? = some y) (hp : y.p = p) (hlo : ∀ k z, k < i → l[k]? = some z → z.p < p) : leastL l p = y.t := by
  refine leastL_one hw (fun x hx hxp => ?_) (.inr ⟨y, List.mem_of_getElem? hy, hp, rfl⟩)
  obtain ⟨k, hk⟩ := List.mem_iff_getElem?.1 hx
  rcases Nat.lt_trichotomy k i with h1 | h1 | h1
  · have := hlo k x h1 hk; omega
  · subst h1; rw [hy] at hk; obtain rfl := Option.some.inj hk; exact Int.le_refl _
  · obtain ⟨hi', e1⟩ := List.getElem?_eq_some_iff.1 hy
    obtain ⟨hk', e2⟩ := List.getElem?_eq_some_iff.1 hk
    have := (List.pairwise_iff_getElem.1 hr) i k hi' hk' h1
    rw [e1, e2] at this
    unfold Lt at this
    omega
def fixB (x : Ch) : Ch := ⟨x.p, x.t, 1 + IntKind.i64.wrap ((IntKind.u64.wrap x.d).tmod 5)⟩
def bagFixL (l : List Ch) : List Ch := fixL ((l.take 12).map fixB)
theorem fixB_d (x : Ch) : 1 ≤ (fixB x).d ∧ (fixB x).d ≤ 5 := by
  unfold fixB
  simp only
  have h := tmod_pos (u64_wrap_range x.d).1 (show (0 : Int) < 5 by decide)
  rw [wr_i64, wr_id (by omega) (by omega)]
  omega
theorem fixB_wf {x : Ch} (h : x.Wf) : (fixB x).Wf := by
  have h2 := fixB_d x
  exact ⟨h.p0, h.p1, h.t0, h.t1, by omega, by omega⟩
theorem fixB_mk (p t d : Int) : fixB ⟨p, t, d⟩ = ⟨p, t, 1 + IntKind.i64.wrap ((IntKind.u64.wrap d).tmod 5)⟩ := rfl
theorem bagFix_wf {l : List Ch} (h : ∀ x ∈ l, x.Wf) : ∀ x ∈ (l.take 12).map fixB, x.Wf := by
  intro x hx
  obtain ⟨y, hy, rfl⟩ := List.mem_map.1 hx
  exact fixB_wf (h y (List.mem_of_mem_take hy))
theorem bagFix_nice {l : List Ch} (h : ∀ x ∈ l, x.Wf) : Nice (bagFixL l) := fix_nice (bagFix_wf h)
theorem tot_pos {l : List Ch} (h : ∀ x ∈ l, 0 ≤ x.d) (p t : Int) : 0 ≤ tot l p t := by
  induction l with
  | nil => exact Int.le_refl _
  | cons x r ih =>
    have h1 := ih fun y hy => h y (by simp [hy])
    have h2 := h x (by simp)
    simp only [tot]
    split <;> omega
theorem bagFix_bag {l : List Ch} (h : ∀ x ∈ l, x.Wf) : BagP (bagFixL l) := by
  have hn := bagFix_nice h
  refine ⟨hn.right, fun z hz => ?_⟩
  have h0 := (hn.right.1 z hz).2
  have e := tot_one hn.right.2 hz
  have h1 : 0 ≤ tot (bagFixL l) z.p z.t := by
    unfold bagFixL fixL sumsR
    split
    · exact Int.le_refl _
    · have hd : ∀ x ∈ (((l.take 12).map fixB).take 12).map fixC, 1 ≤ x.d ∧ x.d ≤ 5 := by
        intro x hx
        obtain ⟨y, hy, rfl⟩ := List.mem_map.1 hx
        obtain ⟨q, hq, rfl⟩ := List.mem_map.1 (List.mem_of_mem_take hy)
        have := fixB_d q
        unfold fixC
        simp only
        rw [Int.tmod_eq_emod_of_nonneg (by omega)]
        omega
      have hl : ((((l.take 12).map fixB).take 12).map fixC).length ≤ 12 := by simp; omega
      have hwf : ∀ x ∈ (((l.take 12).map fixB).take 12).map fixC, x.Wf := by
        intro x hx
        obtain ⟨y, hy, rfl⟩ := List.mem_map.1 hx
        exact fixC_wf (bagFix_wf h y (List.mem_of_mem_take hy))
      generalize (((l.take 12).map fixB).take 12).map fixC = L at hd hl hwf
      have h1 := tot_pos (fun x hx => by have := hd x hx; omega) z.p z.t (l := L)
      have h2 := tot_bound (B := 5) (fun x hx => by have := hd x hx; omega) (by decide) z.p z.t (l := L)
      rw [(sumL_is hwf).tot, wr_id (by omega) (by omega)]
      exact h1
  omega
end Go.Proofs.YtlkljeedlkbkgaaGreatDoor.Batch
namespace Go.Proofs.YtlkljeedlkbkgaaGreatDoor.Fr
open Go.RowKit Gr
set_option linter.unusedVariables false
def FrontU (B : List Batch.Ch) (M : Nat → Nat → Int) (f p : Nat) (v : Int) : Prop :=
  (0 ≤ v ∧ v ≤ 18446744073709551615) ∧ (∀ x ∈ B, 0 ≤ x.p → x.p < f → v ≤ plusN x.t (M x.p.toNat p)) ∧ (v = 18446744073709551615 ∨ ∃ x ∈ B, 0 ≤ x.p ∧ x.p < f ∧ v = plusN x.t (M x.p.toNat p))
theorem plusN_never {s : Int} (h : 0 ≤ s) : plusN 18446744073709551615 s = 18446744073709551615 := by unfold plusN; split <;> omega
theorem FrontU.start (B : List Batch.Ch) (M : Nat → Nat → Int) (p : Nat) : FrontU B M 0 p 18446744073709551615 := ⟨⟨by decide, by decide⟩, fun x _ h0 h1 => by omega, .inl rfl⟩
theorem FrontU.port {B : List Batch.Ch} {M : Nat → Nat → Int} {f p : Nat} {v : Int} (hw : ∀ x ∈ B, 0 ≤ x.t ∧ x.t ≤ 18446744073709551615) (h0 : 0 ≤ M f p) (h1 : M f p ≤ 18446744073709551615) (h : FrontU B M f p v) :
    FrontU B M (f + 1) p (min v (plusN (Batch.leastL B f) (M f p))) := by
  have hl := Batch.leastL_le (l := B) (p := (f : Int))
  have hl0 : 0 ≤ Batch.leastL B f := by
    rcases Batch.leastL_is (l := B) (p := (f : Int)) with e | ⟨x, hx, _, e⟩
    · omega
    · have := hw x hx; omega
  have hlo := plusN_lo hl0 h0
  have hle := (plusN_le (s := M f p) hl).1
  refine ⟨⟨by have := h.1; omega, by have := h.1; omega⟩, fun x hx hp0 hp1 => ?_, ?_⟩
  · by_cases e : x.p = f
    · have h2 := Batch.leastL_lo x hx e
      have h3 := plusN_mono h2 (Int.le_refl (M f p)) (hw x hx).2
      have e2 : x.p.toNat = f := by omega
      rw [e2]
      omega
    · have := h.2.1 x hx hp0 (by omega)
      omega
  · by_cases hv : v ≤ plusN (Batch.leastL B f) (M f p)
    · rw [Int.min_eq_left hv]
      rcases h.2.2 with e | ⟨x, hx, hp0, hp1, e⟩
      · exact .inl e
      · exact .inr ⟨x, hx, hp0, by omega, e⟩
    · rw [Int.min_eq_right (by omega)]
      rcases Batch.leastL_is (l := B) (p := (f : Int)) with e | ⟨x, hx, hp, e⟩
      · rw [e, plusN_never h0]; exact .inl rfl
      · refine .inr ⟨x, hx, by omega, by omega, ?_⟩
        have e2 : x.p.toNat = f := by omega
        rw [e2, e]
end Go.Proofs.YtlkljeedlkbkgaaGreatDoor.Fr
