/-
  PACKAGE marchlandref03: Fix, Merge.
-/
import Derived.Test.YtjmkcgkkgamafaaJoined8
namespace Go.Proofs.Ytjmkcgkkgamafaa.Batch
open Go.RowKit
set_option linter.unusedVariables false

def fixC (x : Ch) : Ch := ⟨IntKind.i64.wrap ((IntKind.u64.wrap x.p).tmod 64), x.t.tmod 18446744073709551615, x.d.tmod 1000⟩
def fixL (l : List Ch) : List Ch := sumsR ((l.take 12).map fixC)
theorem u64_wrap_range (n : Int) : 0 ≤ IntKind.u64.wrap n ∧ IntKind.u64.wrap n ≤ 18446744073709551615 := by
  unfold IntKind.wrap
  simp [IntKind.bits, IntKind.signed]
  omega
theorem fixC_mk (p t d : Int) : fixC ⟨p, t, d⟩ = ⟨IntKind.i64.wrap ((IntKind.u64.wrap p).tmod 64), t.tmod 18446744073709551615, d.tmod 1000⟩ := rfl
theorem tmod_pos {a b : Int} (ha : 0 ≤ a) (hb : 0 < b) : 0 ≤ a.tmod b ∧ a.tmod b < b := ⟨Int.tmod_nonneg _ ha, Int.tmod_lt_of_pos _ hb⟩
theorem fixC_p (x : Ch) : 0 ≤ (fixC x).p ∧ (fixC x).p < 64 := by
  unfold fixC
  simp only
  have h := tmod_pos (u64_wrap_range x.p).1 (show (0 : Int) < 64 by decide)
  rw [wr_i64, wr_id (by omega) (by omega)]
  exact h
theorem fixC_d (x : Ch) : -999 ≤ (fixC x).d ∧ (fixC x).d ≤ 999 := by
  unfold fixC
  simp only
  have h1 := Int.tmod_lt_of_pos x.d (show (0 : Int) < 1000 by decide)
  have h2 := Int.tmod_lt_of_pos (-x.d) (show (0 : Int) < 1000 by decide)
  rw [Int.neg_tmod] at h2
  omega
theorem fixC_t {x : Ch} (h : x.Wf) : 0 ≤ (fixC x).t ∧ (fixC x).t < 18446744073709551615 := tmod_pos h.t0 (by decide)
theorem fixC_wf {x : Ch} (h : x.Wf) : (fixC x).Wf := by
  have h1 := fixC_p x
  have h2 := fixC_d x
  have h3 := fixC_t h
  exact ⟨by omega, by omega, by omega, by omega, by omega, by omega⟩

set_option maxRecDepth 1000000 in
set_option maxHeartbeats 4000000 in
theorem fix_any {w : World} {v : Value} {l : List Ch} (hv : Rd w v l) :
    Calls Try.prog 24 #[v] w fun e w' => ∃ v', e = .returned v' ∧ Own w' w.heap.size 82 v' (fixL l) ∧ Below w.heap.size w w' := by
  have hwf := hv.wf
  obtain ⟨ao, cap, rfl, hlc, hcm, _, hcell⟩ := hv
  obtain ⟨i0, hi, hz0, hz1, hz2⟩ := info_parts infoRf2
  have HC := Lib.hid hcell
  have HWF := Lib.hid hwf
  have hlen : l.length ≤ 9223372036854775807 := by omega
  clear hwf hcell hlc hcm
  go_enter Try.func24, Try.ntmps24
  go_wp2
  go_loopg [3, 4] 13 (fun k o t wr => ∃ i : Nat, i + k = 13 ∧ i ≤ 12 ∧ i ≤ l.length ∧ t = .int .i64 i ∧ wr.ownsRow w.heap.size 82 3 o i (cellsL ((l.take i).map fixC)) ∧ Below w.heap.size w wr)
  case atStart => exact ⟨0, by omega, by omega, by omega, rfl, World.ownsRow_nil _ _ _ _, Below.refl _ _⟩
  case round =>
    obtain ⟨i, hik, hi12, hil, rfl, hown, hbw⟩ := hrel
    have HIK := Lib.hid hik
    clear hik
    by_cases hend : i < l.length ∧ i < 12
    · obtain ⟨hlt1, hlt2⟩ := hend
      obtain ⟨x, hx, hxm⟩ := at_of hlt1
      have hne : l ≠ [] := by intro e; rw [e] at hlt1; simp at hlt1
      obtain ⟨b, off, hao, hcc⟩ := HC.out.resolve_left hne
      have q := hcc i x hx
      have hbl := q.lt
      obtain ⟨c0, c1, c2⟩ := q.below hbw hbl
      have hxw := HWF.out x hxm
      obtain ⟨p, t, d⟩ := x
      simp only at c0 c1 c2
      have HX := Lib.hid hx
      have HI := Lib.hid hlt1
      have HI2 := Lib.hid hlt2
      subst hao
      have HBL := Lib.hid (show b < w.heap.size from hbl)
      clear hx hxm hne hcc q hbl HC hxw
      have hbase : w.heap.size ≤ wr.heap.size := hbw.size
      have hi0' : (0 : Int) ≤ (i : Int) := Int.natCast_nonneg _
      have hi1 : (i : Int) < (l.length : Int) := by omega
      have hi3 : (i : Int) < 12 := by omega
      have ag : u3.ownBlock ≠ some b := fun e => by have := (hown.lt b e).1; have := HBL.out; omega
      have hbl2 : b < wr.heap.size := by have := HBL.out; omega
      go_wp2_with fail
      go_region_held3 (fun w' => w'.cell? ⟨b, off + i * 3, none⟩ = some (.int .i64 p) ∧ w'.cell? ⟨b, off + i * 3 + 1, none⟩ = some (.int .u64 t) ∧ w'.cell? ⟨b, off + i * 3 + 2, none⟩ = some (.int .i64 d))
        (first
          | go_keep
          | (go_split_ands
             refine ⟨?_, ?_, ?_⟩
             · (rw [hgrow.cell_far _ (by simp; omega) (Ne.symm ag)]; assumption)
             · (rw [hgrow.cell_far _ (by simp; omega) (Ne.symm ag)]; assumption)
             · (rw [hgrow.cell_far _ (by simp; omega) (Ne.symm ag)]; assumption)))
        ((refine step_append_lies _ (by rfl) _ _ _ (by rfl) w.heap.size 82 i0 _ 3 24 Try.underlying37 hi hz0 hz1 hz2 rfl (by omega) u3 i (cellsL ((l.take i).map fixC)) (by rfl) ((hown.alloc _).drew)
            ⟨wr.heap.size, 0, none⟩ 1 1 [.int .i64 (IntKind.i64.wrap ((IntKind.u64.wrap p).tmod 64)), .int .u64 (t.tmod 18446744073709551615), .int .i64 (d.tmod 1000)] (by rfl) (by rfl) (World.news_of_block (cs := #[.int .i64 (IntKind.i64.wrap ((IntKind.u64.wrap p).tmod 64)), .int .u64 (t.tmod 18446744073709551615), .int .i64 (d.tmod 1000)]) (t := 82) (fr := (0, 0)) (heap_alloc_new wr _)) (by simp [Value.oneCell'])
            (by omega) (by unfold maxLen; omega) (by omega) (by simp; omega) (wr.heap.size + 1) (by simp) ?_; intro gg cap1 w1 hown1 hgrow hat hlt))
      have hb1 : Below w.heap.size w w1 := ((hbw.alloc hbase _).drew).grown hgrow (by simp; omega) (fun k e => (hown.lt k e).1)
      have HO := Lib.hid hown1
      have HB1 := Lib.hid hb1
      clear hown hown1 hgrow hat hlt hbw hb1 c0 c1 c2 ag
      go_wp2
      go_roundg (gk - 1)
      case measure => have := HIK.out; have := HI2.out; omega
      case rel =>
        refine ⟨i + 1, by have := HIK.out; have := HI2.out; omega, by have := HI2.out; omega, by have := HI.out; omega, by go_num, ?_, HB1.out⟩
        have e1 : l.take (i + 1) = l.take i ++ [⟨p, t, d⟩] := by rw [List.take_add_one, HX.out]; rfl
        rw [e1, List.map_append, List.map_singleton, cellsL_snoc, fixC_mk]
        exact HO.out
    · have hin : l.take i = l.take 12 := by
        by_cases h : i < l.length
        · obtain rfl : i = 12 := by omega
          rfl
        · rw [take_all (by omega), take_all (by omega)]
      have hown2 : Own wr w.heap.size 82 u3 ((l.take 12).map fixC) := by
        unfold Own
        rw [← hin, List.length_map, List.length_take, show min i l.length = i by omega]
        exact hown
      have hwf2 : ∀ x ∈ (l.take 12).map fixC, x.Wf := by
        intro x hx
        obtain ⟨y, hy, rfl⟩ := List.mem_map.1 hx
        exact fixC_wf (HWF.out y (List.mem_of_mem_take hy))
      have hL : ((l.take 12).map fixC).length ≤ 12 := by rw [List.length_map, List.length_take]; omega
      have HFL := Lib.hid (show fixL l = sumsR ((l.take 12).map fixC) from rfl)
      generalize (l.take 12).map fixC = L at hown2 hwf2 hL HFL
      have HS := Lib.hid (refsums_any (hown2.rd hwf2) (by omega))
      have HB := Lib.hid hbw
      have hbs : w.heap.size ≤ wr.heap.size := hbw.size
      obtain ⟨ao3, cap3, rfl, _⟩ := hown2.form'
      by_cases hlt : i < l.length
      case' pos =>
        have hj0 : (i : Int) < (l.length : Int) := by omega
        have hj1 : ¬ ((i : Int) < 12) := by omega
      case' neg => have hj0 : ¬ ((i : Int) < (l.length : Int)) := by omega
      all_goals
        clear hown2 hwf2 hown hin hend hbw hlt
        go_wp2_with fail
        go_at_call 65
        refine HS.out.mono ?_
        rintro e w1 ⟨v1, rfl, hown1, hb1⟩
        have HO := Lib.hid (hown1.mono hbs)
        have HB1 := Lib.hid (HB.out.trans (hb1.mono hbs))
        clear hown1 hb1
        go_wp2_with fail
        go_ret
        exact ⟨_, rfl, by rw [HFL.out]; exact HO.out, HB1.out⟩
end Go.Proofs.Ytjmkcgkkgamafaa.Batch
