/-
  YtlkljeedlkbkgaaGreatDoorBagFix
-/
import Derived.Test.YtlkljeedlkbkgaaGreatDoorJoined10
import Derived.Test.YtlkljeedlkbkgaaGreatDoorJoined9
import Derived.Test.YtlkljeedlkbkgaaGreatDoorJoined7
namespace Go.Proofs.YtlkljeedlkbkgaaGreatDoor.Batch
open Go.RowKit Go.Lib
set_option linter.unusedVariables false
theorem fixB_wrap (p t d : Int) : fixB ⟨p, t, d⟩ = ⟨p, t, wrap64 (1 + wrap64 ((IntKind.u64.wrap d).tmod 5))⟩ := by
  have h := fixB_d ⟨p, t, d⟩
  rw [fixB_mk] at *
  simp only at h
  rw [wrap64_wr, wrap64_wr, ← wr_i64 ((IntKind.u64.wrap d).tmod 5), wr_id (by omega) (by omega)]
set_option maxRecDepth 1000000 in
set_option maxHeartbeats 4000000 in
theorem bagfix_any {w : World} {v : Value} {l : List Ch} (hv : Rd w v l) :
    Calls Tryz.prog 23 #[v] w fun e w' => ∃ v', e = .returned v' ∧ Own w' w.heap.size 67 v' (bagFixL l) ∧ Below w.heap.size w w' := by
  have hwf := hv.wf
  obtain ⟨ao, cap, rfl, hlc, hcm, _, hcell⟩ := hv
  obtain ⟨i0, hi, hz0, hz1, hz2⟩ := info_parts infoRf2
  have HC := Lib.hid hcell
  have HWF := Lib.hid hwf
  have hlen : l.length ≤ 9223372036854775807 := by omega
  clear hwf hcell hlc hcm
  go_enter Tryz.func23, Tryz.ntmps23
  go_wp2
  go_loopg [3, 4] 13 (fun k o t wr => ∃ i : Nat, i + k = 13 ∧ i ≤ 12 ∧ i ≤ l.length ∧ t = .int .i64 i ∧ wr.ownsRow w.heap.size 67 3 o i (cellsL ((l.take i).map fixB)) ∧ Below w.heap.size w wr)
  case atStart => exact ⟨0, by omega, by omega, by omega, rfl, World.ownsRow_nil _ _ _ _, Below.refl _ _⟩
  case round =>
    obtain ⟨i, hik, hi12, hil, rfl, hown, hbw⟩ := hrel
    have HIK := Lib.hid hik
    clear hik
    by_cases hend : i < l.length ∧ i < 12
    · obtain ⟨hlt1, hlt2⟩ := hend
      obtain ⟨x, hx, hxm⟩ := at_of hlt1
      have hne : l ≠ [] := by intro e; rw [e] at hlt1; simp at hlt1
      obtain ⟨b, off, hao, hcc⟩ := HC.out.resolve_left hne
      have q := hcc i x hx
      have hbl := q.lt
      obtain ⟨c0, c1, c2⟩ := q.below hbw hbl
      have hxw := HWF.out x hxm
      obtain ⟨p, t, d⟩ := x
      simp only at c0 c1 c2
      have HX := Lib.hid hx
      have HI := Lib.hid hlt1
      have HI2 := Lib.hid hlt2
      subst hao
      have HBL := Lib.hid (show b < w.heap.size from hbl)
      have HFX := Lib.hid (fixB_wrap p t d)
      clear hx hxm hne hcc q hbl HC hxw
      have hbase : w.heap.size ≤ wr.heap.size := hbw.size
      have hi0' : (0 : Int) ≤ (i : Int) := Int.natCast_nonneg _
      have hi1 : (i : Int) < (l.length : Int) := by omega
      have hi3 : (i : Int) < 12 := by omega
      have hbl2 : b < wr.heap.size := by have := HBL.out; omega
      go_wp2_with (at_builtin; refine wpList_append_own _ rfl _ _ 27 rfl w.heap.size 67 i0 (.agg #[.int .i64 0, .int .u64 0, .int .i64 0]) 3 24 Tryz.underlying27 hi hz0 hz1 hz2 rfl (by decide) _ _ _ rfl (World.ownsRow.alloc (World.ownsRow.alloc hown _) _) ⟨wr.heap.size + 1, 0, none⟩ 1 1 [.int .i64 p, .int .u64 t, .int .i64 (wrap64 (1 + wrap64 ((IntKind.u64.wrap d).tmod 5)))] rfl rfl (by simpa using news3' (wr.alloc (.cells #[.int .i64 p, .int .u64 t, .int .i64 (wrap64 (1 + wrap64 ((IntKind.u64.wrap d).tmod 5)))] 67)) p t (wrap64 (1 + wrap64 ((IntKind.u64.wrap d).tmod 5))) 67) ?c2 ?c3 ?c4 ?c5 ?_)
      case c2 => intro u hu; simp at hu; rcases hu with rfl | rfl | rfl <;> rfl
      case c3 => unfold maxLen; omega
      case c4 => omega
      case c5 => simp; omega
      intro v2 w2 hown1 hgrow _
      have hb1 : Below w.heap.size w w2 := ((hbw.alloc hbase _).alloc (by simp; omega) _).grown hgrow (by simp; omega) (fun k e => (hown.lt k e).1)
      have HO := Lib.hid hown1
      have HB1 := Lib.hid hb1
      clear hown hown1 hgrow hbw hb1 c0 c1 c2
      go_wp2
      go_roundg (gk - 1)
      case measure => have := HIK.out; have := HI2.out; omega
      case rel =>
        refine ⟨i + 1, by have := HIK.out; have := HI2.out; omega, by have := HI2.out; omega, by have := HI.out; omega, by go_num, ?_, HB1.out⟩
        have e1 : l.take (i + 1) = l.take i ++ [⟨p, t, d⟩] := by rw [List.take_add_one, HX.out]; rfl
        rw [e1, List.map_append, List.map_singleton, cellsL_snoc, HFX.out, List.map_take]
        exact HO.out
    · have hin : l.take i = l.take 12 := by
        by_cases h : i < l.length
        · obtain rfl : i = 12 := by omega
          rfl
        · rw [take_all (by omega), take_all (by omega)]
      have hown2 : Own wr w.heap.size 67 u3 ((l.take 12).map fixB) := by
        unfold Own
        rw [← hin, List.length_map, List.length_take, show min i l.length = i by omega]
        exact hown
      have hwf2 : ∀ x ∈ (l.take 12).map fixB, x.Wf := bagFix_wf HWF.out
      have HFL := Lib.hid (show bagFixL l = fixL ((l.take 12).map fixB) from rfl)
      generalize (l.take 12).map fixB = L at hown2 hwf2 HFL
      have HS := Lib.hid (fix_any (hown2.rd hwf2))
      have HB := Lib.hid hbw
      have hbs : w.heap.size ≤ wr.heap.size := hbw.size
      obtain ⟨ao3, cap3, rfl, _⟩ := hown2.form'
      by_cases hlt : i < l.length
      case' pos =>
        have hj0 : (i : Int) < (l.length : Int) := by omega
        have hj1 : ¬ ((i : Int) < 12) := by omega
      case' neg => have hj0 : ¬ ((i : Int) < (l.length : Int)) := by omega
      all_goals
        clear hown2 hwf2 hown hin hend hbw hlt
        go_wp2_with fail
        go_at_call 60
        refine HS.out.mono ?_
        rintro e w1 ⟨v1, rfl, hown1, hb1⟩
        have HO := Lib.hid (hown1.mono hbs)
        have HB1 := Lib.hid (HB.out.trans (hb1.mono hbs))
        clear hown1 hb1
        go_wp2_with fail
        go_ret
        exact ⟨_, rfl, by rw [HFL.out]; exact HO.out, HB1.out⟩
end Go.Proofs.YtlkljeedlkbkgaaGreatDoor.Batch
