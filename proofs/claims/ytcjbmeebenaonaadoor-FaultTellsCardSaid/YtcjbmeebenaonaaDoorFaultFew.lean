/-
  THE LAWS' OWN CUT: at most twelve places, at most twenty letters of each: in memory of the call's own.
-/
import Derived.Test.YtcjbmeebenaonaaDoorFaultAt
import Derived.StillTactics
import Derived.Deep.RegionHeld3
import Derived.Deep.AppendLies
namespace Go.Proofs.YtcjbmeebenaonaaDoor.Fault
open Go.RowKit
set_option linter.unusedVariables false

/-- A slice of places that came in, as it reads. -/
def Reads (w : World) (v : Value) (l : List Pl) : Prop := ∃ (ao : Option Addr) (cap : Nat), v = .slice ao l.length cap ∧ l.length ≤ 9223372036854775807 ∧ (∀ x ∈ l, x.1.size ≤ 9223372036854775807 ∧ -9223372036854775808 ≤ x.2 ∧ x.2 ≤ 9223372036854775807) ∧
  (l = [] ∨ ∃ b off, ao = some ⟨b, off, none⟩ ∧ ∀ i s n, l[i]? = some (s, n) → w.cell? ⟨b, off + i * 2, none⟩ = some (.string s) ∧ w.cell? ⟨b, off + i * 2 + 1, none⟩ = some (.int .i64 n))
def cutS (s : ByteArray) : ByteArray := s.extract 0 (min s.size 20)
def fewL (l : List Pl) : List Pl := (l.take 12).map fun x => (cutS x.1, x.2)
theorem fewL_at {l : List Pl} {i : Nat} {s : ByteArray} {n : Int} (h : l[i]? = some (s, n)) (hi : i < 12) : (fewL l).take (i + 1) = (fewL l).take i ++ [(cutS s, n)] := by
  rw [List.take_add_one]
  congr 1
  unfold fewL
  rw [List.getElem?_map, List.getElem?_take_of_lt hi, h]
  rfl
theorem fewL_length (l : List Pl) : (fewL l).length = min 12 l.length := by unfold fewL; simp
theorem infoRP : (Tryd.prog.info? 48).map (fun i => (i.zero, i.size, i.bytes)) = some (some (.agg #[.string ⟨#[]⟩, .int .i64 0]), 2, 24) := by kernel_rfl

theorem cut_facts (s : ByteArray) (hs : s.size ≤ 9223372036854775807) : ∃ m : Int, (∀ (ts : Array TypeId) (t : TypeId) (w : World), (Builtin.min_ ts t #[.int .i64 s.size, .int .i64 20]).run Tryd.prog w = .ok (.int .i64 m) w) ∧
    ∀ w, (Instr.slice 9 (.string s) none (some (.int .i64 m)) none).run Tryd.prog w = .ok (.string (cutS s)) w := by
  refine ⟨if (20 : Int) < s.size then 20 else s.size, fun ts t w => run_min_int2 w ts t .i64 .i64 _ _, fun w => ?_⟩
  have hm : (if (20 : Int) < s.size then (20 : Int) else s.size).toNat = min s.size 20 := by split <;> omega
  rw [run_slice_string_h (t := 9) (P := Tryd.prog) (s := s) (w := w) Tryd.underlying9 .i64 _ (by split <;> omega) (by split <;> omega), hm]
  rfl

set_option maxRecDepth 1000000 in
set_option maxHeartbeats 4000000 in
theorem few_any {w : World} {v : Value} {l : List Pl} (hv : Reads w v l) :
    Calls Tryd.prog 17 #[v] w fun e w' => ∃ v', e = .returned v' ∧ w'.ownsRow w.heap.size 48 2 v' (fewL l).length (plCells (fewL l)) ∧ Below w.heap.size w w' := by
  obtain ⟨ao, cap, rfl, hlen, hok, hcell⟩ := hv
  obtain ⟨i0, hi, hz0, hz1, hz2⟩ := info_parts infoRP
  have HOK := Lib.hid hok
  have HC := Lib.hid hcell
  clear hok hcell
  go_enter Tryd.func17, Tryd.ntmps17
  go_wp2
  go_loopg [3, 4] (l.length + 1) (fun k o t wr => ∃ i : Nat, i + k = l.length + 1 ∧ i ≤ 12 ∧ i ≤ l.length ∧ t = .int .i64 i ∧ wr.ownsRow w.heap.size 48 2 o i (plCells ((fewL l).take i)) ∧ Below w.heap.size w wr)
  case atStart => exact ⟨0, by omega, by omega, by omega, rfl, World.ownsRow_nil _ _ _ _, Below.refl _ _⟩
  case round =>
    obtain ⟨i, hik, hi12, hil, rfl, hown, hbw⟩ := hrel
    have HIK := Lib.hid hik
    clear hik
    by_cases hlt : i < l.length ∧ i < 12
    · obtain ⟨hlt1, hlt2⟩ := hlt
      obtain ⟨s, n, hx⟩ : ∃ s n, l[i]? = some (s, n) := ⟨_, _, List.getElem?_eq_getElem hlt1⟩
      have hne : l ≠ [] := by intro e; rw [e] at hlt1; simp at hlt1
      obtain ⟨b, off, hao, hcc⟩ := HC.out.resolve_left hne
      obtain ⟨q0, q1⟩ := hcc i s n hx
      have hbl := Lib.lt_of_cell q0
      have c0 := (hbw.cell (p := ⟨b, off + i * 2, none⟩) hbl).trans q0
      have c1 := (hbw.cell (p := ⟨b, off + i * 2 + 1, none⟩) hbl).trans q1
      obtain ⟨hs1, hs2, hs3⟩ := HOK.out (s, n) (List.mem_of_getElem? hx)
      simp only at hs1 hs2 hs3
      have HX := Lib.hid hx
      have HI := Lib.hid (And.intro hlt1 hlt2)
      subst hao
      have HBL := Lib.hid (show b < w.heap.size from hbl)
      clear hx hne hcc q0 q1 hbl HC
      have hbase : w.heap.size ≤ wr.heap.size := hbw.size
      have hi0' : (0 : Int) ≤ (i : Int) := Int.natCast_nonneg _
      have hi1 : (i : Int) < (l.length : Int) := by omega
      have ag : u3.ownBlock ≠ some b := fun e => by have := (hown.lt b e).1; have := HBL.out; omega
      have hbl2 : b < wr.heap.size := by have := HBL.out; omega
      obtain ⟨m, hmin, hsl⟩ := cut_facts s hs1
      clear hs1 hs2 hs3
      go_wp2_with fail
      go_region_held3 (fun w' => w'.cell? ⟨b, off + i * 2, none⟩ = some (.string s) ∧ w'.cell? ⟨b, off + i * 2 + 1, none⟩ = some (.int .i64 n))
        (first
          | go_keep
          | (go_split_ands
             refine ⟨?_, ?_⟩
             · (rw [hgrow.cell_far _ (by simp; omega) (Ne.symm ag)]; assumption)
             · (rw [hgrow.cell_far _ (by simp; omega) (Ne.symm ag)]; assumption)))
        ((refine step_append_lies _ (by rfl) _ _ _ (by rfl) w.heap.size 48 i0 _ 2 24 Tryd.underlying35 hi hz0 hz1 hz2 rfl (by omega) u3 i (plCells ((fewL l).take i)) (by rfl) ((hown.alloc _).drew)
            ⟨wr.heap.size, 0, none⟩ 1 1 [.string (cutS s), .int .i64 n] (by rfl) (by rfl) (World.news_of_block (cs := #[.string (cutS s), .int .i64 n]) (t := 48) (fr := (0, 0)) (heap_alloc_new wr _)) (by simp [Value.oneCell'])
            (by omega) (by unfold maxLen; omega) (by omega) (by simp; omega) (wr.heap.size + 1) (by simp) ?_; intro gg cap1 w1 hown1 hgrow hat hlt))
      have hb1 : Below w.heap.size w w1 := ((hbw.alloc hbase _).drew).grown hgrow (by simp; omega) (fun k e => (hown.lt k e).1)
      have HO := Lib.hid hown1
      have HB1 := Lib.hid hb1
      clear hown hown1 hgrow hat hlt hbw hb1 hmin hsl c0 c1 ag
      go_wp2
      go_roundg (l.length - i)
      case measure => have := HIK.out; have := HI.out; omega
      case rel =>
        refine ⟨i + 1, by have := HIK.out; have := HI.out; omega, by have := HI.out; omega, by have := HI.out; omega, by go_num, ?_, HB1.out⟩
        rw [fewL_at HX.out HI.out.2, plCells_snoc]
        exact HO.out
    · have hin : i = (fewL l).length := by rw [fewL_length]; omega
      have hown2 : wr.ownsRow w.heap.size 48 2 u3 (fewL l).length (plCells (fewL l)) := by
        have h := hown
        rw [List.take_of_length_le (by omega), hin] at h
        exact h
      have HO := Lib.hid hown2
      clear hown hown2 hin
      by_cases h12 : i < l.length
      · have h12' : ¬ (i < 12) := by omega
        go_wp2
        go_ret
        exact ⟨_, rfl, HO.out, hbw⟩
      · go_wp2
        go_ret
        exact ⟨_, rfl, HO.out, hbw⟩
end Go.Proofs.YtcjbmeebenaonaaDoor.Fault
