/-
  THE WALK OF THE LAW ClockRaces.
-/
import Derived.Test.YtneegocbknkhjaaCkTold
import Derived.Test.YtneegocbknkhjaaCkRefRace
namespace Go.Proofs.Ytneegocbknkhjaa.Ck
open Go.RowKit Rw Mm Go.Maps Pk
set_option linter.unusedVariables false

set_option maxRecDepth 1000000 in
set_option maxHeartbeats 8000000 in
theorem clockRaces_any {w : World} {v : Value} {l : List Ev} (hv : Rr evK w v l) :
    Calls Try.prog 5 #[v] w fun e w' => e = .returned (.bool true) ∧ Below w.heap.size w w' := by
  obtain ⟨ao, cap, rfl, hv1, hv2⟩ := id hv.form
  obtain ⟨n, hn⟩ : ∃ n, n = min l.length 80 := ⟨_, rfl⟩
  have hmin : min (l.length : Int) 80 = (n : Int) := by omega
  have hnl : n ≤ l.length := by omega
  have HL := Lib.hid (hv.take (k := n) hnl)
  have HLL : Hid ((l.take n).length ≤ 1000) := Lib.hid (by rw [List.length_take]; omega)
  have hn0 : (0 : Int) ≤ (n : Int) := Int.natCast_nonneg _
  have hn1 : (n : Int) ≤ (cap : Int) := by omega
  clear hv hn hnl
  go_enter Try.func5, Try.ntmps5
  go_wp2_with fail
  go_at_call 28
  refine (to9_any HL.out HLL.out).mono ?_
  rintro e w1 ⟨v1, rfl, ho, hb1⟩
  have HR1 := Lib.hid (ho.sl HL.out.wf).rr
  have HB := Lib.hid hb1
  clear ho hb1
  go_wp2_with fail
  go_at_call 32
  refine (race_any HR1.out HLL.out).mono ?_
  rintro e w2 ⟨x, y, rfl, hf, hb⟩
  replace HB := Lib.hid (HB.out.trans (hb.mono HB.out.size))
  have HF := Lib.hid hf
  clear hf hb
  go_wp2_with fail
  go_at_call 33
  refine (refrace_any (HL.out.below HB.out) HLL.out).mono ?_
  rintro e w3 ⟨x', y', rfl, hf', hb⟩
  obtain ⟨rfl, rfl⟩ := isFirst_one HF.out hf'
  replace HB := Lib.hid (HB.out.trans (hb.mono HB.out.size))
  clear hf' hb HF
  have hx : (x == x) = true := by simp
  have hy : (y == y) = true := by simp
  go_wp2_with fail
  go_at_call 30
  refine (cktold_any _).mono ?_
  rintro e w4 ⟨rfl, hb⟩
  replace HB := Lib.hid (HB.out.trans (hb.mono HB.out.size))
  clear hb
  go_wp2_with fail
  go_ret
  exact ⟨rfl, HB.out⟩
end Go.Proofs.Ytneegocbknkhjaa.Ck
