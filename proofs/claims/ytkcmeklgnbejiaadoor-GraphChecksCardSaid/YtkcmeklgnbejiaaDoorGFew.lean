
/-
  PACKAGE marchlandlaw05: few.
-/
import Derived.Test.YtkcmeklgnbejiaaDoorGTo
import Derived.BigRegion
namespace Go.Proofs.YtkcmeklgnbejiaaDoor.Gr
open Go.RowKit Go.Deep
set_option linter.unusedVariables false
set_option linter.unusedSimpArgs false

theorem cut_slice {T : TypeId} {s : Nat} (ht : Tryd.prog.underlying T = some (.slice (Tryd.prog.elem T))) (hz : ∀ w, (Go.sizeOf (Tryd.prog.elem T)).run Tryd.prog w = .ok s w) (ao : Option Addr) (n cap k : Nat) (hk : k ≤ cap) (w : World) :
    (Instr.slice T (.slice ao n cap) none (some (.int .i64 (k : Int))) none).run Tryd.prog w = .ok (.slice ao k cap) w := by
  rw [run_slice_h (P := Tryd.prog) (w := w) (t := T) (a := ao) (len := n) (cap := cap) (ht := ht) (kh := .i64) (h := (k : Int)) (h0 := by omega) (h2 := by omega), hz]
  simp only [Result.andThen, sliced, Int.toNat_natCast, Nat.sub_zero, Nat.zero_mul]
  have e : (if cap = 0 then ao else ao.map (·.add 0)) = ao := by
    split
    · rfl
    · cases ao <;> rfl
  rw [e]
theorem few_facts {T : TypeId} {s : Nat} (ht : Tryd.prog.underlying T = some (.slice (Tryd.prog.elem T))) (hz : ∀ w, (Go.sizeOf (Tryd.prog.elem T)).run Tryd.prog w = .ok s w) (ao : Option Addr) (n cap c : Nat) (ci : Int) (hci : ci = (c : Int)) (hk : n ≤ cap) :
    ∃ m : Int, (∀ (ts : Array TypeId) (t : TypeId) (w : World), (Builtin.min_ ts t #[.int .i64 (n : Int), .int .i64 ci]).run Tryd.prog w = .ok (.int .i64 m) w) ∧
      ∀ w, (Instr.slice T (.slice ao n cap) none (some (.int .i64 m)) none).run Tryd.prog w = .ok (.slice ao (min n c) cap) w := by
  refine ⟨((min n c : Nat) : Int), fun ts t w => ?_, fun w => cut_slice ht hz ao n cap _ (by omega) w⟩
  rw [run_min_int2 w ts t .i64 .i64 _ _, show (if ci < (n : Int) then ci else (n : Int)) = ((min n c : Nat) : Int) by split <;> omega]
theorem sizeEs : ∀ w, (Go.sizeOf (Tryd.prog.elem 22)).run Tryd.prog w = .ok 3 w := by
  intro w
  simp [go_sem]
theorem sizeIs : ∀ w, (Go.sizeOf (Tryd.prog.elem 23)).run Tryd.prog w = .ok 1 w := by
  intro w
  simp [go_sem]
theorem GMemP.take {w : World} {ao aoi : Option Addr} {cap capi : Nat} {E : List Ed} {I : List Int} (h : GMemP w (.slice ao E.length cap) (.slice aoi I.length capi) E I) (a b : Nat) :
    GMemP w (.slice ao (min E.length a) cap) (.slice aoi (min I.length b) capi) (E.take a) (I.take b) := by
  obtain ⟨⟨ao', cap', hv, hc1, hc2, _⟩, ⟨aoi', capi', hv', hc3, hc4, _⟩⟩ := And.intro h.ed h.inp
  simp only [Value.slice.injEq] at hv hv'
  obtain ⟨rfl, _, rfl⟩ := hv
  obtain ⟨rfl, _, rfl⟩ := hv'
  have h1 : E.take (min E.length a) = E.take a := by rw [List.take_eq_take_iff]; omega
  have h2 : I.take (min I.length b) = I.take b := by rw [List.take_eq_take_iff]; omega
  rw [← h1, ← h2]
  exact ⟨h.ed.take _ (by omega) cap (by omega) hc2, h.inp.take _ (by omega) capi (by omega) hc4⟩
set_option maxRecDepth 1000000 in
set_option maxHeartbeats 4000000 in
theorem gfew_any {w : World} {ao aoi : Option Addr} {cap capi : Nat} {E : List Ed} {I : List Int} (n : Int) (hc1 : E.length ≤ cap) (hc3 : I.length ≤ capi) :
    Calls Tryd.prog 7 #[.agg #[.int .i64 n, .slice ao E.length cap, .slice aoi I.length capi]] w fun e w' => e = .returned (.agg #[.int .i64 n, .slice ao (min E.length 300) cap, .slice aoi (min I.length 20) capi]) ∧ Below w.heap.size w w' := by
  obtain ⟨m1, hmin1, hsl1⟩ := few_facts (T := 22) (s := 3) (by kernel_rfl) sizeEs ao E.length cap 300 300 rfl hc1
  obtain ⟨m2, hmin2, hsl2⟩ := few_facts (T := 23) (s := 1) (by kernel_rfl) sizeIs aoi I.length capi 20 20 rfl hc3
  go_enter Tryd.func7, Tryd.ntmps7
  go_wp2_with fail
  go_region
  go_wp2_with fail
  have hb : ∀ a b : Array Value, Below w.heap.size w ((w.alloc (.cells a 25)).alloc (.cells b 25)).drew := fun a b => (((Below.refl _ _).alloc (Nat.le_refl _) _).alloc (by simp) _).drew
  exact bodyPost_ret (v := .agg #[.int .i64 n, .slice ao (min E.length 300) cap, .slice aoi (min I.length 20) capi]) (by simp [results, Tryd.results7, go_sem]) rfl ⟨rfl, hb _ _⟩
end Go.Proofs.YtkcmeklgnbejiaaDoor.Gr
