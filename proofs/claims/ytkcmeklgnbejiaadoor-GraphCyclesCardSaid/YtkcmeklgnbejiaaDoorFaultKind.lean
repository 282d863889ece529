
/-
  PACKAGE fault's Kind and Is: what they answer of nil, of a chain of places that ends with a number, and of one that ends with a plain error.
-/
import Derived.Test.YtkcmeklgnbejiaaDoorFaultAs2
import Derived.Defers
import Derived.Recover
namespace Go.Proofs.YtkcmeklgnbejiaaDoor.Fault
open Go.RowKit Go.Extern.Stop Go.Stop Go.Extern
set_option linter.unusedVariables false

theorem catchKind (p : Addr) (w : World) :
    CallsD Tryd.prog 37 #[.pointer (some p)] .returning w fun e u' w' => e = .returned (.tuple #[]) ∧ u' = .returning ∧ w' = w := by
  refine callsD_of_wpS Tryd.func37 rfl fun c₀ cs hu => ?_
  apply wpS_seq
  apply wpS_region
  simp [wpOpsS, go_sem, recoverD, hu, Tryd.ntmps37, Exit.thenS]
  refine wpS_cond (t := false) (by simp [Act.eval, Array.replicate]) ?_
  simp only [Bool.false_eq_true, if_false]
  refine wpS_of_wp (wp_skip ?_)
  cases c₀
  simp_all [bodyPostS, results, Tryd.results37]

theorem catchIs (p : Addr) (w : World) :
    CallsD Tryd.prog 47 #[.pointer (some p)] .returning w fun e u' w' => e = .returned (.tuple #[]) ∧ u' = .returning ∧ w' = w := by
  refine callsD_of_wpS Tryd.func47 rfl fun c₀ cs hu => ?_
  apply wpS_seq
  apply wpS_region
  simp [wpOpsS, go_sem, recoverD, hu, Tryd.ntmps47, Exit.thenS]
  refine wpS_cond (t := false) (by simp [Act.eval, Array.replicate]) ?_
  simp only [Bool.false_eq_true, if_false]
  refine wpS_of_wp (wp_skip ?_)
  cases c₀
  simp_all [bodyPostS, results, Tryd.results47]

set_option maxRecDepth 1000000 in
theorem kind_nil (w : World) : Calls Tryd.prog 12 #[.nilIface] w fun e w' => e = .returned (.int .i64 0) ∧ Below w.heap.size w w' := by
  have hmf : ∀ (fn : Fn) (first cap : Array Value) (w : World), (Instr.makeFunc fn first cap).run Tryd.prog w = .ok (.func fn first cap) w := fun _ _ _ _ => rfl
  go_enter_defers Tryd.func12, Tryd.ntmps12
  go_wp2
  simp [bodyPostD, Leaves, results, Tryd.results12, go_sem]
  exact (Below.refl _ _).alloc (Nat.le_refl _) _

set_option maxRecDepth 1000000 in
set_option maxHeartbeats 1000000 in
theorem kind_errno {w : World} (k : Int) {E : Value} {l : List Pl} (hg : ErrType w) (hch : Chain w E l (errnoV k)) :
    Calls Tryd.prog 12 #[E] w fun e w' => e = .returned (.int .i64 k) ∧ Below w.heap.size w w' := by
  have hmf : ∀ (fn : Fn) (first cap : Array Value) (w : World), (Instr.makeFunc fn first cap).run Tryd.prog w = .ok (.func fn first cap) w := fun _ _ _ _ => rfl
  obtain ⟨u, x, rfl⟩ := ne_nil (.inl ⟨k, rfl⟩) hch
  have hb : Below w.heap.size w ((w.alloc (.cells #[.int .i64 0] 38)).alloc (.cells #[.int .i64 0] 38)) := ((Below.refl _ _).alloc (Nat.le_refl _) _).alloc (by simp) _
  have hg1 : ErrType ((w.alloc (.cells #[.int .i64 0] 38)).alloc (.cells #[.int .i64 0] 38)) := (hb.cell (p := ⟨0, 0, none⟩) (Lib.lt_of_cell hg)).trans hg
  have hC := Lib.hid (As_errno k ⟨w.heap.size + 1, 0, none⟩ (.int .i64 0) hg1 (hch.below hb) (by rw [World.cell?_alloc_at _ _ _ _ (by simp)]; rfl) (by simp))
  clear hg hch hb hg1
  go_enter_defers Tryd.func12, Tryd.ntmps12
  go_wp2_with fail
  go_at_call 38
  refine hC.out.mono ?_
  rintro e w1 ⟨rfl, rfl⟩
  unfold asW
  go_wp2_with fail
  refine leaves_cons (f := 37) (args := #[.pointer (some ⟨w.heap.size, 0, none⟩)]) (by simp) (by simp [go_sem]) ?_
  refine (catchKind ⟨w.heap.size, 0, none⟩ _).mono ?_
  rintro e u' w'' ⟨rfl, rfl, rfl⟩
  simp [Leaves, settle, results, Tryd.results12, go_sem]
  repeat (first | exact Below.refl _ _ | refine Below.alloc ?_ (by simp; try omega) _)
set_option maxRecDepth 1000000 in
set_option maxHeartbeats 1000000 in
theorem is_ok_nil {w : World}  :
    Calls Tryd.prog 20 #[.nilIface, .int .i64 0] w fun e w' => e = .returned (.bool true) ∧ Below w.heap.size w w' := by
  have hmf : ∀ (fn : Fn) (first cap : Array Value) (w : World), (Instr.makeFunc fn first cap).run Tryd.prog w = .ok (.func fn first cap) w := fun _ _ _ _ => rfl

  go_enter_defers Tryd.func20, Tryd.ntmps20
  go_wp2
  simp [bodyPostD, Leaves, results, Tryd.results20, go_sem]
  exact (Below.refl _ _).alloc (Nat.le_refl _) _


set_option maxRecDepth 1000000 in
set_option maxHeartbeats 1000000 in
theorem is_ok_chain {w : World} {E b : Value} {l : List Pl} (hb : IsBase b) (hch : Chain w E l b) :
    Calls Tryd.prog 20 #[E, .int .i64 0] w fun e w' => e = .returned (.bool false) ∧ Below w.heap.size w w' := by
  have hmf : ∀ (fn : Fn) (first cap : Array Value) (w : World), (Instr.makeFunc fn first cap).run Tryd.prog w = .ok (.func fn first cap) w := fun _ _ _ _ => rfl
  obtain ⟨u, x, rfl⟩ := ne_nil hb hch
  clear hch
  go_enter_defers Tryd.func20, Tryd.ntmps20
  go_wp2
  simp [bodyPostD, Leaves, results, Tryd.results20, go_sem]
  exact (Below.refl _ _).alloc (Nat.le_refl _) _


set_option maxRecDepth 1000000 in
set_option maxHeartbeats 1000000 in
theorem is_nil {w : World} (k : Int) (hk : (k == 0) = false) :
    Calls Tryd.prog 20 #[.nilIface, .int .i64 k] w fun e w' => e = .returned (.bool false) ∧ Below w.heap.size w w' := by
  have hmf : ∀ (fn : Fn) (first cap : Array Value) (w : World), (Instr.makeFunc fn first cap).run Tryd.prog w = .ok (.func fn first cap) w := fun _ _ _ _ => rfl
  have hC := Lib.hid (Is_nil (.int .i64 k) (w.alloc (.cells #[.bool false] 4)))
  go_enter_defers Tryd.func20, Tryd.ntmps20
  go_wp2_with fail
  go_at_call 48
  refine hC.out.mono ?_
  rintro e w1 ⟨rfl, rfl⟩
  go_wp2_with fail
  refine leaves_cons (f := 47) (args := #[.pointer (some ⟨w.heap.size, 0, none⟩)]) (by simp) (by simp [go_sem]) ?_
  refine (catchIs ⟨w.heap.size, 0, none⟩ _).mono ?_
  rintro e u' w'' ⟨rfl, rfl, rfl⟩
  simp [Leaves, settle, results, Tryd.results20, go_sem]
  exact (Below.refl _ _).alloc (Nat.le_refl _) _


set_option maxRecDepth 1000000 in
set_option maxHeartbeats 1000000 in
theorem is_errno_k {w : World} (k k' : Int) (hk : (k == 0) = false) {E : Value} {l : List Pl} (hch : Chain w E l (errnoV k')) :
    Calls Tryd.prog 20 #[E, .int .i64 k] w fun e w' => e = .returned (.bool (k' == k)) ∧ Below w.heap.size w w' := by
  have hmf : ∀ (fn : Fn) (first cap : Array Value) (w : World), (Instr.makeFunc fn first cap).run Tryd.prog w = .ok (.func fn first cap) w := fun _ _ _ _ => rfl
  have hC := Lib.hid (Is_errno k k' (hch.below (W' := w.alloc (.cells #[.bool false] 4)) ((Below.refl _ _).alloc (Nat.le_refl _) _)))
  obtain ⟨u, x, rfl⟩ := ne_nil (.inl ⟨k', rfl⟩) hch
  clear hch
  go_enter_defers Tryd.func20, Tryd.ntmps20
  go_wp2_with fail
  go_at_call 48
  refine hC.out.mono ?_
  rintro e w1 ⟨rfl, rfl⟩
  go_wp2_with fail
  refine leaves_cons (f := 47) (args := #[.pointer (some ⟨w.heap.size, 0, none⟩)]) (by simp) (by simp [go_sem]) ?_
  refine (catchIs ⟨w.heap.size, 0, none⟩ _).mono ?_
  rintro e u' w'' ⟨rfl, rfl, rfl⟩
  simp [Leaves, settle, results, Tryd.results20, go_sem]
  exact (Below.refl _ _).alloc (Nat.le_refl _) _


end Go.Proofs.YtkcmeklgnbejiaaDoor.Fault
