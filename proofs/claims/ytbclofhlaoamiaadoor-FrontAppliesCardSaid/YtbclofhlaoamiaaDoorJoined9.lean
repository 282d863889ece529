/-
  PACKAGE fault's Kind and Is: what they answer of nil, of a chain of places that ends with a number, and of one that ends with a plain error.
  PACKAGE marchlandref04: Of (marchlandref03), Right, Least, Apply, Fix.
-/
import Derived.Test.YtbclofhlaoamiaaDoorFaultAs2
import Derived.Defers
import Derived.Recover
import Derived.Test.YtbclofhlaoamiaaDoorBagMath
import Derived.Test.YtbclofhlaoamiaaDoorBatchRefRight
namespace Go.Proofs.YtbclofhlaoamiaaDoor.Fault
open Go.RowKit Go.Extern.Stop Go.Stop Go.Extern
set_option linter.unusedVariables false

theorem catchKind (p : Addr) (w : World) :
    CallsD Tryd.prog 33 #[.pointer (some p)] .returning w fun e u' w' => e = .returned (.tuple #[]) ∧ u' = .returning ∧ w' = w := by
  refine callsD_of_wpS Tryd.func33 rfl fun c₀ cs hu => ?_
  apply wpS_seq
  apply wpS_region
  simp [wpOpsS, go_sem, recoverD, hu, Tryd.ntmps33, Exit.thenS]
  refine wpS_cond (t := false) (by simp [Act.eval, Array.replicate]) ?_
  simp only [Bool.false_eq_true, if_false]
  refine wpS_of_wp (wp_skip ?_)
  cases c₀
  simp_all [bodyPostS, results, Tryd.results33]

set_option maxRecDepth 1000000 in
theorem kind_nil (w : World) : Calls Tryd.prog 19 #[.nilIface] w fun e w' => e = .returned (.int .i64 0) ∧ Below w.heap.size w w' := by
  have hmf : ∀ (fn : Fn) (first cap : Array Value) (w : World), (Instr.makeFunc fn first cap).run Tryd.prog w = .ok (.func fn first cap) w := fun _ _ _ _ => rfl
  go_enter_defers Tryd.func19, Tryd.ntmps19
  go_wp2
  simp [bodyPostD, Leaves, results, Tryd.results19, go_sem]
  exact (Below.refl _ _).alloc (Nat.le_refl _) _

set_option maxRecDepth 1000000 in
set_option maxHeartbeats 1000000 in
theorem kind_errno {w : World} (k : Int) {E : Value} {l : List Pl} (hg : ErrType w) (hch : Chain w E l (errnoV k)) :
    Calls Tryd.prog 19 #[E] w fun e w' => e = .returned (.int .i64 k) ∧ Below w.heap.size w w' := by
  have hmf : ∀ (fn : Fn) (first cap : Array Value) (w : World), (Instr.makeFunc fn first cap).run Tryd.prog w = .ok (.func fn first cap) w := fun _ _ _ _ => rfl
  obtain ⟨u, x, rfl⟩ := ne_nil (.inl ⟨k, rfl⟩) hch
  have hb : Below w.heap.size w ((w.alloc (.cells #[.int .i64 0] 47)).alloc (.cells #[.int .i64 0] 47)) := ((Below.refl _ _).alloc (Nat.le_refl _) _).alloc (by simp) _
  have hg1 : ErrType ((w.alloc (.cells #[.int .i64 0] 47)).alloc (.cells #[.int .i64 0] 47)) := (hb.cell (p := ⟨0, 0, none⟩) (Lib.lt_of_cell hg)).trans hg
  have hC := Lib.hid (As_errno k ⟨w.heap.size + 1, 0, none⟩ (.int .i64 0) hg1 (hch.below hb) (by rw [World.cell?_alloc_at _ _ _ _ (by simp)]; rfl) (by simp))
  clear hg hch hb hg1
  go_enter_defers Tryd.func19, Tryd.ntmps19
  go_wp2_with fail
  go_at_call 34
  refine hC.out.mono ?_
  rintro e w1 ⟨rfl, rfl⟩
  unfold asW
  go_wp2_with fail
  refine leaves_cons (f := 33) (args := #[.pointer (some ⟨w.heap.size, 0, none⟩)]) (by simp) (by simp [go_sem]) ?_
  refine (catchKind ⟨w.heap.size, 0, none⟩ _).mono ?_
  rintro e u' w'' ⟨rfl, rfl, rfl⟩
  simp [Leaves, settle, results, Tryd.results19, go_sem]
  repeat (first | exact Below.refl _ _ | refine Below.alloc ?_ (by simp; try omega) _)
end Go.Proofs.YtbclofhlaoamiaaDoor.Fault
namespace Go.Proofs.YtbclofhlaoamiaaDoor.Batch
open Go.RowKit Go.Lib
set_option linter.unusedVariables false

set_option maxRecDepth 1000000 in
set_option maxHeartbeats 4000000 in
theorem refof_any {w : World} {v : Value} {l : List Ch} (p t : Int) (hv : Rd w v l) (hr : l.Pairwise Lt) :
    Calls Tryd.prog 26 #[v, .int .i64 p, .int .u64 t] w fun e w' => e = .returned (.int .i64 (tot l p t)) ∧ Below w.heap.size w w' := by
  obtain ⟨ao, cap, rfl, hlc, hcm, _, hcell⟩ := hv
  have HC := Lib.hid hcell
  have HR := Lib.hid hr
  have hlen : l.length ≤ 9223372036854775807 := by omega
  clear hcell hlc hcm hr
  go_enter Tryd.func26, Tryd.ntmps26
  go_wp2
  go_loopg [7] l.length (fun k s wr => ∃ i : Nat, i + k = l.length ∧ s = .int .i64 i ∧ (∀ y ∈ l.take i, ¬ (y.p = p ∧ y.t = t)) ∧ wr = w)
  case atStart => exact ⟨0, by omega, rfl, by simp, rfl⟩
  case round =>
    obtain ⟨i, hik, rfl, hok, hwr⟩ := hrel
    subst wr
    have HIK := Lib.hid hik
    have HOK := Lib.hid hok
    clear hok hik
    by_cases hlt1 : i < l.length
    · obtain ⟨x, hx, hxm⟩ := at_of hlt1
      obtain ⟨b, off, hao, hcc⟩ := HC.out.resolve_left (by intro e; rw [e] at hlt1; simp at hlt1)
      subst hao
      obtain ⟨c0, c1, c2⟩ := hcc i x hx
      have HX := Lib.hid hx
      have HXM := Lib.hid hxm
      have hi0' : (0 : Int) ≤ (i : Int) := Int.natCast_nonneg _
      have hi1 : (i : Int) < (l.length : Int) := by omega
      have HLT := Lib.hid hlt1
      clear hx hxm hcc HC
      have HSTEP := Lib.hid (show ¬ (x.p = p ∧ x.t = t) → ∀ y ∈ l.take (i + 1), ¬ (y.p = p ∧ y.t = t) by
        intro hn y hy
        rw [take_succ' HX.out] at hy
        rcases List.mem_append.1 hy with hy | hy
        · exact HOK.out y hy
        · simp at hy; subst hy; exact hn)
      by_cases hp : x.p = p
      · have hpb : (x.p == p) = true := by rw [beq_iff_eq]; exact hp
        by_cases ht : x.t = t
        · have htb : (x.t == t) = true := by rw [beq_iff_eq]; exact ht
          have HT := Lib.hid (show tot l p t = x.d from tot_key HR.out HXM.out hp ht)
          obtain ⟨xp, xt, xd⟩ := x
          simp only at c0 c1 c2 hpb htb
          clear hp ht
          go_wp2_with fail
          try (go_quiet (fail))
          try (go_wp2_with fail)
          go_ret
          exact ⟨by rw [HT.out]; rfl, by first | exact Below.refl _ _ | exact below_drewN (Below.refl _ _) _⟩
        · have htb : (x.t == t) = false := by rw [beq_eq_false_iff_ne]; exact ht
          have HS := Lib.hid (HSTEP.out (fun h => ht h.2))
          obtain ⟨xp, xt, xd⟩ := x
          simp only at c0 c1 c2 hpb htb
          clear hp ht
          go_wp2_with fail
          go_roundg (gk - 1)
          case measure => have := HIK.out; have := HLT.out; omega
          case rel => exact ⟨i + 1, by have := HIK.out; have := HLT.out; omega, by go_num, HS.out, rfl⟩
      · have hpb : (x.p == p) = false := by rw [beq_eq_false_iff_ne]; exact hp
        have HS := Lib.hid (HSTEP.out (fun h => hp h.1))
        obtain ⟨xp, xt, xd⟩ := x
        simp only at c0 c1 c2 hpb
        clear hp
        go_wp2_with fail
        go_roundg (gk - 1)
        case measure => have := HIK.out; have := HLT.out; omega
        case rel => exact ⟨i + 1, by have := HIK.out; have := HLT.out; omega, by go_num, HS.out, rfl⟩
    · have HT := Lib.hid (show tot l p t = 0 from tot_none fun y hy => HOK.out y (by rw [take_all (by omega)]; exact hy))
      go_wp2_with fail
      go_ret
      exact ⟨by rw [HT.out]; rfl, Below.refl _ _⟩

end Go.Proofs.YtbclofhlaoamiaaDoor.Batch
