/-
  THE LIBRARY's errors.As along a chain of errors at places that ends with a number: true, and the target holds that number; and errors.As itself, at both ends of a chain.
-/
import Derived.Test.YtbclofhlaoamiaaDoorFaultAs
namespace Go.Proofs.YtbclofhlaoamiaaDoor.Fault
open Go.RowKit Go.Extern.Stop Go.Stop Go.Extern
set_option linter.unusedVariables false

set_option maxRecDepth 1000000 in
set_option maxHeartbeats 4000000 in
theorem as_errno {W : World} (k : Int) (t pv : Addr) (old : Value) (E : Value) (l : List Pl) (hch : Chain W E l (errnoV k))
    (hpv : W.cell? pv = some (.pointer (some t))) (ht : W.cell? t = some old) (hf : W.frozen? t = false) :
    Calls Tryd.prog 50 #[E, .iface 82 (.pointer (some t)), tgtV pv, rtE] W fun e w' => e = .returned (.bool true) ∧ w' = ((W.alloc (boxV pv)).alloc (.cells #[.int .i64 k] 47)).setCell t (.int .i64 k) := by
  have h40 := @run_callFunc_extern Tryd.prog 64 _ Extern.ReflectliteType.typeOf Tryd.func64 (by kernel_rfl) (by kernel_rfl) (by kernel_rfl) (by kernel_rfl)
  have h98 := @run_callFunc_extern Tryd.prog 94 _ (ReflectliteType.relation "AssignableTo" ReflectliteType.assignableTo) Tryd.func94 (by kernel_rfl) (by kernel_rfl) (by kernel_rfl) (by kernel_rfl)
  have h42 := @run_callFunc_extern Tryd.prog 47 _ (fun args => ReflectliteValue.unpack (args.getD 0 (.tuple #[]))) Tryd.func47 (by kernel_rfl) (by kernel_rfl) (by kernel_rfl) (by kernel_rfl)
  have h51 := @run_callFunc_extern Tryd.prog 65 _ (ReflectliteValue.method (ReflectliteValue.valueError "reflectlite.Value.Elem" 0) ReflectliteValue.elem) Tryd.func65 (by kernel_rfl) (by kernel_rfl) (by kernel_rfl) (by kernel_rfl)
  have h52 := @run_callFunc_extern Tryd.prog 66 _ ReflectliteValue.set Tryd.func66 (by kernel_rfl) (by kernel_rfl) (by kernel_rfl) (by kernel_rfl)
  have mA := methodAssignableTo
  have tP := isTypeOfP
  have tE := isTypeOfE
  have aP := assignPE
  have aE := assignEE
  have vE := valueOfE k
  have nP := noAsP
  have uP := hasUnP
  have mU := methodUnwrap
  have hB := Lib.hid (show IsBase (errnoV k) from .inl ⟨k, rfl⟩)
  have hch1 := hch.below (W' := W.alloc (boxV pv)) ((Below.refl _ _).alloc (Nat.le_refl _) _)
  have HW := Lib.hid hch1
  have lpv := Lib.lt_of_cell hpv
  have lt := Lib.lt_of_cell ht
  have p1 : (W.alloc (boxV pv)).cell? pv = some (.pointer (some t)) := by rw [World.cell?_alloc_lt _ _ pv lpv]; exact hpv
  have p2 : (W.alloc (boxV pv)).cell? t = some old := by rw [World.cell?_alloc_lt _ _ t lt]; exact ht
  have p3 : (W.alloc (boxV pv)).frozen? t = false := by rw [World.frozen?_alloc_old _ _ t (Nat.ne_of_lt lt)]; exact hf
  have b0 : (W.alloc (boxV pv)).cell? ⟨W.heap.size, 0, none⟩ = some (.pointer (some ⟨1, 82, none⟩)) := by simp [boxV]
  have b1 : (W.alloc (boxV pv)).cell? ⟨W.heap.size, 1, none⟩ = some (.pointer (some pv)) := by simp [boxV]
  have b2 : (W.alloc (boxV pv)).cell? ⟨W.heap.size, 2, none⟩ = some (.int .u64 150) := by simp [boxV]
  have s1 : t.block < (W.alloc (boxV pv)).heap.size := by simp; omega
  have HP := Lib.hid (And.intro p1 (And.intro p2 (And.intro p3 (And.intro b0 (And.intro b1 (And.intro b2 s1))))))
  clear hch hch1 hpv ht hf lpv lt p1 p2 p3 b0 b1 b2 s1
  go_enter Tryd.func50, Tryd.ntmps50
  go_wp2
  obtain ⟨W1, hW1⟩ : ∃ W1, W1 = W.alloc (boxV pv) := ⟨_, rfl⟩
  have HW1 := HW.out
  have HP1 := HP.out
  rw [← hW1] at HW1 HP1 ⊢
  have hcon := Lib.hid hW1
  have hch1 := Lib.hid HW1
  have HP2 := Lib.hid HP1
  clear hW1 HW1 HW HP HP1
  go_loopw [0] (fun E' wl => wl = W1 ∧ ∃ l', Chain W1 E' l' (errnoV k)) (fun E' _ => chainLen W1 E')
  case atStart => exact ⟨rfl, l, hch1.out⟩
  case round =>
    obtain ⟨rfl, l', hc'⟩ := hrel
    cases l' with
    | nil =>
      obtain rfl : _ = (errnoV k) := hc'
      obtain ⟨q1, q2, q3, q4, q5, q6, q7⟩ := HP2.out
      have el := elemV pv t wr q1
      have st := setE t ⟨wr.heap.size, 0, none⟩ k old (wr.alloc (.cells #[.int .i64 k] 47)) (by simp) (by rw [World.cell?_alloc_lt _ _ t q7]; exact q2) (by rw [World.frozen?_alloc_old _ _ t (Nat.ne_of_lt q7)]; exact q3)
      clear q1 q2 q3 q7
      go_wp2
      go_ret
      refine ⟨rfl, ?_⟩
      rw [← hcon.out]
    | cons x r =>
      obtain ⟨s, n⟩ := x
      have hlen0 := chainLen_eq hB.out hc'
      obtain ⟨blk, v', rfl, h0, h1, h2, hr⟩ := hc'
      have hlen := chainLen_eq hB.out hr
      have HC := Lib.hid hr
      have HL := Lib.hid hlen
      have HL0 := Lib.hid hlen0
      have hne : ∃ u x, v' = .iface u x := by
        cases r with
        | nil => exact ⟨_, _, hr⟩
        | cons y r' => obtain ⟨_, _, e, _⟩ := hr; exact ⟨_, _, e⟩
      obtain ⟨u1, x1, rfl⟩ := hne
      clear hr hlen hlen0 h1 h2
      go_wp2
      go_roundw
      case rel => exact ⟨trivial, r, HC.out⟩
      case measure =>
        show chainLen _ (.iface u1 x1) < _
        rw [HL.out, HL0.out]; simp

/-! ### errors.As -/
abbrev ptrObj (t : Addr) : Obj := .cells #[.pointer (some t)] 82
def asW (W : World) (t : Addr) : World := (((W.alloc (ptrObj t)).alloc (boxV ⟨W.heap.size, 0, none⟩)).alloc (boxV ⟨W.heap.size, 0, none⟩))
/-- What the variable errors.errorType holds. -/
def ErrType (W : World) : Prop := W.cell? ⟨0, 0, none⟩ = some (.iface 120 (.agg #[.pointer (some ⟨1, 30, none⟩)]))

set_option maxRecDepth 1000000 in
set_option maxHeartbeats 4000000 in
theorem As_of {W : World} (t : Addr) (u : TypeId) (x : Value) (r : Bool) (Wf : World) (hg0 : ErrType W)
    (hcon : Calls Tryd.prog 50 #[.iface u x, .iface 82 (.pointer (some t)), tgtV ⟨W.heap.size, 0, none⟩, rtE] ((W.alloc (ptrObj t)).alloc (boxV ⟨W.heap.size, 0, none⟩)) fun e w' => e = .returned (.bool r) ∧ w' = Wf) :
    Calls Tryd.prog 34 #[.iface u x, .iface 82 (.pointer (some t))] W fun e w' => e = .returned (.bool r) ∧ w' = Wf := by
  have h6 := @run_callFunc_extern Tryd.prog 47 _ (fun args => ReflectliteValue.unpack (args.getD 0 (.tuple #[]))) Tryd.func47 (by kernel_rfl) (by kernel_rfl) (by kernel_rfl) (by kernel_rfl)
  have h7 := @run_callFunc_extern Tryd.prog 48 _ (ReflectliteValue.methodAny (ReflectliteValue.valueError "reflectlite.Value.Type" 0) (fun t _ _ _ => ReflectliteType.toType t)) Tryd.func48 (by kernel_rfl) (by kernel_rfl) (by kernel_rfl) (by kernel_rfl)
  have h8 := @run_callFunc_extern Tryd.prog 49 _ (ReflectliteValue.method (ReflectliteValue.valueError "reflectlite.Value.IsNil" 0) ReflectliteValue.isNil) Tryd.func49 (by kernel_rfl) (by kernel_rfl) (by kernel_rfl) (by kernel_rfl)
  have h27 := @run_callFunc_extern Tryd.prog 86 _ (ReflectliteType.abiMethod fun t => do pure (.int .u8 (← Rtype.kind t))) Tryd.func86 (by kernel_rfl) (by kernel_rfl) (by kernel_rfl) (by kernel_rfl)
  have h37 := @run_callFunc_extern Tryd.prog 96 _ (ReflectliteType.method ReflectliteType.elem) Tryd.func96 (by kernel_rfl) (by kernel_rfl) (by kernel_rfl) (by kernel_rfl)
  have h38 := @run_callFunc_extern Tryd.prog 97 _ (ReflectliteType.relation "Implements" ReflectliteType.implements_) Tryd.func97 (by kernel_rfl) (by kernel_rfl) (by kernel_rfl) (by kernel_rfl)
  have f6 := valueOfPE
  have f7 := typePE
  have mK := methodKind
  have mE := methodElem
  have mI := methodImplements
  have k27 := kindPE
  have k25 := kindE
  have e27 := elemPE
  have i25 := implementsE
  have n8 := isNilPE ⟨W.heap.size, 0, none⟩ t ((W.alloc (ptrObj t)).alloc (boxV ⟨W.heap.size, 0, none⟩)) (by rw [World.cell?_alloc_lt _ _ ⟨W.heap.size, 0, none⟩ (by simp)]; simp)
  have hg : W.cell? ⟨0, 0, none⟩ = some (.iface 120 (.agg #[.pointer (some ⟨1, 30, none⟩)])) := hg0
  have hlt := Lib.lt_of_cell hg
  have hg2 : ((W.alloc (ptrObj t)).alloc (boxV ⟨W.heap.size, 0, none⟩)).cell? ⟨0, 0, none⟩ = some (.iface 120 (.agg #[.pointer (some ⟨1, 30, none⟩)])) := by
    rw [World.cell?_alloc_lt _ _ ⟨0, 0, none⟩ (by first | (simp; done) | (simp; omega)), World.cell?_alloc_lt _ _ ⟨0, 0, none⟩ hlt]; exact hg
  have HC := Lib.hid hcon
  clear hcon hg0
  go_enter Tryd.func34, Tryd.ntmps34
  go_wp2_with (first | (go_at_call 50; refine HC.out.mono ?_; rintro e w' ⟨rfl, rfl⟩) | go_in)
  go_ret
  exact ⟨rfl, rfl⟩

theorem As_errno {W : World} (k : Int) (t : Addr) (old : Value) {E : Value} {l : List Pl} (hg0 : ErrType W) (hch : Chain W E l (errnoV k)) (ht : W.cell? t = some old) (hf : W.frozen? t = false) :
    Calls Tryd.prog 34 #[E, .iface 82 (.pointer (some t))] W fun e w' => e = .returned (.bool true) ∧ w' = ((asW W t).alloc (.cells #[.int .i64 k] 47)).setCell t (.int .i64 k) := by
  obtain ⟨u, x, rfl⟩ := ne_nil (.inl ⟨k, rfl⟩) hch
  have lt := Lib.lt_of_cell ht
  exact As_of t u x true _ hg0 (as_errno k t _ old _ l (hch.below (((Below.refl _ _).alloc (Nat.le_refl _) _).alloc (by simp) _))
    (by rw [World.cell?_alloc_lt _ _ ⟨W.heap.size, 0, none⟩ (by simp)]; simp)
    (by rw [World.cell?_alloc_lt _ _ t (by simp; omega), World.cell?_alloc_lt _ _ t lt]; exact ht)
    (by rw [World.frozen?_alloc_old _ _ t (by simp; omega), World.frozen?_alloc_old _ _ t (Nat.ne_of_lt lt)]; exact hf))
end Go.Proofs.YtbclofhlaoamiaaDoor.Fault
