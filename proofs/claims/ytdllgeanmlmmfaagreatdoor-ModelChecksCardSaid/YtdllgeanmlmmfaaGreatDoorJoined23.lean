/-
  THE LIBRARY's errors.As along a chain of errors at places, the target a variable of the document's own number type: it finds the number at the chain's end; of a plain error it finds none.
  THE LIBRARY's errors.As along a chain of errors at places that ends with a number: true, and the target holds that number; and errors.As itself, at both ends of a chain.
-/
import Derived.Test.YtdllgeanmlmmfaaGreatDoorJoined10
namespace Go.Proofs.YtdllgeanmlmmfaaGreatDoor.Fault
open Go.RowKit Go.Extern.Stop Go.Stop Go.Extern
set_option linter.unusedVariables false

/-! ### closed facts on the model's entries for internal/reflectlite, at this program's types (after the worked example's manner) -/
theorem valueOfPE (t : Addr) (w : World) : (ReflectliteValue.unpack (.iface 88 (.pointer (some t)))).run Tryz.prog w
    = .ok (.agg #[.pointer (some ⟨4, 88, none⟩), .pointer (some ⟨w.heap.size, 0, none⟩), .int .u64 150]) (w.alloc (.cells #[.pointer (some t)] 88)) := by kernel_rfl
theorem valueOfE (k : Int) (w : World) : (ReflectliteValue.unpack (.iface 44 (.int .i64 k))).run Tryz.prog w
    = .ok (.agg #[.pointer (some ⟨4, 44, none⟩), .pointer (some ⟨w.heap.size, 0, none⟩), .int .u64 130]) (w.alloc (.cells #[.int .i64 k] 44)) := by kernel_rfl
theorem typePE (a : Addr) (w : World) : (ReflectliteValue.methodAny (ReflectliteValue.valueError "reflectlite.Value.Type" 0) (fun t _ _ _ => ReflectliteType.toType t) #[.agg #[.pointer (some ⟨4, 88, none⟩), .pointer (some a), .int .u64 150]]).run Tryz.prog w
    = .ok (.iface 177 (.agg #[.pointer (some ⟨4, 88, none⟩)])) w := by kernel_rfl
theorem methodKind (x : Value) (w : World) : (Go.method 404 177 (.agg #[x]) "Kind").run Tryz.prog w = .ok (198, x) w := by kernel_rfl
theorem kindPE (w : World) : ((ReflectliteType.abiMethod fun t => (fun a : Nat => Value.int IntKind.u8 (a : Int)) <$> Rtype.kind t) #[.pointer (some ⟨4, 88, none⟩)]).run Tryz.prog w = .ok (.int .u8 22) w := by kernel_rfl
theorem kindE (w : World) : ((ReflectliteType.abiMethod fun t => (fun a : Nat => Value.int IntKind.u8 (a : Int)) <$> Rtype.kind t) #[.pointer (some ⟨4, 44, none⟩)]).run Tryz.prog w = .ok (.int .u8 2) w := by kernel_rfl
theorem rlm (z : Sem Value) (f : TypeId → Addr → Nat → Nat → Sem Value) (v : Value) :
    ReflectliteValue.method z f #[v] = (do match ← ReflectliteValue.parts v with | none => z | some (t, a, fl) => f t a fl (fl % 32)) := rfl
theorem partsPE (a : Addr) (w : World) : (ReflectliteValue.parts (.agg #[.pointer (some ⟨4, 88, none⟩), .pointer (some a), .int .u64 150])).run Tryz.prog w = .ok (some (88, a, 150)) w := by kernel_rfl
theorem isNilPE (a p : Addr) (W : World) (ha : W.cell? a = some (.pointer (some p))) :
    (ReflectliteValue.method (ReflectliteValue.valueError "reflectlite.Value.IsNil" 0) ReflectliteValue.isNil #[.agg #[.pointer (some ⟨4, 88, none⟩), .pointer (some a), .int .u64 150]]).run Tryz.prog W = .ok (.bool false) W := by
  rw [rlm]
  simp only [Sem.run_bind, partsPE, Result.andThen]
  simp [ReflectliteValue.isNil, loadVar, isAgg, underlying, Tryz.underlying88, ha, Result.andThen]
theorem methodElem (x : Value) (w : World) : (Go.method 404 177 (.agg #[x]) "Elem").run Tryz.prog w = .ok (210, .agg #[x]) w := by kernel_rfl
theorem methodImplements (x : Value) (w : World) : (Go.method 404 177 (.agg #[x]) "Implements").run Tryz.prog w = .ok (211, .agg #[x]) w := by kernel_rfl
theorem methodAssignableTo (x : Value) (w : World) : (Go.method 404 177 (.agg #[x]) "AssignableTo").run Tryz.prog w = .ok (208, .agg #[x]) w := by kernel_rfl
theorem elemPE (w : World) : (ReflectliteType.method ReflectliteType.elem #[.agg #[.pointer (some ⟨4, 88, none⟩)]]).run Tryz.prog w = .ok (.iface 177 (.agg #[.pointer (some ⟨4, 44, none⟩)])) w := by kernel_rfl
theorem implementsE (w : World) : (ReflectliteType.relation "Implements" ReflectliteType.implements_ #[.agg #[.pointer (some ⟨4, 44, none⟩)], .iface 177 (.agg #[.pointer (some ⟨4, 29, none⟩)])]).run Tryz.prog w = .ok (.bool true) w := by kernel_rfl
theorem isTypeOfP (v : Value) (w : World) : (ReflectliteType.typeOf #[.iface 123 v]).run Tryz.prog w = .ok (.iface 177 (.agg #[.pointer (some ⟨4, 123, none⟩)])) w := by kernel_rfl
theorem assignEE (w : World) : (ReflectliteType.relation "AssignableTo" ReflectliteType.assignableTo #[.agg #[.pointer (some ⟨4, 44, none⟩)], .iface 177 (.agg #[.pointer (some ⟨4, 44, none⟩)])]).run Tryz.prog w = .ok (.bool true) w := by kernel_rfl
theorem assignPE (w : World) : (ReflectliteType.relation "AssignableTo" ReflectliteType.assignableTo #[.agg #[.pointer (some ⟨4, 123, none⟩)], .iface 177 (.agg #[.pointer (some ⟨4, 44, none⟩)])]).run Tryz.prog w = .ok (.bool false) w := by kernel_rfl
theorem assignSE (w : World) : (ReflectliteType.relation "AssignableTo" ReflectliteType.assignableTo #[.agg #[.pointer (some ⟨4, 16, none⟩)], .iface 177 (.agg #[.pointer (some ⟨4, 44, none⟩)])]).run Tryz.prog w = .ok (.bool false) w := by kernel_rfl
theorem elemOfPE (w : World) : (Rtype.elem? 88).run Tryz.prog w = .ok (some 44) w := by kernel_rfl
theorem mkE (p : Addr) (w : World) : (ReflectliteValue.mk 44 p ReflectliteValue.flagAddr).run Tryz.prog w = .ok (.agg #[.pointer (some ⟨4, 44, none⟩), .pointer (some p), .int .u64 386]) w := by kernel_rfl
theorem elemV (a p : Addr) (W : World) (ha : W.cell? a = some (.pointer (some p))) :
    (ReflectliteValue.method (ReflectliteValue.valueError "reflectlite.Value.Elem" 0) ReflectliteValue.elem #[.agg #[.pointer (some ⟨4, 88, none⟩), .pointer (some a), .int .u64 150]]).run Tryz.prog W
      = .ok (.agg #[.pointer (some ⟨4, 44, none⟩), .pointer (some p), .int .u64 386]) W := by
  rw [rlm]
  simp only [Sem.run_bind, partsPE, Result.andThen]
  simp [ReflectliteValue.elem, loadVar, isAgg, underlying, Tryz.underlying88, ha, Result.andThen, elemOfPE, mkE]
theorem rls (v x : Value) : ReflectliteValue.set #[v, x] = (do
    let (some (dst, a, fl), some (src, b, _)) := (← ReflectliteValue.parts v, ← ReflectliteValue.parts x)
      | unsupported (.noEntry "extern/(internal/reflectlite.Value).Set.zeroValue")
    if fl / ReflectliteValue.flagAddr % 2 == 0 then unsupported (.noEntry "extern/(internal/reflectlite.Value).Set.unaddressable")
    let val ← loadVar src b
    if ← Rtype.directlyAssignable dst src then storeVar dst a val
    else if ← Rtype.implements dst src then
      if (← Rtype.kind src) == 20 then
        match val with
        | .nilIface => unsupported (.noEntry "extern/reflectlite: a nil value of one interface type handed on as a value of another")
        | _ => storeVar dst a val
      else storeVar dst a (.iface src val)
    else panicString ("reflectlite.Set: value of type " ++ (← Rtype.spelt src) ++ " is not assignable to type " ++ (← Rtype.spelt dst))
    pure (.tuple #[])) := rfl
theorem partsEa (a : Addr) (w : World) : (ReflectliteValue.parts (.agg #[.pointer (some ⟨4, 44, none⟩), .pointer (some a), .int .u64 386])).run Tryz.prog w = .ok (some (44, a, 386)) w := by kernel_rfl
theorem partsE (a : Addr) (w : World) : (ReflectliteValue.parts (.agg #[.pointer (some ⟨4, 44, none⟩), .pointer (some a), .int .u64 130])).run Tryz.prog w = .ok (some (44, a, 130)) w := by kernel_rfl
theorem directE (w : World) : (Rtype.directlyAssignable 44 44).run Tryz.prog w = .ok true w := by kernel_rfl
theorem setE (ta b : Addr) (k : Int) (old : Value) (W : World) (hb : W.cell? b = some (.int .i64 k)) (ht : W.cell? ta = some old) (hf : W.frozen? ta = false) :
    (ReflectliteValue.set #[.agg #[.pointer (some ⟨4, 44, none⟩), .pointer (some ta), .int .u64 386], .agg #[.pointer (some ⟨4, 44, none⟩), .pointer (some b), .int .u64 130]]).run Tryz.prog W
      = .ok (.tuple #[]) (W.setCell ta (.int .i64 k)) := by
  rw [rls]
  simp only [Sem.run_bind, partsEa, partsE, Result.andThen]
  simp [ReflectliteValue.flagAddr, loadVar, isAgg, underlying, Tryz.underlying44, hb, Result.andThen, directE, storeVar, Value.cells, storeCells, Addr.add]
  rw [run_store Tryz.prog W ta _ _ (by rfl)]
  simp [ht, hf]

theorem noAsP (v : Value) (xT : TypeId) (w : World) : (Instr.typeAssert (.iface 123 v) xT 182 true).run Tryz.prog w = .ok (.tuple #[.nilIface, .bool false]) w := run_typeAssert_lacksB Tryz.underlying182 (by kernel_rfl) (by kernel_rfl) v xT w
theorem noAsS (v : Value) (xT : TypeId) (w : World) : (Instr.typeAssert (.iface 16 v) xT 182 true).run Tryz.prog w = .ok (.tuple #[.nilIface, .bool false]) w := run_typeAssert_lacksB Tryz.underlying182 (by kernel_rfl) (by kernel_rfl) v xT w
theorem noAsE (v : Value) (xT : TypeId) (w : World) : (Instr.typeAssert (.iface 44 v) xT 182 true).run Tryz.prog w = .ok (.tuple #[.nilIface, .bool false]) w := run_typeAssert_lacksB Tryz.underlying182 (by kernel_rfl) (by kernel_rfl) v xT w

/-- What the target is, as a value of reflectlite's. -/
abbrev tgtV (pv : Addr) : Value := .agg #[.pointer (some ⟨4, 88, none⟩), .pointer (some pv), .int .u64 150]
abbrev rtE : Value := .iface 177 (.agg #[.pointer (some ⟨4, 44, none⟩)])
abbrev boxV (pv : Addr) : Obj := .cells #[.pointer (some ⟨4, 88, none⟩), .pointer (some pv), .int .u64 150] 136

end Go.Proofs.YtdllgeanmlmmfaaGreatDoor.Fault
namespace Go.Proofs.YtdllgeanmlmmfaaGreatDoor.Fault
open Go.RowKit Go.Extern.Stop Go.Stop Go.Extern
set_option linter.unusedVariables false

set_option maxRecDepth 1000000 in
set_option maxHeartbeats 4000000 in
theorem as_errno {W : World} (k : Int) (t pv : Addr) (old : Value) (E : Value) (l : List Pl) (hch : Chain W E l (errnoV k))
    (hpv : W.cell? pv = some (.pointer (some t))) (ht : W.cell? t = some old) (hf : W.frozen? t = false) :
    Calls Tryz.prog 66 #[E, .iface 88 (.pointer (some t)), tgtV pv, rtE] W fun e w' => e = .returned (.bool true) ∧ w' = ((W.alloc (boxV pv)).alloc (.cells #[.int .i64 k] 44)).setCell t (.int .i64 k) := by
  have h40 := @run_callFunc_extern Tryz.prog 93 _ Extern.ReflectliteType.typeOf Tryz.func93 (by kernel_rfl) (by kernel_rfl) (by kernel_rfl) (by kernel_rfl)
  have h98 := @run_callFunc_extern Tryz.prog 208 _ (ReflectliteType.relation "AssignableTo" ReflectliteType.assignableTo) Tryz.func208 (by kernel_rfl) (by kernel_rfl) (by kernel_rfl) (by kernel_rfl)
  have h42 := @run_callFunc_extern Tryz.prog 63 _ (fun args => ReflectliteValue.unpack (args.getD 0 (.tuple #[]))) Tryz.func63 (by kernel_rfl) (by kernel_rfl) (by kernel_rfl) (by kernel_rfl)
  have h51 := @run_callFunc_extern Tryz.prog 94 _ (ReflectliteValue.method (ReflectliteValue.valueError "reflectlite.Value.Elem" 0) ReflectliteValue.elem) Tryz.func94 (by kernel_rfl) (by kernel_rfl) (by kernel_rfl) (by kernel_rfl)
  have h52 := @run_callFunc_extern Tryz.prog 95 _ ReflectliteValue.set Tryz.func95 (by kernel_rfl) (by kernel_rfl) (by kernel_rfl) (by kernel_rfl)
  have mA := methodAssignableTo
  have tP := isTypeOfP
  have tE := isTypeOfE
  have aP := assignPE
  have aE := assignEE
  have vE := valueOfE k
  have nP := noAsP
  have uP := hasUnP
  have mU := methodUnwrap
  have hB := Lib.hid (show IsBase (errnoV k) from .inl ⟨k, rfl⟩)
  have hch1 := hch.below (W' := W.alloc (boxV pv)) ((Below.refl _ _).alloc (Nat.le_refl _) _)
  have HW := Lib.hid hch1
  have lpv := Lib.lt_of_cell hpv
  have lt := Lib.lt_of_cell ht
  have p1 : (W.alloc (boxV pv)).cell? pv = some (.pointer (some t)) := by rw [World.cell?_alloc_lt _ _ pv lpv]; exact hpv
  have p2 : (W.alloc (boxV pv)).cell? t = some old := by rw [World.cell?_alloc_lt _ _ t lt]; exact ht
  have p3 : (W.alloc (boxV pv)).frozen? t = false := by rw [World.frozen?_alloc_old _ _ t (Nat.ne_of_lt lt)]; exact hf
  have b0 : (W.alloc (boxV pv)).cell? ⟨W.heap.size, 0, none⟩ = some (.pointer (some ⟨4, 88, none⟩)) := by simp [boxV]
  have b1 : (W.alloc (boxV pv)).cell? ⟨W.heap.size, 1, none⟩ = some (.pointer (some pv)) := by simp [boxV]
  have b2 : (W.alloc (boxV pv)).cell? ⟨W.heap.size, 2, none⟩ = some (.int .u64 150) := by simp [boxV]
  have s1 : t.block < (W.alloc (boxV pv)).heap.size := by simp; omega
  have HP := Lib.hid (And.intro p1 (And.intro p2 (And.intro p3 (And.intro b0 (And.intro b1 (And.intro b2 s1))))))
  clear hch hch1 hpv ht hf lpv lt p1 p2 p3 b0 b1 b2 s1
  go_enter Tryz.func66, Tryz.ntmps66
  go_wp2
  obtain ⟨W1, hW1⟩ : ∃ W1, W1 = W.alloc (boxV pv) := ⟨_, rfl⟩
  have HW1 := HW.out
  have HP1 := HP.out
  rw [← hW1] at HW1 HP1 ⊢
  have hcon := Lib.hid hW1
  have hch1 := Lib.hid HW1
  have HP2 := Lib.hid HP1
  clear hW1 HW1 HW HP HP1
  go_loopw [0] (fun E' wl => wl = W1 ∧ ∃ l', Chain W1 E' l' (errnoV k)) (fun E' _ => chainLen W1 E')
  case atStart => exact ⟨rfl, l, hch1.out⟩
  case round =>
    obtain ⟨rfl, l', hc'⟩ := hrel
    cases l' with
    | nil =>
      obtain rfl : _ = (errnoV k) := hc'
      obtain ⟨q1, q2, q3, q4, q5, q6, q7⟩ := HP2.out
      have el := elemV pv t wr q1
      have st := setE t ⟨wr.heap.size, 0, none⟩ k old (wr.alloc (.cells #[.int .i64 k] 44)) (by simp) (by rw [World.cell?_alloc_lt _ _ t q7]; exact q2) (by rw [World.frozen?_alloc_old _ _ t (Nat.ne_of_lt q7)]; exact q3)
      clear q1 q2 q3 q7
      go_wp2
      go_ret
      refine ⟨rfl, ?_⟩
      rw [← hcon.out]
    | cons x r =>
      obtain ⟨s, n⟩ := x
      have hlen0 := chainLen_eq hB.out hc'
      obtain ⟨blk, v', rfl, h0, h1, h2, hr⟩ := hc'
      have hlen := chainLen_eq hB.out hr
      have HC := Lib.hid hr
      have HL := Lib.hid hlen
      have HL0 := Lib.hid hlen0
      have hne : ∃ u x, v' = .iface u x := by
        cases r with
        | nil => exact ⟨_, _, hr⟩
        | cons y r' => obtain ⟨_, _, e, _⟩ := hr; exact ⟨_, _, e⟩
      obtain ⟨u1, x1, rfl⟩ := hne
      clear hr hlen hlen0 h1 h2
      go_wp2
      go_roundw
      case rel => exact ⟨trivial, r, HC.out⟩
      case measure =>
        show chainLen _ (.iface u1 x1) < _
        rw [HL.out, HL0.out]; simp

/-! ### errors.As -/
abbrev ptrObj (t : Addr) : Obj := .cells #[.pointer (some t)] 88
def asW (W : World) (t : Addr) : World := (((W.alloc (ptrObj t)).alloc (boxV ⟨W.heap.size, 0, none⟩)).alloc (boxV ⟨W.heap.size, 0, none⟩))
/-- What the variable errors.errorType holds. -/
def ErrType (W : World) : Prop := W.cell? ⟨0, 0, none⟩ = some (.iface 177 (.agg #[.pointer (some ⟨4, 29, none⟩)]))

set_option maxRecDepth 1000000 in
set_option maxHeartbeats 4000000 in
theorem As_of {W : World} (t : Addr) (u : TypeId) (x : Value) (r : Bool) (Wf : World) (hg0 : ErrType W)
    (hcon : Calls Tryz.prog 66 #[.iface u x, .iface 88 (.pointer (some t)), tgtV ⟨W.heap.size, 0, none⟩, rtE] ((W.alloc (ptrObj t)).alloc (boxV ⟨W.heap.size, 0, none⟩)) fun e w' => e = .returned (.bool r) ∧ w' = Wf) :
    Calls Tryz.prog 33 #[.iface u x, .iface 88 (.pointer (some t))] W fun e w' => e = .returned (.bool r) ∧ w' = Wf := by
  have h6 := @run_callFunc_extern Tryz.prog 63 _ (fun args => ReflectliteValue.unpack (args.getD 0 (.tuple #[]))) Tryz.func63 (by kernel_rfl) (by kernel_rfl) (by kernel_rfl) (by kernel_rfl)
  have h7 := @run_callFunc_extern Tryz.prog 64 _ (ReflectliteValue.methodAny (ReflectliteValue.valueError "reflectlite.Value.Type" 0) (fun t _ _ _ => ReflectliteType.toType t)) Tryz.func64 (by kernel_rfl) (by kernel_rfl) (by kernel_rfl) (by kernel_rfl)
  have h8 := @run_callFunc_extern Tryz.prog 65 _ (ReflectliteValue.method (ReflectliteValue.valueError "reflectlite.Value.IsNil" 0) ReflectliteValue.isNil) Tryz.func65 (by kernel_rfl) (by kernel_rfl) (by kernel_rfl) (by kernel_rfl)
  have h27 := @run_callFunc_extern Tryz.prog 198 _ (ReflectliteType.abiMethod fun t => do pure (.int .u8 (← Rtype.kind t))) Tryz.func198 (by kernel_rfl) (by kernel_rfl) (by kernel_rfl) (by kernel_rfl)
  have h37 := @run_callFunc_extern Tryz.prog 210 _ (ReflectliteType.method ReflectliteType.elem) Tryz.func210 (by kernel_rfl) (by kernel_rfl) (by kernel_rfl) (by kernel_rfl)
  have h38 := @run_callFunc_extern Tryz.prog 211 _ (ReflectliteType.relation "Implements" ReflectliteType.implements_) Tryz.func211 (by kernel_rfl) (by kernel_rfl) (by kernel_rfl) (by kernel_rfl)
  have f6 := valueOfPE
  have f7 := typePE
  have mK := methodKind
  have mE := methodElem
  have mI := methodImplements
  have k27 := kindPE
  have k25 := kindE
  have e27 := elemPE
  have i25 := implementsE
  have n8 := isNilPE ⟨W.heap.size, 0, none⟩ t ((W.alloc (ptrObj t)).alloc (boxV ⟨W.heap.size, 0, none⟩)) (by rw [World.cell?_alloc_lt _ _ ⟨W.heap.size, 0, none⟩ (by simp)]; simp)
  have hg : W.cell? ⟨0, 0, none⟩ = some (.iface 177 (.agg #[.pointer (some ⟨4, 29, none⟩)])) := hg0
  have hlt := Lib.lt_of_cell hg
  have hg2 : ((W.alloc (ptrObj t)).alloc (boxV ⟨W.heap.size, 0, none⟩)).cell? ⟨0, 0, none⟩ = some (.iface 177 (.agg #[.pointer (some ⟨4, 29, none⟩)])) := by
    rw [World.cell?_alloc_lt _ _ ⟨0, 0, none⟩ (by first | (simp; done) | (simp; omega)), World.cell?_alloc_lt _ _ ⟨0, 0, none⟩ hlt]; exact hg
  have HC := Lib.hid hcon
  clear hcon hg0
  go_enter Tryz.func33, Tryz.ntmps33
  go_wp2_with (first | (go_at_call 66; refine HC.out.mono ?_; rintro e w' ⟨rfl, rfl⟩) | go_in)
  go_ret
  exact ⟨rfl, rfl⟩

theorem As_errno {W : World} (k : Int) (t : Addr) (old : Value) {E : Value} {l : List Pl} (hg0 : ErrType W) (hch : Chain W E l (errnoV k)) (ht : W.cell? t = some old) (hf : W.frozen? t = false) :
    Calls Tryz.prog 33 #[E, .iface 88 (.pointer (some t))] W fun e w' => e = .returned (.bool true) ∧ w' = ((asW W t).alloc (.cells #[.int .i64 k] 44)).setCell t (.int .i64 k) := by
  obtain ⟨u, x, rfl⟩ := ne_nil (.inl ⟨k, rfl⟩) hch
  have lt := Lib.lt_of_cell ht
  exact As_of t u x true _ hg0 (as_errno k t _ old _ l (hch.below (((Below.refl _ _).alloc (Nat.le_refl _) _).alloc (by simp) _))
    (by rw [World.cell?_alloc_lt _ _ ⟨W.heap.size, 0, none⟩ (by simp)]; simp)
    (by rw [World.cell?_alloc_lt _ _ t (by simp; omega), World.cell?_alloc_lt _ _ t lt]; exact ht)
    (by rw [World.frozen?_alloc_old _ _ t (by simp; omega), World.frozen?_alloc_old _ _ t (Nat.ne_of_lt lt)]; exact hf))
end Go.Proofs.YtdllgeanmlmmfaaGreatDoor.Fault
