/-
  THE LIBRARY's errors.As along a chain of errors at places, the target a variable of the document's own number type: it finds the number at the chain's end; of a plain error it finds none.
-/
import Derived.Test.YtcjbmeebenaonaaDoorFaultIs
namespace Go.Proofs.YtcjbmeebenaonaaDoor.Fault
open Go.RowKit Go.Extern.Stop Go.Stop Go.Extern
set_option linter.unusedVariables false

/-! ### closed facts on the model's entries for internal/reflectlite, at this program's types (after the worked example's manner) -/
theorem valueOfPE (t : Addr) (w : World) : (ReflectliteValue.unpack (.iface 51 (.pointer (some t)))).run Tryd.prog w
    = .ok (.agg #[.pointer (some ⟨6, 51, none⟩), .pointer (some ⟨w.heap.size, 0, none⟩), .int .u64 150]) (w.alloc (.cells #[.pointer (some t)] 51)) := by kernel_rfl
theorem valueOfE (k : Int) (w : World) : (ReflectliteValue.unpack (.iface 26 (.int .i64 k))).run Tryd.prog w
    = .ok (.agg #[.pointer (some ⟨6, 26, none⟩), .pointer (some ⟨w.heap.size, 0, none⟩), .int .u64 130]) (w.alloc (.cells #[.int .i64 k] 26)) := by kernel_rfl
theorem typePE (a : Addr) (w : World) : (ReflectliteValue.methodAny (ReflectliteValue.valueError "reflectlite.Value.Type" 0) (fun t _ _ _ => ReflectliteType.toType t) #[.agg #[.pointer (some ⟨6, 51, none⟩), .pointer (some a), .int .u64 150]]).run Tryd.prog w
    = .ok (.iface 93 (.agg #[.pointer (some ⟨6, 51, none⟩)])) w := by kernel_rfl
theorem methodKind (x : Value) (w : World) : (Go.method 262 93 (.agg #[x]) "Kind").run Tryd.prog w = .ok (87, x) w := by kernel_rfl
theorem kindPE (w : World) : ((ReflectliteType.abiMethod fun t => (fun a : Nat => Value.int IntKind.u8 (a : Int)) <$> Rtype.kind t) #[.pointer (some ⟨6, 51, none⟩)]).run Tryd.prog w = .ok (.int .u8 22) w := by kernel_rfl
theorem kindE (w : World) : ((ReflectliteType.abiMethod fun t => (fun a : Nat => Value.int IntKind.u8 (a : Int)) <$> Rtype.kind t) #[.pointer (some ⟨6, 26, none⟩)]).run Tryd.prog w = .ok (.int .u8 2) w := by kernel_rfl
theorem rlm (z : Sem Value) (f : TypeId → Addr → Nat → Nat → Sem Value) (v : Value) :
    ReflectliteValue.method z f #[v] = (do match ← ReflectliteValue.parts v with | none => z | some (t, a, fl) => f t a fl (fl % 32)) := rfl
theorem partsPE (a : Addr) (w : World) : (ReflectliteValue.parts (.agg #[.pointer (some ⟨6, 51, none⟩), .pointer (some a), .int .u64 150])).run Tryd.prog w = .ok (some (51, a, 150)) w := by kernel_rfl
theorem isNilPE (a p : Addr) (W : World) (ha : W.cell? a = some (.pointer (some p))) :
    (ReflectliteValue.method (ReflectliteValue.valueError "reflectlite.Value.IsNil" 0) ReflectliteValue.isNil #[.agg #[.pointer (some ⟨6, 51, none⟩), .pointer (some a), .int .u64 150]]).run Tryd.prog W = .ok (.bool false) W := by
  rw [rlm]
  simp only [Sem.run_bind, partsPE, Result.andThen]
  simp [ReflectliteValue.isNil, loadVar, isAgg, underlying, Tryd.underlying51, ha, Result.andThen]
theorem methodElem (x : Value) (w : World) : (Go.method 262 93 (.agg #[x]) "Elem").run Tryd.prog w = .ok (100, .agg #[x]) w := by kernel_rfl
theorem methodImplements (x : Value) (w : World) : (Go.method 262 93 (.agg #[x]) "Implements").run Tryd.prog w = .ok (101, .agg #[x]) w := by kernel_rfl
theorem methodAssignableTo (x : Value) (w : World) : (Go.method 262 93 (.agg #[x]) "AssignableTo").run Tryd.prog w = .ok (98, .agg #[x]) w := by kernel_rfl
theorem elemPE (w : World) : (ReflectliteType.method ReflectliteType.elem #[.agg #[.pointer (some ⟨6, 51, none⟩)]]).run Tryd.prog w = .ok (.iface 93 (.agg #[.pointer (some ⟨6, 26, none⟩)])) w := by kernel_rfl
theorem implementsE (w : World) : (ReflectliteType.relation "Implements" ReflectliteType.implements_ #[.agg #[.pointer (some ⟨6, 26, none⟩)], .iface 93 (.agg #[.pointer (some ⟨6, 38, none⟩)])]).run Tryd.prog w = .ok (.bool true) w := by kernel_rfl
theorem isTypeOfP (v : Value) (w : World) : (ReflectliteType.typeOf #[.iface 67 v]).run Tryd.prog w = .ok (.iface 93 (.agg #[.pointer (some ⟨6, 67, none⟩)])) w := by kernel_rfl
theorem assignEE (w : World) : (ReflectliteType.relation "AssignableTo" ReflectliteType.assignableTo #[.agg #[.pointer (some ⟨6, 26, none⟩)], .iface 93 (.agg #[.pointer (some ⟨6, 26, none⟩)])]).run Tryd.prog w = .ok (.bool true) w := by kernel_rfl
theorem assignPE (w : World) : (ReflectliteType.relation "AssignableTo" ReflectliteType.assignableTo #[.agg #[.pointer (some ⟨6, 67, none⟩)], .iface 93 (.agg #[.pointer (some ⟨6, 26, none⟩)])]).run Tryd.prog w = .ok (.bool false) w := by kernel_rfl
theorem assignSE (w : World) : (ReflectliteType.relation "AssignableTo" ReflectliteType.assignableTo #[.agg #[.pointer (some ⟨6, 85, none⟩)], .iface 93 (.agg #[.pointer (some ⟨6, 26, none⟩)])]).run Tryd.prog w = .ok (.bool false) w := by kernel_rfl
theorem elemOfPE (w : World) : (Rtype.elem? 51).run Tryd.prog w = .ok (some 26) w := by kernel_rfl
theorem mkE (p : Addr) (w : World) : (ReflectliteValue.mk 26 p ReflectliteValue.flagAddr).run Tryd.prog w = .ok (.agg #[.pointer (some ⟨6, 26, none⟩), .pointer (some p), .int .u64 386]) w := by kernel_rfl
theorem elemV (a p : Addr) (W : World) (ha : W.cell? a = some (.pointer (some p))) :
    (ReflectliteValue.method (ReflectliteValue.valueError "reflectlite.Value.Elem" 0) ReflectliteValue.elem #[.agg #[.pointer (some ⟨6, 51, none⟩), .pointer (some a), .int .u64 150]]).run Tryd.prog W
      = .ok (.agg #[.pointer (some ⟨6, 26, none⟩), .pointer (some p), .int .u64 386]) W := by
  rw [rlm]
  simp only [Sem.run_bind, partsPE, Result.andThen]
  simp [ReflectliteValue.elem, loadVar, isAgg, underlying, Tryd.underlying51, ha, Result.andThen, elemOfPE, mkE]
theorem rls (v x : Value) : ReflectliteValue.set #[v, x] = (do
    let (some (dst, a, fl), some (src, b, _)) := (← ReflectliteValue.parts v, ← ReflectliteValue.parts x)
      | unsupported (.noEntry "extern/(internal/reflectlite.Value).Set.zeroValue")
    if fl / ReflectliteValue.flagAddr % 2 == 0 then unsupported (.noEntry "extern/(internal/reflectlite.Value).Set.unaddressable")
    let val ← loadVar src b
    if ← Rtype.directlyAssignable dst src then storeVar dst a val
    else if ← Rtype.implements dst src then
      if (← Rtype.kind src) == 20 then
        match val with
        | .nilIface => unsupported (.noEntry "extern/reflectlite: a nil value of one interface type handed on as a value of another")
        | _ => storeVar dst a val
      else storeVar dst a (.iface src val)
    else panicString ("reflectlite.Set: value of type " ++ (← Rtype.spelt src) ++ " is not assignable to type " ++ (← Rtype.spelt dst))
    pure (.tuple #[])) := rfl
theorem partsEa (a : Addr) (w : World) : (ReflectliteValue.parts (.agg #[.pointer (some ⟨6, 26, none⟩), .pointer (some a), .int .u64 386])).run Tryd.prog w = .ok (some (26, a, 386)) w := by kernel_rfl
theorem partsE (a : Addr) (w : World) : (ReflectliteValue.parts (.agg #[.pointer (some ⟨6, 26, none⟩), .pointer (some a), .int .u64 130])).run Tryd.prog w = .ok (some (26, a, 130)) w := by kernel_rfl
theorem directE (w : World) : (Rtype.directlyAssignable 26 26).run Tryd.prog w = .ok true w := by kernel_rfl
theorem setE (ta b : Addr) (k : Int) (old : Value) (W : World) (hb : W.cell? b = some (.int .i64 k)) (ht : W.cell? ta = some old) (hf : W.frozen? ta = false) :
    (ReflectliteValue.set #[.agg #[.pointer (some ⟨6, 26, none⟩), .pointer (some ta), .int .u64 386], .agg #[.pointer (some ⟨6, 26, none⟩), .pointer (some b), .int .u64 130]]).run Tryd.prog W
      = .ok (.tuple #[]) (W.setCell ta (.int .i64 k)) := by
  rw [rls]
  simp only [Sem.run_bind, partsEa, partsE, Result.andThen]
  simp [ReflectliteValue.flagAddr, loadVar, isAgg, underlying, Tryd.underlying26, hb, Result.andThen, directE, storeVar, Value.cells, storeCells, Addr.add]
  rw [run_store Tryd.prog W ta _ _ (by rfl)]
  simp [ht, hf]

theorem noAsP (v : Value) (xT : TypeId) (w : World) : (Instr.typeAssert (.iface 67 v) xT 105 true).run Tryd.prog w = .ok (.tuple #[.nilIface, .bool false]) w := run_typeAssert_lacksB Tryd.underlying105 (by kernel_rfl) (by kernel_rfl) v xT w
theorem noAsS (v : Value) (xT : TypeId) (w : World) : (Instr.typeAssert (.iface 85 v) xT 105 true).run Tryd.prog w = .ok (.tuple #[.nilIface, .bool false]) w := run_typeAssert_lacksB Tryd.underlying105 (by kernel_rfl) (by kernel_rfl) v xT w
theorem noAsE (v : Value) (xT : TypeId) (w : World) : (Instr.typeAssert (.iface 26 v) xT 105 true).run Tryd.prog w = .ok (.tuple #[.nilIface, .bool false]) w := run_typeAssert_lacksB Tryd.underlying105 (by kernel_rfl) (by kernel_rfl) v xT w

/-- What the target is, as a value of reflectlite's. -/
abbrev tgtV (pv : Addr) : Value := .agg #[.pointer (some ⟨6, 51, none⟩), .pointer (some pv), .int .u64 150]
abbrev rtE : Value := .iface 93 (.agg #[.pointer (some ⟨6, 26, none⟩)])
abbrev boxV (pv : Addr) : Obj := .cells #[.pointer (some ⟨6, 51, none⟩), .pointer (some pv), .int .u64 150] 78

set_option maxRecDepth 1000000 in
set_option maxHeartbeats 4000000 in
theorem as_plain {W : World} (a t pv : Addr) (E : Value) (l : List Pl) (hch : Chain W E l (plainV a)) :
    Calls Tryd.prog 45 #[E, .iface 51 (.pointer (some t)), tgtV pv, rtE] W fun e w' => e = .returned (.bool false) ∧ w' = W.alloc (boxV pv) := by
  have h40 := @run_callFunc_extern Tryd.prog 40 _ Extern.ReflectliteType.typeOf Tryd.func40 (by kernel_rfl) (by kernel_rfl) (by kernel_rfl) (by kernel_rfl)
  have h98 := @run_callFunc_extern Tryd.prog 98 _ (ReflectliteType.relation "AssignableTo" ReflectliteType.assignableTo) Tryd.func98 (by kernel_rfl) (by kernel_rfl) (by kernel_rfl) (by kernel_rfl)
  have mA := methodAssignableTo
  have tP := isTypeOfP
  have tS := isTypeOfS
  have aP := assignPE
  have aS := assignSE
  have nP := noAsP
  have uP := hasUnP
  have mU := methodUnwrap
  have n1 := noAsS
  have n2 := noUnS
  have n3 := noUnsS
  have hB := Lib.hid (show IsBase (plainV a) from .inr ⟨a, rfl⟩)
  have hch1 := hch.below (W' := W.alloc (boxV pv)) ((Below.refl _ _).alloc (Nat.le_refl _) _)
  have HW := Lib.hid hch1
  clear hch hch1
  go_enter Tryd.func45, Tryd.ntmps45
  go_wp2
  obtain ⟨W1, hW1⟩ : ∃ W1, W1 = W.alloc (boxV pv) := ⟨_, rfl⟩
  have HW1 := HW.out
  rw [← hW1] at HW1 ⊢
  have hcon := Lib.hid hW1
  have hch1 := Lib.hid HW1
  clear hW1 HW1 HW
  go_loopw [0] (fun E' wl => wl = W1 ∧ ∃ l', Chain W1 E' l' (plainV a)) (fun E' _ => chainLen W1 E')
  case atStart => exact ⟨rfl, l, hch1.out⟩
  case round =>
    obtain ⟨rfl, l', hc'⟩ := hrel
    cases l' with
    | nil =>
      obtain rfl : _ = (plainV a) := hc'
      go_wp2
      go_ret
      exact ⟨rfl, hcon.out⟩
    | cons x r =>
      obtain ⟨s, n⟩ := x
      have hlen0 := chainLen_eq hB.out hc'
      obtain ⟨blk, v', rfl, h0, h1, h2, hr⟩ := hc'
      have hlen := chainLen_eq hB.out hr
      have HC := Lib.hid hr
      have HL := Lib.hid hlen
      have HL0 := Lib.hid hlen0
      have hne : ∃ u x, v' = .iface u x := by
        cases r with
        | nil => exact ⟨_, _, hr⟩
        | cons y r' => obtain ⟨_, _, e, _⟩ := hr; exact ⟨_, _, e⟩
      obtain ⟨u1, x1, rfl⟩ := hne
      clear hr hlen hlen0 h1 h2
      go_wp2
      go_roundw
      case rel => exact ⟨trivial, r, HC.out⟩
      case measure =>
        show chainLen _ (.iface u1 x1) < _
        rw [HL.out, HL0.out]; simp
end Go.Proofs.YtcjbmeebenaonaaDoor.Fault
