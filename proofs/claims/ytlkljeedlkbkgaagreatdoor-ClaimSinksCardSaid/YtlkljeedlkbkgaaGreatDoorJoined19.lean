/-
  YtlkljeedlkbkgaaGreatDoorBld
  YtlkljeedlkbkgaaGreatDoorFaultAs
  YtlkljeedlkbkgaaGreatDoorFaultAs2
  YtlkljeedlkbkgaaGreatDoorFaultKind
  YtlkljeedlkbkgaaGreatDoorFaultPath
-/
import Derived.Test.YtlkljeedlkbkgaaGreatDoorJoined5
import Derived.Shelf.Strings.Builder1
import Derived.WalkKit
import Derived.Lib.Builder
import Derived.Lib.AppendStr
import Derived.Laws.Externs
import Derived.BigCall
import Derived.Lib.Hide
import Derived.Outline
import Derived.Test.YtlkljeedlkbkgaaGreatDoorJoined10
import Derived.Defers
import Derived.Recover
import Derived.Deep.LoopGhost
import Derived.Laws.AppendOwn
import Derived.OwnWalk
namespace Go.Proofs.YtlkljeedlkbkgaaGreatDoor.Bld
open Go.RowKit
set_option linter.unusedVariables false
def Keeps (b : Nat) (w w' : World) : Prop := w.heap.size ≤ w'.heap.size ∧ ∀ k o, k ≠ b → w.heap[k]? = some o → (∀ cur fz, o ≠ .cells cur 5 fz) → w'.heap[k]? = some o
theorem Keeps.refl (b : Nat) (w : World) : Keeps b w w := ⟨Nat.le_refl _, fun _ _ _ h _ => h⟩
theorem Keeps.trans {b : Nat} {w w' w'' : World} (h : Keeps b w w') (h' : Keeps b w' w'') : Keeps b w w'' := ⟨Nat.le_trans h.1 h'.1, fun k o hk ho hn => h'.2 k o hk (h.2 k o hk ho hn) hn⟩
theorem Keeps.setCell (b : Nat) (w : World) (j : Nat) (v : Value) : Keeps b w (w.setCell ⟨b, j, none⟩ v) := ⟨by simp [World.setCell], fun k o hk ho _ => by rw [Below.heap_setCell _ _ _ _ hk]; exact ho⟩
theorem sizeB : (Tryz.prog.info? 132).map (·.size) = some 2 := by kernel_rfl
theorem liesB : liesAt Tryz.prog Tryz.prog.depth 132 (2 / Tryz.prog.cellsOf 132) 0 132 1 = true := by kernel_rfl
theorem infoByte : (Tryz.prog.info? 5).map (fun i => (i.zero, i.size, i.bytes)) = some (some (.int .u8 0), 1, 1) := by kernel_rfl
set_option maxHeartbeats 1000000 in
set_option maxRecDepth 100000 in
theorem copyCheck_used (b : Nat) (w : World) (h0 : w.cell? ⟨b, 0, none⟩ = some (.pointer (some ⟨b, 0, none⟩))) :
    Calls Tryz.prog 107 #[.pointer (some ⟨b, 0, none⟩)] w fun e w' => e = .returned (.tuple #[]) ∧ w' = w := by
  obtain ⟨j, hj, _⟩ := Option.map_eq_some_iff.1 sizeB
  go_enter Tryz.func107, Tryz.ntmps107
  go_wp2
  rw [Lib.run_neq_ptr_same w _ Tryz.underlying129 hj]
  go_wp2
  go_end0
  exact ⟨rfl, rfl⟩
set_option maxHeartbeats 1000000 in
set_option maxRecDepth 100000 in
theorem copyCheck_fresh (b : Nat) (w : World) (h0 : w.cell? ⟨b, 0, none⟩ = some (.pointer none)) (hsh : w.shape? b = some (132, 2)) (hfz : w.frozen? ⟨b, 0, none⟩ = false) :
    Calls Tryz.prog 107 #[.pointer (some ⟨b, 0, none⟩)] w fun e w' => e = .returned (.tuple #[]) ∧ w' = w.setCell ⟨b, 0, none⟩ (.pointer (some ⟨b, 0, none⟩)) := by
  obtain ⟨j, hj, hjs⟩ := Option.map_eq_some_iff.1 sizeB
  have hneq := Lib.run_neq_ptr_same (P := Tryz.prog) (w.setCell ⟨b, 0, none⟩ (.pointer (some ⟨b, 0, none⟩))) ⟨b, 0, none⟩ Tryz.underlying129 hj
  have hc1 : (w.setCell ⟨b, 0, none⟩ (.pointer (some ⟨b, 0, none⟩))).cell? ⟨b, 0, none⟩ = some (.pointer (some ⟨b, 0, none⟩)) := World.cell?_setCell_same _ _ _ h0
  go_enter Tryz.func107, Tryz.ntmps107
  go_wp2
  rw [Lib.run_to_unsafe w ⟨b, 0, none⟩ Tryz.underlying129 Tryz.underlying182 hj (by rw [hjs]; decide) hsh (Nat.zero_lt_succ 1)]
  simp only [Result.andThen]
  rw [Oper.upon_value]
  go_wp2
  rw [run_callFunc_extern Tryz.func140 (by kernel_rfl) (by kernel_rfl) (by kernel_rfl) (e := Extern.AbiNoEscape.same) (by kernel_rfl)]
  rw [Lib.run_noEscape]
  simp only [Result.andThen]
  rw [Oper.upon_value]
  go_wp2
  rw [Lib.run_from_unsafe w ⟨b, 0, none⟩ Tryz.underlying182 Tryz.underlying129 hj hsh liesB]
  simp only [Result.andThen]
  rw [Oper.upon_value]
  go_wp2
  go_end0
  exact ⟨rfl, rfl⟩
theorem copyCheck (B b : Nat) (bs : List Value) (w : World) (h : Lib.IsBuilder 132 5 B b bs w) :
    Calls Tryz.prog 107 #[.pointer (some ⟨b, 0, none⟩)] w fun e w' => e = .returned (.tuple #[]) ∧ (Lib.BuilderAt 132 5 B b (.pointer (some ⟨b, 0, none⟩)) bs w' ∧ Below B w w' ∧ Keeps b w w') := by
  rcases h with h | h
  · refine (copyCheck_fresh b w h.cell0 h.shape h.frozen0).mono ?_
    rintro e w' ⟨rfl, rfl⟩
    exact ⟨rfl, h.used _, (Below.refl B w).setCell (p := ⟨b, 0, none⟩) h.1 _, Keeps.setCell b w 0 _⟩
  · refine (copyCheck_used b w h.cell0).mono ?_
    rintro e w' ⟨rfl, rfl⟩
    exact ⟨rfl, h, Below.refl B _, Keeps.refl _ _⟩
set_option maxHeartbeats 2000000 in
set_option maxRecDepth 100000 in
theorem writeString (B b : Nat) (bs : List Value) (s : ByteArray) (w : World) (h : Lib.IsBuilder 132 5 B b bs w) (hlen : bs.length + s.size ≤ 140737488355328) (hBw : B ≤ w.heap.size) :
    Calls Tryz.prog 69 #[.pointer (some ⟨b, 0, none⟩), .string s] w fun e w' => e = .returned (.tuple #[.int .i64 s.size, .nilIface]) ∧ (Lib.BuilderAt 132 5 B b (.pointer (some ⟨b, 0, none⟩)) (bs ++ Lib.strCells s) w' ∧ Below B w w' ∧ Keeps b w w') := by
  obtain ⟨i0, hi, hz0, hz1, hz2⟩ := info_parts infoByte
  have HC := Lib.hid (copyCheck B b bs w h)
  clear h
  go_enter Tryz.func69, Tryz.ntmps69
  go_wp2_with (go_at_call 107; refine HC.out.mono ?_)
  rintro e w1 ⟨rfl, h1, hb1, hk1⟩
  obtain ⟨hB, v, hbk, hown, hne⟩ := h1
  have c0 : w1.cell? ⟨b, 0, none⟩ = some (.pointer (some ⟨b, 0, none⟩)) := by rw [Lib.cell_of_heap hbk]; rfl
  have c1 : w1.cell? ⟨b, 1, none⟩ = some v := by rw [Lib.cell_of_heap hbk]; rfl
  go_wp2_with (at_builtin; refine Lib.wpList_append_own_string _ rfl _ _ 130 9 rfl B 5 i0 Tryz.underlying130 Tryz.underlying9 hi hz0 hz1 hz2 _ _ _ rfl hown s rfl ?c3 ?c4 ?c5 ?_)
  case c3 => unfold maxLen; omega
  case c4 => omega
  case c5 => have := hb1.size; omega
  intro v' w2 hown' hgrow _
  have hlt : b < w1.heap.size := by
    rcases Nat.lt_or_ge b w1.heap.size with h' | h'
    · exact h'
    · simp [Array.getElem?_eq_none h'] at hbk
  have hb2 : w2.heap[b]? = some (.cells #[.pointer (some ⟨b, 0, none⟩), v] 132 (0, 0)) := by
    rw [hgrow.block b hlt (fun e => hne e.symm)]
    exact hbk
  have d0 : w2.cell? ⟨b, 0, none⟩ = some (.pointer (some ⟨b, 0, none⟩)) := by rw [Lib.cell_of_heap hb2]; rfl
  have d1 : w2.cell? ⟨b, 1, none⟩ = some v := by rw [Lib.cell_of_heap hb2]; rfl
  have f1 : w2.frozen? ⟨b, 1, none⟩ = false := Lib.frozen_of_heap hb2 1
  obtain ⟨ao, n', cap, rfl⟩ : ∃ ao n' cap, v' = .slice ao n' cap := by
    rcases hown'.2 with ⟨hv, _⟩ | ⟨g, cap, cur, hv, _⟩
    · exact ⟨_, _, _, hv⟩
    · exact ⟨_, _, _, hv⟩
  go_wp2
  go_ret2
  refine ⟨rfl, ?_, ?_, ?_⟩
  · exact Lib.BuilderAt.put (T := 132) (e := 5) hB hb2 (bs' := bs ++ Lib.strCells s) (by simpa [Lib.strCells_length] using hown') (by decide)
  · exact (hb1.grown hgrow (by have := hb1.size; omega) (fun k hk => (hown.lt k hk).1)).setCell (p := ⟨b, 1, none⟩) hB _
  · refine (hk1.trans ?_).trans (Keeps.setCell b w2 1 _)
    refine ⟨hgrow.size, fun k o hk ho hn => ?_⟩
    have hkl : k < w1.heap.size := by
      rcases Nat.lt_or_ge k w1.heap.size with h1 | h1
      · exact h1
      · rw [Array.getElem?_eq_none h1] at ho; cases ho
    rw [hgrow.block k hkl (fun e => ?_)]
    · exact ho
    · rcases hown.2 with ⟨hv, _⟩ | ⟨g, cap0, cur, hv, _, hg, _⟩
      · rw [hv] at e; cases e
      · rw [hv] at e
        obtain rfl : k = g := Option.some.inj e
        rw [hg] at ho
        exact hn _ _ (Option.some.inj ho).symm
end Go.Proofs.YtlkljeedlkbkgaaGreatDoor.Bld
namespace Go.Proofs.YtlkljeedlkbkgaaGreatDoor.Fault
open Go.RowKit Go.Extern.Stop Go.Stop Go.Extern
set_option linter.unusedVariables false
theorem valueOfPE (t : Addr) (w : World) : (ReflectliteValue.unpack (.iface 151 (.pointer (some t)))).run Tryz.prog w
    = .ok (.agg #[.pointer (some ⟨4, 151, none⟩), .pointer (some ⟨w.heap.size, 0, none⟩), .int .u64 150]) (w.alloc (.cells #[.pointer (some t)] 151)) := by kernel_rfl
theorem valueOfE (k : Int) (w : World) : (ReflectliteValue.unpack (.iface 61 (.int .i64 k))).run Tryz.prog w
    = .ok (.agg #[.pointer (some ⟨4, 61, none⟩), .pointer (some ⟨w.heap.size, 0, none⟩), .int .u64 130]) (w.alloc (.cells #[.int .i64 k] 61)) := by kernel_rfl
theorem typePE (a : Addr) (w : World) : (ReflectliteValue.methodAny (ReflectliteValue.valueError "reflectlite.Value.Type" 0) (fun t _ _ _ => ReflectliteType.toType t) #[.agg #[.pointer (some ⟨4, 151, none⟩), .pointer (some a), .int .u64 150]]).run Tryz.prog w
    = .ok (.iface 220 (.agg #[.pointer (some ⟨4, 151, none⟩)])) w := by kernel_rfl
theorem methodKind (x : Value) (w : World) : (Go.method 382 220 (.agg #[x]) "Kind").run Tryz.prog w = .ok (179, x) w := by kernel_rfl
theorem kindPE (w : World) : ((ReflectliteType.abiMethod fun t => (fun a : Nat => Value.int IntKind.u8 (a : Int)) <$> Rtype.kind t) #[.pointer (some ⟨4, 151, none⟩)]).run Tryz.prog w = .ok (.int .u8 22) w := by kernel_rfl
theorem kindE (w : World) : ((ReflectliteType.abiMethod fun t => (fun a : Nat => Value.int IntKind.u8 (a : Int)) <$> Rtype.kind t) #[.pointer (some ⟨4, 61, none⟩)]).run Tryz.prog w = .ok (.int .u8 2) w := by kernel_rfl
theorem rlm (z : Sem Value) (f : TypeId → Addr → Nat → Nat → Sem Value) (v : Value) :
    ReflectliteValue.method z f #[v] = (do match ← ReflectliteValue.parts v with | none => z | some (t, a, fl) => f t a fl (fl % 32)) := rfl
theorem partsPE (a : Addr) (w : World) : (ReflectliteValue.parts (.agg #[.pointer (some ⟨4, 151, none⟩), .pointer (some a), .int .u64 150])).run Tryz.prog w = .ok (some (151, a, 150)) w := by kernel_rfl
theorem isNilPE (a p : Addr) (W : World) (ha : W.cell? a = some (.pointer (some p))) :
    (ReflectliteValue.method (ReflectliteValue.valueError "reflectlite.Value.IsNil" 0) ReflectliteValue.isNil #[.agg #[.pointer (some ⟨4, 151, none⟩), .pointer (some a), .int .u64 150]]).run Tryz.prog W = .ok (.bool false) W := by
  rw [rlm]
  simp only [Sem.run_bind, partsPE, Result.andThen]
  simp [ReflectliteValue.isNil, loadVar, isAgg, underlying, Tryz.underlying151, ha, Result.andThen]
theorem methodElem (x : Value) (w : World) : (Go.method 382 220 (.agg #[x]) "Elem").run Tryz.prog w = .ok (191, .agg #[x]) w := by kernel_rfl
theorem methodImplements (x : Value) (w : World) : (Go.method 382 220 (.agg #[x]) "Implements").run Tryz.prog w = .ok (192, .agg #[x]) w := by kernel_rfl
theorem methodAssignableTo (x : Value) (w : World) : (Go.method 382 220 (.agg #[x]) "AssignableTo").run Tryz.prog w = .ok (189, .agg #[x]) w := by kernel_rfl
theorem elemPE (w : World) : (ReflectliteType.method ReflectliteType.elem #[.agg #[.pointer (some ⟨4, 151, none⟩)]]).run Tryz.prog w = .ok (.iface 220 (.agg #[.pointer (some ⟨4, 61, none⟩)])) w := by kernel_rfl
theorem implementsE (w : World) : (ReflectliteType.relation "Implements" ReflectliteType.implements_ #[.agg #[.pointer (some ⟨4, 61, none⟩)], .iface 220 (.agg #[.pointer (some ⟨4, 69, none⟩)])]).run Tryz.prog w = .ok (.bool true) w := by kernel_rfl
theorem isTypeOfP (v : Value) (w : World) : (ReflectliteType.typeOf #[.iface 170 v]).run Tryz.prog w = .ok (.iface 220 (.agg #[.pointer (some ⟨4, 170, none⟩)])) w := by kernel_rfl
theorem assignEE (w : World) : (ReflectliteType.relation "AssignableTo" ReflectliteType.assignableTo #[.agg #[.pointer (some ⟨4, 61, none⟩)], .iface 220 (.agg #[.pointer (some ⟨4, 61, none⟩)])]).run Tryz.prog w = .ok (.bool true) w := by kernel_rfl
theorem assignPE (w : World) : (ReflectliteType.relation "AssignableTo" ReflectliteType.assignableTo #[.agg #[.pointer (some ⟨4, 170, none⟩)], .iface 220 (.agg #[.pointer (some ⟨4, 61, none⟩)])]).run Tryz.prog w = .ok (.bool false) w := by kernel_rfl
theorem elemOfPE (w : World) : (Rtype.elem? 151).run Tryz.prog w = .ok (some 61) w := by kernel_rfl
theorem mkE (p : Addr) (w : World) : (ReflectliteValue.mk 61 p ReflectliteValue.flagAddr).run Tryz.prog w = .ok (.agg #[.pointer (some ⟨4, 61, none⟩), .pointer (some p), .int .u64 386]) w := by kernel_rfl
theorem elemV (a p : Addr) (W : World) (ha : W.cell? a = some (.pointer (some p))) :
    (ReflectliteValue.method (ReflectliteValue.valueError "reflectlite.Value.Elem" 0) ReflectliteValue.elem #[.agg #[.pointer (some ⟨4, 151, none⟩), .pointer (some a), .int .u64 150]]).run Tryz.prog W
      = .ok (.agg #[.pointer (some ⟨4, 61, none⟩), .pointer (some p), .int .u64 386]) W := by
  rw [rlm]
  simp only [Sem.run_bind, partsPE, Result.andThen]
  simp [ReflectliteValue.elem, loadVar, isAgg, underlying, Tryz.underlying151, ha, Result.andThen, elemOfPE, mkE]
theorem rls (v x : Value) : ReflectliteValue.set #[v, x] = (do
    let (some (dst, a, fl), some (src, b, _)) := (← ReflectliteValue.parts v, ← ReflectliteValue.parts x)
      | unsupported (.noEntry "extern/(internal/reflectlite.Value).Set.zeroValue")
    if fl / ReflectliteValue.flagAddr % 2 == 0 then unsupported (.noEntry "extern/(internal/reflectlite.Value).Set.unaddressable")
    let val ← loadVar src b
    if ← Rtype.directlyAssignable dst src then storeVar dst a val
    else if ← Rtype.implements dst src then
      if (← Rtype.kind src) == 20 then
        match val with
        | .nilIface => unsupported (.noEntry "extern/reflectlite: a nil value of one interface type handed on as a value of another")
        | _ => storeVar dst a val
      else storeVar dst a (.iface src val)
    else panicString ("reflectlite.Set: value of type " ++ (← Rtype.spelt src) ++ " is not assignable to type " ++ (← Rtype.spelt dst))
    pure (.tuple #[])) := rfl
theorem partsEa (a : Addr) (w : World) : (ReflectliteValue.parts (.agg #[.pointer (some ⟨4, 61, none⟩), .pointer (some a), .int .u64 386])).run Tryz.prog w = .ok (some (61, a, 386)) w := by kernel_rfl
theorem partsE (a : Addr) (w : World) : (ReflectliteValue.parts (.agg #[.pointer (some ⟨4, 61, none⟩), .pointer (some a), .int .u64 130])).run Tryz.prog w = .ok (some (61, a, 130)) w := by kernel_rfl
theorem directE (w : World) : (Rtype.directlyAssignable 61 61).run Tryz.prog w = .ok true w := by kernel_rfl
theorem setE (ta b : Addr) (k : Int) (old : Value) (W : World) (hb : W.cell? b = some (.int .i64 k)) (ht : W.cell? ta = some old) (hf : W.frozen? ta = false) :
    (ReflectliteValue.set #[.agg #[.pointer (some ⟨4, 61, none⟩), .pointer (some ta), .int .u64 386], .agg #[.pointer (some ⟨4, 61, none⟩), .pointer (some b), .int .u64 130]]).run Tryz.prog W
      = .ok (.tuple #[]) (W.setCell ta (.int .i64 k)) := by
  rw [rls]
  simp only [Sem.run_bind, partsEa, partsE, Result.andThen]
  simp [ReflectliteValue.flagAddr, loadVar, isAgg, underlying, Tryz.underlying61, hb, Result.andThen, directE, storeVar, Value.cells, storeCells, Addr.add]
  rw [run_store Tryz.prog W ta _ _ (by rfl)]
  simp [ht, hf]
theorem noAsP (v : Value) (xT : TypeId) (w : World) : (Instr.typeAssert (.iface 170 v) xT 225 true).run Tryz.prog w = .ok (.tuple #[.nilIface, .bool false]) w := run_typeAssert_lacksB Tryz.underlying225 (by kernel_rfl) (by kernel_rfl) v xT w
abbrev tgtV (pv : Addr) : Value := .agg #[.pointer (some ⟨4, 151, none⟩), .pointer (some pv), .int .u64 150]
abbrev rtE : Value := .iface 220 (.agg #[.pointer (some ⟨4, 61, none⟩)])
abbrev boxV (pv : Addr) : Obj := .cells #[.pointer (some ⟨4, 151, none⟩), .pointer (some pv), .int .u64 150] 185
end Go.Proofs.YtlkljeedlkbkgaaGreatDoor.Fault
namespace Go.Proofs.YtlkljeedlkbkgaaGreatDoor.Fault
open Go.RowKit Go.Extern.Stop Go.Stop Go.Extern
set_option linter.unusedVariables false
set_option maxRecDepth 1000000 in
set_option maxHeartbeats 4000000 in
theorem as_errno {W : World} (k : Int) (t pv : Addr) (old : Value) (E : Value) (l : List Pl) (hch : Chain W E l (errnoV k))
    (hpv : W.cell? pv = some (.pointer (some t))) (ht : W.cell? t = some old) (hf : W.frozen? t = false) :
    Calls Tryz.prog 117 #[E, .iface 151 (.pointer (some t)), tgtV pv, rtE] W fun e w' => e = .returned (.bool true) ∧ w' = ((W.alloc (boxV pv)).alloc (.cells #[.int .i64 k] 61)).setCell t (.int .i64 k) := by
  have h40 := @run_callFunc_extern Tryz.prog 143 _ Extern.ReflectliteType.typeOf Tryz.func143 (by kernel_rfl) (by kernel_rfl) (by kernel_rfl) (by kernel_rfl)
  have h98 := @run_callFunc_extern Tryz.prog 189 _ (ReflectliteType.relation "AssignableTo" ReflectliteType.assignableTo) Tryz.func189 (by kernel_rfl) (by kernel_rfl) (by kernel_rfl) (by kernel_rfl)
  have h42 := @run_callFunc_extern Tryz.prog 114 _ (fun args => ReflectliteValue.unpack (args.getD 0 (.tuple #[]))) Tryz.func114 (by kernel_rfl) (by kernel_rfl) (by kernel_rfl) (by kernel_rfl)
  have h51 := @run_callFunc_extern Tryz.prog 144 _ (ReflectliteValue.method (ReflectliteValue.valueError "reflectlite.Value.Elem" 0) ReflectliteValue.elem) Tryz.func144 (by kernel_rfl) (by kernel_rfl) (by kernel_rfl) (by kernel_rfl)
  have h52 := @run_callFunc_extern Tryz.prog 145 _ ReflectliteValue.set Tryz.func145 (by kernel_rfl) (by kernel_rfl) (by kernel_rfl) (by kernel_rfl)
  have mA := methodAssignableTo
  have tP := isTypeOfP
  have tE := isTypeOfE
  have aP := assignPE
  have aE := assignEE
  have vE := valueOfE k
  have nP := noAsP
  have uP := hasUnP
  have mU := methodUnwrap
  have hB := Lib.hid (show IsBase (errnoV k) from .inl ⟨k, rfl⟩)
  have hch1 := hch.below (W' := W.alloc (boxV pv)) ((Below.refl _ _).alloc (Nat.le_refl _) _)
  have HW := Lib.hid hch1
  have lpv := Lib.lt_of_cell hpv
  have lt := Lib.lt_of_cell ht
  have p1 : (W.alloc (boxV pv)).cell? pv = some (.pointer (some t)) := by rw [World.cell?_alloc_lt _ _ pv lpv]; exact hpv
  have p2 : (W.alloc (boxV pv)).cell? t = some old := by rw [World.cell?_alloc_lt _ _ t lt]; exact ht
  have p3 : (W.alloc (boxV pv)).frozen? t = false := by rw [World.frozen?_alloc_old _ _ t (Nat.ne_of_lt lt)]; exact hf
  have b0 : (W.alloc (boxV pv)).cell? ⟨W.heap.size, 0, none⟩ = some (.pointer (some ⟨4, 151, none⟩)) := by simp [boxV]
  have b1 : (W.alloc (boxV pv)).cell? ⟨W.heap.size, 1, none⟩ = some (.pointer (some pv)) := by simp [boxV]
  have b2 : (W.alloc (boxV pv)).cell? ⟨W.heap.size, 2, none⟩ = some (.int .u64 150) := by simp [boxV]
  have s1 : t.block < (W.alloc (boxV pv)).heap.size := by simp; omega
  have HP := Lib.hid (And.intro p1 (And.intro p2 (And.intro p3 (And.intro b0 (And.intro b1 (And.intro b2 s1))))))
  clear hch hch1 hpv ht hf lpv lt p1 p2 p3 b0 b1 b2 s1
  go_enter Tryz.func117, Tryz.ntmps117
  go_wp2
  obtain ⟨W1, hW1⟩ : ∃ W1, W1 = W.alloc (boxV pv) := ⟨_, rfl⟩
  have HW1 := HW.out
  have HP1 := HP.out
  rw [← hW1] at HW1 HP1 ⊢
  have hcon := Lib.hid hW1
  have hch1 := Lib.hid HW1
  have HP2 := Lib.hid HP1
  clear hW1 HW1 HW HP HP1
  go_loopw [0] (fun E' wl => wl = W1 ∧ ∃ l', Chain W1 E' l' (errnoV k)) (fun E' _ => chainLen W1 E')
  case atStart => exact ⟨rfl, l, hch1.out⟩
  case round =>
    obtain ⟨rfl, l', hc'⟩ := hrel
    cases l' with
    | nil =>
      obtain rfl : _ = (errnoV k) := hc'
      obtain ⟨q1, q2, q3, q4, q5, q6, q7⟩ := HP2.out
      have el := elemV pv t wr q1
      have st := setE t ⟨wr.heap.size, 0, none⟩ k old (wr.alloc (.cells #[.int .i64 k] 61)) (by simp) (by rw [World.cell?_alloc_lt _ _ t q7]; exact q2) (by rw [World.frozen?_alloc_old _ _ t (Nat.ne_of_lt q7)]; exact q3)
      clear q1 q2 q3 q7
      go_wp2
      go_ret
      refine ⟨rfl, ?_⟩
      rw [← hcon.out]
    | cons x r =>
      obtain ⟨s, n⟩ := x
      have hlen0 := chainLen_eq hB.out hc'
      obtain ⟨blk, v', rfl, h0, h1, h2, hr⟩ := hc'
      have hlen := chainLen_eq hB.out hr
      have HC := Lib.hid hr
      have HL := Lib.hid hlen
      have HL0 := Lib.hid hlen0
      have hne : ∃ u x, v' = .iface u x := by
        cases r with
        | nil => exact ⟨_, _, hr⟩
        | cons y r' => obtain ⟨_, _, e, _⟩ := hr; exact ⟨_, _, e⟩
      obtain ⟨u1, x1, rfl⟩ := hne
      clear hr hlen hlen0 h1 h2
      go_wp2
      go_roundw
      case rel => exact ⟨trivial, r, HC.out⟩
      case measure =>
        show chainLen _ (.iface u1 x1) < _
        rw [HL.out, HL0.out]; simp
abbrev ptrObj (t : Addr) : Obj := .cells #[.pointer (some t)] 151
def asW (W : World) (t : Addr) : World := (((W.alloc (ptrObj t)).alloc (boxV ⟨W.heap.size, 0, none⟩)).alloc (boxV ⟨W.heap.size, 0, none⟩))
def ErrType (W : World) : Prop := W.cell? ⟨0, 0, none⟩ = some (.iface 220 (.agg #[.pointer (some ⟨4, 69, none⟩)]))
set_option maxRecDepth 1000000 in
set_option maxHeartbeats 4000000 in
theorem As_of {W : World} (t : Addr) (u : TypeId) (x : Value) (r : Bool) (Wf : World) (hg0 : ErrType W)
    (hcon : Calls Tryz.prog 117 #[.iface u x, .iface 151 (.pointer (some t)), tgtV ⟨W.heap.size, 0, none⟩, rtE] ((W.alloc (ptrObj t)).alloc (boxV ⟨W.heap.size, 0, none⟩)) fun e w' => e = .returned (.bool r) ∧ w' = Wf) :
    Calls Tryz.prog 81 #[.iface u x, .iface 151 (.pointer (some t))] W fun e w' => e = .returned (.bool r) ∧ w' = Wf := by
  have h6 := @run_callFunc_extern Tryz.prog 114 _ (fun args => ReflectliteValue.unpack (args.getD 0 (.tuple #[]))) Tryz.func114 (by kernel_rfl) (by kernel_rfl) (by kernel_rfl) (by kernel_rfl)
  have h7 := @run_callFunc_extern Tryz.prog 115 _ (ReflectliteValue.methodAny (ReflectliteValue.valueError "reflectlite.Value.Type" 0) (fun t _ _ _ => ReflectliteType.toType t)) Tryz.func115 (by kernel_rfl) (by kernel_rfl) (by kernel_rfl) (by kernel_rfl)
  have h8 := @run_callFunc_extern Tryz.prog 116 _ (ReflectliteValue.method (ReflectliteValue.valueError "reflectlite.Value.IsNil" 0) ReflectliteValue.isNil) Tryz.func116 (by kernel_rfl) (by kernel_rfl) (by kernel_rfl) (by kernel_rfl)
  have h27 := @run_callFunc_extern Tryz.prog 179 _ (ReflectliteType.abiMethod fun t => do pure (.int .u8 (← Rtype.kind t))) Tryz.func179 (by kernel_rfl) (by kernel_rfl) (by kernel_rfl) (by kernel_rfl)
  have h37 := @run_callFunc_extern Tryz.prog 191 _ (ReflectliteType.method ReflectliteType.elem) Tryz.func191 (by kernel_rfl) (by kernel_rfl) (by kernel_rfl) (by kernel_rfl)
  have h38 := @run_callFunc_extern Tryz.prog 192 _ (ReflectliteType.relation "Implements" ReflectliteType.implements_) Tryz.func192 (by kernel_rfl) (by kernel_rfl) (by kernel_rfl) (by kernel_rfl)
  have f6 := valueOfPE
  have f7 := typePE
  have mK := methodKind
  have mE := methodElem
  have mI := methodImplements
  have k27 := kindPE
  have k25 := kindE
  have e27 := elemPE
  have i25 := implementsE
  have n8 := isNilPE ⟨W.heap.size, 0, none⟩ t ((W.alloc (ptrObj t)).alloc (boxV ⟨W.heap.size, 0, none⟩)) (by rw [World.cell?_alloc_lt _ _ ⟨W.heap.size, 0, none⟩ (by simp)]; simp)
  have hg : W.cell? ⟨0, 0, none⟩ = some (.iface 220 (.agg #[.pointer (some ⟨4, 69, none⟩)])) := hg0
  have hlt := Lib.lt_of_cell hg
  have hg2 : ((W.alloc (ptrObj t)).alloc (boxV ⟨W.heap.size, 0, none⟩)).cell? ⟨0, 0, none⟩ = some (.iface 220 (.agg #[.pointer (some ⟨4, 69, none⟩)])) := by
    rw [World.cell?_alloc_lt _ _ ⟨0, 0, none⟩ (by first | (simp; done) | (simp; omega)), World.cell?_alloc_lt _ _ ⟨0, 0, none⟩ hlt]; exact hg
  have HC := Lib.hid hcon
  clear hcon hg0
  go_enter Tryz.func81, Tryz.ntmps81
  go_wp2_with (first | (go_at_call 117; refine HC.out.mono ?_; rintro e w' ⟨rfl, rfl⟩) | go_in)
  go_ret
  exact ⟨rfl, rfl⟩
theorem As_errno {W : World} (k : Int) (t : Addr) (old : Value) {E : Value} {l : List Pl} (hg0 : ErrType W) (hch : Chain W E l (errnoV k)) (ht : W.cell? t = some old) (hf : W.frozen? t = false) :
    Calls Tryz.prog 81 #[E, .iface 151 (.pointer (some t))] W fun e w' => e = .returned (.bool true) ∧ w' = ((asW W t).alloc (.cells #[.int .i64 k] 61)).setCell t (.int .i64 k) := by
  obtain ⟨u, x, rfl⟩ := ne_nil (.inl ⟨k, rfl⟩) hch
  have lt := Lib.lt_of_cell ht
  exact As_of t u x true _ hg0 (as_errno k t _ old _ l (hch.below (((Below.refl _ _).alloc (Nat.le_refl _) _).alloc (by simp) _))
    (by rw [World.cell?_alloc_lt _ _ ⟨W.heap.size, 0, none⟩ (by simp)]; simp)
    (by rw [World.cell?_alloc_lt _ _ t (by simp; omega), World.cell?_alloc_lt _ _ t lt]; exact ht)
    (by rw [World.frozen?_alloc_old _ _ t (by simp; omega), World.frozen?_alloc_old _ _ t (Nat.ne_of_lt lt)]; exact hf))
end Go.Proofs.YtlkljeedlkbkgaaGreatDoor.Fault
namespace Go.Proofs.YtlkljeedlkbkgaaGreatDoor.Fault
open Go.RowKit Go.Extern.Stop Go.Stop Go.Extern
set_option linter.unusedVariables false
theorem catchKind (p : Addr) (w : World) :
    CallsD Tryz.prog 80 #[.pointer (some p)] .returning w fun e u' w' => e = .returned (.tuple #[]) ∧ u' = .returning ∧ w' = w := by
  refine callsD_of_wpS Tryz.func80 rfl fun c₀ cs hu => ?_
  apply wpS_seq
  apply wpS_region
  simp [wpOpsS, go_sem, recoverD, hu, Tryz.ntmps80, Exit.thenS]
  refine wpS_cond (t := false) (by simp [Act.eval, Array.replicate]) ?_
  simp only [Bool.false_eq_true, if_false]
  refine wpS_of_wp (wp_skip ?_)
  cases c₀
  simp_all [bodyPostS, results, Tryz.results80]
set_option maxRecDepth 1000000 in
theorem kind_nil (w : World) : Calls Tryz.prog 37 #[.nilIface] w fun e w' => e = .returned (.int .i64 0) ∧ Below w.heap.size w w' := by
  have hmf : ∀ (fn : Fn) (first cap : Array Value) (w : World), (Instr.makeFunc fn first cap).run Tryz.prog w = .ok (.func fn first cap) w := fun _ _ _ _ => rfl
  go_enter_defers Tryz.func37, Tryz.ntmps37
  go_wp2
  simp [bodyPostD, Leaves, results, Tryz.results37, go_sem]
  exact (Below.refl _ _).alloc (Nat.le_refl _) _
set_option maxRecDepth 1000000 in
set_option maxHeartbeats 1000000 in
theorem kind_errno {w : World} (k : Int) {E : Value} {l : List Pl} (hg : ErrType w) (hch : Chain w E l (errnoV k)) :
    Calls Tryz.prog 37 #[E] w fun e w' => e = .returned (.int .i64 k) ∧ Below w.heap.size w w' := by
  have hmf : ∀ (fn : Fn) (first cap : Array Value) (w : World), (Instr.makeFunc fn first cap).run Tryz.prog w = .ok (.func fn first cap) w := fun _ _ _ _ => rfl
  obtain ⟨u, x, rfl⟩ := ne_nil (.inl ⟨k, rfl⟩) hch
  have hb : Below w.heap.size w ((w.alloc (.cells #[.int .i64 0] 61)).alloc (.cells #[.int .i64 0] 61)) := ((Below.refl _ _).alloc (Nat.le_refl _) _).alloc (by simp) _
  have hg1 : ErrType ((w.alloc (.cells #[.int .i64 0] 61)).alloc (.cells #[.int .i64 0] 61)) := (hb.cell (p := ⟨0, 0, none⟩) (Lib.lt_of_cell hg)).trans hg
  have hC := Lib.hid (As_errno k ⟨w.heap.size + 1, 0, none⟩ (.int .i64 0) hg1 (hch.below hb) (by rw [World.cell?_alloc_at _ _ _ _ (by simp)]; rfl) (by simp))
  clear hg hch hb hg1
  go_enter_defers Tryz.func37, Tryz.ntmps37
  go_wp2_with fail
  go_at_call 81
  refine hC.out.mono ?_
  rintro e w1 ⟨rfl, rfl⟩
  unfold asW
  go_wp2_with fail
  refine leaves_cons (f := 80) (args := #[.pointer (some ⟨w.heap.size, 0, none⟩)]) (by simp) (by simp [go_sem]) ?_
  refine (catchKind ⟨w.heap.size, 0, none⟩ _).mono ?_
  rintro e u' w'' ⟨rfl, rfl, rfl⟩
  simp [Leaves, settle, results, Tryz.results37, go_sem]
  repeat (first | exact Below.refl _ _ | refine Below.alloc ?_ (by simp; try omega) _)
end Go.Proofs.YtlkljeedlkbkgaaGreatDoor.Fault
namespace Go.Proofs.YtlkljeedlkbkgaaGreatDoor.Fault
open Go.RowKit
set_option linter.unusedVariables false
def plCells (l : List Pl) : List Value := l.flatMap fun x => [.string x.1, .int .i64 x.2]
theorem plCells_snoc (l : List Pl) (s : ByteArray) (n : Int) : plCells (l ++ [(s, n)]) = plCells l ++ [.string s, .int .i64 n] := by unfold plCells; simp
theorem asP (v : Value) (w : World) : (Instr.typeAssert (.iface 170 v) 69 170 true).run Tryz.prog w = .ok (.tuple #[v, .bool true]) w := by kernel_rfl
theorem asE (v : Value) (w : World) : (Instr.typeAssert (.iface 61 v) 69 170 true).run Tryz.prog w = .ok (.tuple #[.pointer none, .bool false]) w := by kernel_rfl
theorem asS (v : Value) (w : World) : (Instr.typeAssert (.iface 16 v) 69 170 true).run Tryz.prog w = .ok (.tuple #[.pointer none, .bool false]) w := by kernel_rfl
def At (W : World) (b : Value) : List Pl → Value → Value → Prop
  | [], p, okv => p = .pointer none ∧ okv = .bool false
  | (s, n) :: r, p, okv => ∃ blk v', p = .pointer (some ⟨blk, 0, none⟩) ∧ okv = .bool true ∧ W.cell? ⟨blk, 0, none⟩ = some v' ∧ W.cell? ⟨blk, 1, none⟩ = some (.string s) ∧ W.cell? ⟨blk, 2, none⟩ = some (.int .i64 n) ∧ Chain W v' r b
theorem at_of {W : World} {v b : Value} {l : List Pl} (hb : IsBase b) (h : Chain W v l b) : ∃ p okv, At W b l p okv ∧ ∀ w, (Instr.typeAssert v 69 170 true).run Tryz.prog w = .ok (.tuple #[p, okv]) w := by
  cases l with
  | nil =>
    obtain rfl : v = b := h
    refine ⟨_, _, ⟨rfl, rfl⟩, ?_⟩
    rcases hb with ⟨k, rfl⟩ | ⟨a, rfl⟩
    · exact asE _
    · exact asS _
  | cons x r =>
    obtain ⟨s, n⟩ := x
    obtain ⟨blk, v', rfl, h0, h1, h2, hr⟩ := h
    exact ⟨_, _, ⟨blk, v', rfl, rfl, h0, h1, h2, hr⟩, asP _⟩
theorem infoPl : (Tryz.prog.info? 136).map (fun i => (i.zero, i.size, i.bytes)) = some (some (.agg #[.string ⟨#[]⟩, .int .i64 0]), 2, 24) := by kernel_rfl
theorem news2 (W : World) (s : ByteArray) (n : Int) (T : TypeId) : ∀ j u, ([Value.string s, .int .i64 n])[j]? = some u → (W.alloc (.cells #[.string s, .int .i64 n] T)).cell? ((⟨W.heap.size, 0, none⟩ : Addr).add j) = some u := by
  intro j u hj
  match j, hj with
  | 0, hj => simp at hj; subst hj; simp [Addr.add]
  | 1, hj => simp at hj; subst hj; simp [Addr.add]
set_option maxRecDepth 100000 in
set_option maxHeartbeats 2000000 in
theorem path_any {w : World} {E b : Value} {l : List Pl} (hb : IsBase b) (hch : Chain w E l b) (hlen : l.length ≤ 1000) :
    Calls Tryz.prog 68 #[E] w fun e w' => ∃ v, e = .returned v ∧ w'.ownsRow w.heap.size 136 2 v l.length (plCells l) ∧ Below w.heap.size w w' := by
  obtain ⟨i0, hi, hz0, hz1, hz2⟩ := info_parts infoPl
  obtain ⟨u, x, rfl⟩ := ne_nil hb hch
  obtain ⟨p0, ok0, hat0, has0⟩ := at_of hb hch
  have HAT := Lib.hid hat0
  have HB := Lib.hid hb
  clear hch hat0 hb
  go_enter Tryz.func68, Tryz.ntmps68
  go_wp2
  go_loopg [3, 4, 5] l.length (fun k v p okv wr => ∃ done rest, done ++ rest = l ∧ rest.length = k ∧ At w b rest p okv ∧ wr.ownsRow w.heap.size 136 2 v done.length (plCells done) ∧ Below w.heap.size w wr)
  case atStart => exact ⟨[], l, rfl, rfl, HAT.out, World.ownsRow_nil _ _ _ _, Below.refl _ _⟩
  case round =>
    obtain ⟨done, rest, hl, hk, hat, hown, hbw⟩ := hrel
    have HL := Lib.hid hl
    have HK := Lib.hid hk
    cases rest with
    | nil =>
      obtain ⟨rfl, rfl⟩ := hat
      have hdl : done = l := by rw [← HL.out, List.append_nil]
      rw [hdl] at hown
      have HO := Lib.hid hown
      clear hl hk hown hdl
      go_wp2
      go_ret
      exact ⟨_, rfl, HO.out, hbw⟩
    | cons y r =>
      obtain ⟨s, n⟩ := y
      obtain ⟨blk, v', rfl, rfl, g0, g1, g2, hr⟩ := hat
      have hlt := Lib.lt_of_cell g0
      have h0 := (hbw.cell (p := ⟨blk, 0, none⟩) hlt).trans g0
      have h1 := (hbw.cell (p := ⟨blk, 1, none⟩) hlt).trans g1
      have h2 := (hbw.cell (p := ⟨blk, 2, none⟩) hlt).trans g2
      have HG := Lib.hid g0
      clear g0 g1 g2
      obtain ⟨p1, ok1, hat1, has1⟩ := at_of HB.out hr
      have HA1 := Lib.hid hat1
      have hdl : done.length + 1 ≤ 1000 := by have e := congrArg List.length HL.out; rw [List.length_append, List.length_cons] at e; omega
      have HR := Lib.hid hr
      clear hl hk hat1 hr
      go_wp2_with (at_builtin; refine wpList_append_own _ rfl _ _ 133 rfl w.heap.size 136 i0 (.agg #[.string ⟨#[]⟩, .int .i64 0]) 2 24 Tryz.underlying133 hi hz0 hz1 hz2 rfl (by decide) _ _ _ rfl (hown.alloc _) ⟨wr.heap.size, 0, none⟩ 1 1 [.string s, .int .i64 n] rfl rfl (news2 _ _ _ _) ?c2 ?c3 ?c4 ?c5 ?_)
      case c2 => exact ⟨rfl, rfl⟩
      case c3 => unfold maxLen; omega
      case c4 => omega
      case c5 => have := hbw.size; simp; omega
      intro v2 w1 hown' hgrow _
      have hb1 : Below w.heap.size w w1 := (hbw.alloc (by have := hbw.size; omega) _).grown hgrow (by have := hbw.size; simp; omega) (fun k e => (hown.lt k e).1)
      have k0 := (hb1.cell (p := ⟨blk, 0, none⟩) hlt).trans HG.out
      have HO := Lib.hid hown'
      clear hown hown' hgrow h0 h1 h2 hbw
      go_wp2
      go_roundg r.length
      case measure => rw [← HK.out]; simp
      case rel =>
        refine ⟨done ++ [(s, n)], r, by rw [List.append_assoc]; exact HL.out, rfl, HA1.out, ?_, hb1⟩
        have h := HO.out
        rw [List.length_append, plCells_snoc]
        exact h
end Go.Proofs.YtlkljeedlkbkgaaGreatDoor.Fault
