/-
  THE LIBRARY's errors.As along a chain of errors at places that ends with a number: true, and the target holds that number; and errors.As itself, at both ends of a chain.
  PACKAGE fault's Kind and Is: what they answer of nil, of a chain of places that ends with a number, and of one that ends with a plain error.
  PACKAGE fault's Path: the places of a chain, the outer ones ahead, in memory of the call's own.
-/
import Derived.Test.YtlkljeedlkbkgaaGreatDoorJoined19
import Derived.Defers
import Derived.Recover
import Derived.Test.YtlkljeedlkbkgaaGreatDoorJoined9
import Derived.Deep.LoopGhost
import Derived.Laws.AppendOwn
import Derived.OwnWalk
namespace Go.Proofs.YtlkljeedlkbkgaaGreatDoor.Fault
open Go.RowKit Go.Extern.Stop Go.Stop Go.Extern
set_option linter.unusedVariables false

set_option maxRecDepth 1000000 in
set_option maxHeartbeats 4000000 in
theorem as_errno {W : World} (k : Int) (t pv : Addr) (old : Value) (E : Value) (l : List Pl) (hch : Chain W E l (errnoV k))
    (hpv : W.cell? pv = some (.pointer (some t))) (ht : W.cell? t = some old) (hf : W.frozen? t = false) :
    Calls Tryz.prog 117 #[E, .iface 151 (.pointer (some t)), tgtV pv, rtE] W fun e w' => e = .returned (.bool true) ∧ w' = ((W.alloc (boxV pv)).alloc (.cells #[.int .i64 k] 61)).setCell t (.int .i64 k) := by
  have h40 := @run_callFunc_extern Tryz.prog 143 _ Extern.ReflectliteType.typeOf Tryz.func143 (by kernel_rfl) (by kernel_rfl) (by kernel_rfl) (by kernel_rfl)
  have h98 := @run_callFunc_extern Tryz.prog 189 _ (ReflectliteType.relation "AssignableTo" ReflectliteType.assignableTo) Tryz.func189 (by kernel_rfl) (by kernel_rfl) (by kernel_rfl) (by kernel_rfl)
  have h42 := @run_callFunc_extern Tryz.prog 114 _ (fun args => ReflectliteValue.unpack (args.getD 0 (.tuple #[]))) Tryz.func114 (by kernel_rfl) (by kernel_rfl) (by kernel_rfl) (by kernel_rfl)
  have h51 := @run_callFunc_extern Tryz.prog 144 _ (ReflectliteValue.method (ReflectliteValue.valueError "reflectlite.Value.Elem" 0) ReflectliteValue.elem) Tryz.func144 (by kernel_rfl) (by kernel_rfl) (by kernel_rfl) (by kernel_rfl)
  have h52 := @run_callFunc_extern Tryz.prog 145 _ ReflectliteValue.set Tryz.func145 (by kernel_rfl) (by kernel_rfl) (by kernel_rfl) (by kernel_rfl)
  have mA := methodAssignableTo
  have tP := isTypeOfP
  have tE := isTypeOfE
  have aP := assignPE
  have aE := assignEE
  have vE := valueOfE k
  have nP := noAsP
  have uP := hasUnP
  have mU := methodUnwrap
  have hB := Lib.hid (show IsBase (errnoV k) from .inl ⟨k, rfl⟩)
  have hch1 := hch.below (W' := W.alloc (boxV pv)) ((Below.refl _ _).alloc (Nat.le_refl _) _)
  have HW := Lib.hid hch1
  have lpv := Lib.lt_of_cell hpv
  have lt := Lib.lt_of_cell ht
  have p1 : (W.alloc (boxV pv)).cell? pv = some (.pointer (some t)) := by rw [World.cell?_alloc_lt _ _ pv lpv]; exact hpv
  have p2 : (W.alloc (boxV pv)).cell? t = some old := by rw [World.cell?_alloc_lt _ _ t lt]; exact ht
  have p3 : (W.alloc (boxV pv)).frozen? t = false := by rw [World.frozen?_alloc_old _ _ t (Nat.ne_of_lt lt)]; exact hf
  have b0 : (W.alloc (boxV pv)).cell? ⟨W.heap.size, 0, none⟩ = some (.pointer (some ⟨4, 151, none⟩)) := by simp [boxV]
  have b1 : (W.alloc (boxV pv)).cell? ⟨W.heap.size, 1, none⟩ = some (.pointer (some pv)) := by simp [boxV]
  have b2 : (W.alloc (boxV pv)).cell? ⟨W.heap.size, 2, none⟩ = some (.int .u64 150) := by simp [boxV]
  have s1 : t.block < (W.alloc (boxV pv)).heap.size := by simp; omega
  have HP := Lib.hid (And.intro p1 (And.intro p2 (And.intro p3 (And.intro b0 (And.intro b1 (And.intro b2 s1))))))
  clear hch hch1 hpv ht hf lpv lt p1 p2 p3 b0 b1 b2 s1
  go_enter Tryz.func117, Tryz.ntmps117
  go_wp2
  obtain ⟨W1, hW1⟩ : ∃ W1, W1 = W.alloc (boxV pv) := ⟨_, rfl⟩
  have HW1 := HW.out
  have HP1 := HP.out
  rw [← hW1] at HW1 HP1 ⊢
  have hcon := Lib.hid hW1
  have hch1 := Lib.hid HW1
  have HP2 := Lib.hid HP1
  clear hW1 HW1 HW HP HP1
  go_loopw [0] (fun E' wl => wl = W1 ∧ ∃ l', Chain W1 E' l' (errnoV k)) (fun E' _ => chainLen W1 E')
  case atStart => exact ⟨rfl, l, hch1.out⟩
  case round =>
    obtain ⟨rfl, l', hc'⟩ := hrel
    cases l' with
    | nil =>
      obtain rfl : _ = (errnoV k) := hc'
      obtain ⟨q1, q2, q3, q4, q5, q6, q7⟩ := HP2.out
      have el := elemV pv t wr q1
      have st := setE t ⟨wr.heap.size, 0, none⟩ k old (wr.alloc (.cells #[.int .i64 k] 61)) (by simp) (by rw [World.cell?_alloc_lt _ _ t q7]; exact q2) (by rw [World.frozen?_alloc_old _ _ t (Nat.ne_of_lt q7)]; exact q3)
      clear q1 q2 q3 q7
      go_wp2
      go_ret
      refine ⟨rfl, ?_⟩
      rw [← hcon.out]
    | cons x r =>
      obtain ⟨s, n⟩ := x
      have hlen0 := chainLen_eq hB.out hc'
      obtain ⟨blk, v', rfl, h0, h1, h2, hr⟩ := hc'
      have hlen := chainLen_eq hB.out hr
      have HC := Lib.hid hr
      have HL := Lib.hid hlen
      have HL0 := Lib.hid hlen0
      have hne : ∃ u x, v' = .iface u x := by
        cases r with
        | nil => exact ⟨_, _, hr⟩
        | cons y r' => obtain ⟨_, _, e, _⟩ := hr; exact ⟨_, _, e⟩
      obtain ⟨u1, x1, rfl⟩ := hne
      clear hr hlen hlen0 h1 h2
      go_wp2
      go_roundw
      case rel => exact ⟨trivial, r, HC.out⟩
      case measure =>
        show chainLen _ (.iface u1 x1) < _
        rw [HL.out, HL0.out]; simp

/-! ### errors.As -/
abbrev ptrObj (t : Addr) : Obj := .cells #[.pointer (some t)] 151
def asW (W : World) (t : Addr) : World := (((W.alloc (ptrObj t)).alloc (boxV ⟨W.heap.size, 0, none⟩)).alloc (boxV ⟨W.heap.size, 0, none⟩))
/-- What the variable errors.errorType holds. -/
def ErrType (W : World) : Prop := W.cell? ⟨0, 0, none⟩ = some (.iface 220 (.agg #[.pointer (some ⟨4, 69, none⟩)]))

set_option maxRecDepth 1000000 in
set_option maxHeartbeats 4000000 in
theorem As_of {W : World} (t : Addr) (u : TypeId) (x : Value) (r : Bool) (Wf : World) (hg0 : ErrType W)
    (hcon : Calls Tryz.prog 117 #[.iface u x, .iface 151 (.pointer (some t)), tgtV ⟨W.heap.size, 0, none⟩, rtE] ((W.alloc (ptrObj t)).alloc (boxV ⟨W.heap.size, 0, none⟩)) fun e w' => e = .returned (.bool r) ∧ w' = Wf) :
    Calls Tryz.prog 81 #[.iface u x, .iface 151 (.pointer (some t))] W fun e w' => e = .returned (.bool r) ∧ w' = Wf := by
  have h6 := @run_callFunc_extern Tryz.prog 114 _ (fun args => ReflectliteValue.unpack (args.getD 0 (.tuple #[]))) Tryz.func114 (by kernel_rfl) (by kernel_rfl) (by kernel_rfl) (by kernel_rfl)
  have h7 := @run_callFunc_extern Tryz.prog 115 _ (ReflectliteValue.methodAny (ReflectliteValue.valueError "reflectlite.Value.Type" 0) (fun t _ _ _ => ReflectliteType.toType t)) Tryz.func115 (by kernel_rfl) (by kernel_rfl) (by kernel_rfl) (by kernel_rfl)
  have h8 := @run_callFunc_extern Tryz.prog 116 _ (ReflectliteValue.method (ReflectliteValue.valueError "reflectlite.Value.IsNil" 0) ReflectliteValue.isNil) Tryz.func116 (by kernel_rfl) (by kernel_rfl) (by kernel_rfl) (by kernel_rfl)
  have h27 := @run_callFunc_extern Tryz.prog 179 _ (ReflectliteType.abiMethod fun t => do pure (.int .u8 (← Rtype.kind t))) Tryz.func179 (by kernel_rfl) (by kernel_rfl) (by kernel_rfl) (by kernel_rfl)
  have h37 := @run_callFunc_extern Tryz.prog 191 _ (ReflectliteType.method ReflectliteType.elem) Tryz.func191 (by kernel_rfl) (by kernel_rfl) (by kernel_rfl) (by kernel_rfl)
  have h38 := @run_callFunc_extern Tryz.prog 192 _ (ReflectliteType.relation "Implements" ReflectliteType.implements_) Tryz.func192 (by kernel_rfl) (by kernel_rfl) (by kernel_rfl) (by kernel_rfl)
  have f6 := valueOfPE
  have f7 := typePE
  have mK := methodKind
  have mE := methodElem
  have mI := methodImplements
  have k27 := kindPE
  have k25 := kindE
  have e27 := elemPE
  have i25 := implementsE
  have n8 := isNilPE ⟨W.heap.size, 0, none⟩ t ((W.alloc (ptrObj t)).alloc (boxV ⟨W.heap.size, 0, none⟩)) (by rw [World.cell?_alloc_lt _ _ ⟨W.heap.size, 0, none⟩ (by simp)]; simp)
  have hg : W.cell? ⟨0, 0, none⟩ = some (.iface 220 (.agg #[.pointer (some ⟨4, 69, none⟩)])) := hg0
  have hlt := Lib.lt_of_cell hg
  have hg2 : ((W.alloc (ptrObj t)).alloc (boxV ⟨W.heap.size, 0, none⟩)).cell? ⟨0, 0, none⟩ = some (.iface 220 (.agg #[.pointer (some ⟨4, 69, none⟩)])) := by
    rw [World.cell?_alloc_lt _ _ ⟨0, 0, none⟩ (by first | (simp; done) | (simp; omega)), World.cell?_alloc_lt _ _ ⟨0, 0, none⟩ hlt]; exact hg
  have HC := Lib.hid hcon
  clear hcon hg0
  go_enter Tryz.func81, Tryz.ntmps81
  go_wp2_with (first | (go_at_call 117; refine HC.out.mono ?_; rintro e w' ⟨rfl, rfl⟩) | go_in)
  go_ret
  exact ⟨rfl, rfl⟩

theorem As_errno {W : World} (k : Int) (t : Addr) (old : Value) {E : Value} {l : List Pl} (hg0 : ErrType W) (hch : Chain W E l (errnoV k)) (ht : W.cell? t = some old) (hf : W.frozen? t = false) :
    Calls Tryz.prog 81 #[E, .iface 151 (.pointer (some t))] W fun e w' => e = .returned (.bool true) ∧ w' = ((asW W t).alloc (.cells #[.int .i64 k] 61)).setCell t (.int .i64 k) := by
  obtain ⟨u, x, rfl⟩ := ne_nil (.inl ⟨k, rfl⟩) hch
  have lt := Lib.lt_of_cell ht
  exact As_of t u x true _ hg0 (as_errno k t _ old _ l (hch.below (((Below.refl _ _).alloc (Nat.le_refl _) _).alloc (by simp) _))
    (by rw [World.cell?_alloc_lt _ _ ⟨W.heap.size, 0, none⟩ (by simp)]; simp)
    (by rw [World.cell?_alloc_lt _ _ t (by simp; omega), World.cell?_alloc_lt _ _ t lt]; exact ht)
    (by rw [World.frozen?_alloc_old _ _ t (by simp; omega), World.frozen?_alloc_old _ _ t (Nat.ne_of_lt lt)]; exact hf))
end Go.Proofs.YtlkljeedlkbkgaaGreatDoor.Fault
namespace Go.Proofs.YtlkljeedlkbkgaaGreatDoor.Fault
open Go.RowKit Go.Extern.Stop Go.Stop Go.Extern
set_option linter.unusedVariables false

theorem catchKind (p : Addr) (w : World) :
    CallsD Tryz.prog 80 #[.pointer (some p)] .returning w fun e u' w' => e = .returned (.tuple #[]) ∧ u' = .returning ∧ w' = w := by
  refine callsD_of_wpS Tryz.func80 rfl fun c₀ cs hu => ?_
  apply wpS_seq
  apply wpS_region
  simp [wpOpsS, go_sem, recoverD, hu, Tryz.ntmps80, Exit.thenS]
  refine wpS_cond (t := false) (by simp [Act.eval, Array.replicate]) ?_
  simp only [Bool.false_eq_true, if_false]
  refine wpS_of_wp (wp_skip ?_)
  cases c₀
  simp_all [bodyPostS, results, Tryz.results80]

set_option maxRecDepth 1000000 in
theorem kind_nil (w : World) : Calls Tryz.prog 37 #[.nilIface] w fun e w' => e = .returned (.int .i64 0) ∧ Below w.heap.size w w' := by
  have hmf : ∀ (fn : Fn) (first cap : Array Value) (w : World), (Instr.makeFunc fn first cap).run Tryz.prog w = .ok (.func fn first cap) w := fun _ _ _ _ => rfl
  go_enter_defers Tryz.func37, Tryz.ntmps37
  go_wp2
  simp [bodyPostD, Leaves, results, Tryz.results37, go_sem]
  exact (Below.refl _ _).alloc (Nat.le_refl _) _

set_option maxRecDepth 1000000 in
set_option maxHeartbeats 1000000 in
theorem kind_errno {w : World} (k : Int) {E : Value} {l : List Pl} (hg : ErrType w) (hch : Chain w E l (errnoV k)) :
    Calls Tryz.prog 37 #[E] w fun e w' => e = .returned (.int .i64 k) ∧ Below w.heap.size w w' := by
  have hmf : ∀ (fn : Fn) (first cap : Array Value) (w : World), (Instr.makeFunc fn first cap).run Tryz.prog w = .ok (.func fn first cap) w := fun _ _ _ _ => rfl
  obtain ⟨u, x, rfl⟩ := ne_nil (.inl ⟨k, rfl⟩) hch
  have hb : Below w.heap.size w ((w.alloc (.cells #[.int .i64 0] 61)).alloc (.cells #[.int .i64 0] 61)) := ((Below.refl _ _).alloc (Nat.le_refl _) _).alloc (by simp) _
  have hg1 : ErrType ((w.alloc (.cells #[.int .i64 0] 61)).alloc (.cells #[.int .i64 0] 61)) := (hb.cell (p := ⟨0, 0, none⟩) (Lib.lt_of_cell hg)).trans hg
  have hC := Lib.hid (As_errno k ⟨w.heap.size + 1, 0, none⟩ (.int .i64 0) hg1 (hch.below hb) (by rw [World.cell?_alloc_at _ _ _ _ (by simp)]; rfl) (by simp))
  clear hg hch hb hg1
  go_enter_defers Tryz.func37, Tryz.ntmps37
  go_wp2_with fail
  go_at_call 81
  refine hC.out.mono ?_
  rintro e w1 ⟨rfl, rfl⟩
  unfold asW
  go_wp2_with fail
  refine leaves_cons (f := 80) (args := #[.pointer (some ⟨w.heap.size, 0, none⟩)]) (by simp) (by simp [go_sem]) ?_
  refine (catchKind ⟨w.heap.size, 0, none⟩ _).mono ?_
  rintro e u' w'' ⟨rfl, rfl, rfl⟩
  simp [Leaves, settle, results, Tryz.results37, go_sem]
  repeat (first | exact Below.refl _ _ | refine Below.alloc ?_ (by simp; try omega) _)
end Go.Proofs.YtlkljeedlkbkgaaGreatDoor.Fault
namespace Go.Proofs.YtlkljeedlkbkgaaGreatDoor.Fault
open Go.RowKit
set_option linter.unusedVariables false

def plCells (l : List Pl) : List Value := l.flatMap fun x => [.string x.1, .int .i64 x.2]
theorem plCells_length (l : List Pl) : (plCells l).length = l.length * 2 := by
  induction l with
  | nil => rfl
  | cons x r ih => unfold plCells at *; rw [List.flatMap_cons, List.length_append, ih, List.length_cons]; simp; omega
theorem plCells_snoc (l : List Pl) (s : ByteArray) (n : Int) : plCells (l ++ [(s, n)]) = plCells l ++ [.string s, .int .i64 n] := by unfold plCells; simp

/-! what the assertion to *placed answers -/
theorem asP (v : Value) (w : World) : (Instr.typeAssert (.iface 170 v) 69 170 true).run Tryz.prog w = .ok (.tuple #[v, .bool true]) w := by kernel_rfl
theorem asE (v : Value) (w : World) : (Instr.typeAssert (.iface 61 v) 69 170 true).run Tryz.prog w = .ok (.tuple #[.pointer none, .bool false]) w := by kernel_rfl
theorem asS (v : Value) (w : World) : (Instr.typeAssert (.iface 16 v) 69 170 true).run Tryz.prog w = .ok (.tuple #[.pointer none, .bool false]) w := by kernel_rfl
theorem asNil (w : World) : (Instr.typeAssert .nilIface 69 170 true).run Tryz.prog w = .ok (.tuple #[.pointer none, .bool false]) w := by kernel_rfl

def At (W : World) (b : Value) : List Pl → Value → Value → Prop
  | [], p, okv => p = .pointer none ∧ okv = .bool false
  | (s, n) :: r, p, okv => ∃ blk v', p = .pointer (some ⟨blk, 0, none⟩) ∧ okv = .bool true ∧ W.cell? ⟨blk, 0, none⟩ = some v' ∧ W.cell? ⟨blk, 1, none⟩ = some (.string s) ∧ W.cell? ⟨blk, 2, none⟩ = some (.int .i64 n) ∧ Chain W v' r b
theorem at_of {W : World} {v b : Value} {l : List Pl} (hb : IsBase b) (h : Chain W v l b) : ∃ p okv, At W b l p okv ∧ ∀ w, (Instr.typeAssert v 69 170 true).run Tryz.prog w = .ok (.tuple #[p, okv]) w := by
  cases l with
  | nil =>
    obtain rfl : v = b := h
    refine ⟨_, _, ⟨rfl, rfl⟩, ?_⟩
    rcases hb with ⟨k, rfl⟩ | ⟨a, rfl⟩
    · exact asE _
    · exact asS _
  | cons x r =>
    obtain ⟨s, n⟩ := x
    obtain ⟨blk, v', rfl, h0, h1, h2, hr⟩ := h
    exact ⟨_, _, ⟨blk, v', rfl, rfl, h0, h1, h2, hr⟩, asP _⟩

theorem infoPl : (Tryz.prog.info? 136).map (fun i => (i.zero, i.size, i.bytes)) = some (some (.agg #[.string ⟨#[]⟩, .int .i64 0]), 2, 24) := by kernel_rfl

theorem news2 (W : World) (s : ByteArray) (n : Int) (T : TypeId) : ∀ j u, ([Value.string s, .int .i64 n])[j]? = some u → (W.alloc (.cells #[.string s, .int .i64 n] T)).cell? ((⟨W.heap.size, 0, none⟩ : Addr).add j) = some u := by
  intro j u hj
  match j, hj with
  | 0, hj => simp at hj; subst hj; simp [Addr.add]
  | 1, hj => simp at hj; subst hj; simp [Addr.add]

set_option maxRecDepth 100000 in
set_option maxHeartbeats 2000000 in
theorem path_any {w : World} {E b : Value} {l : List Pl} (hb : IsBase b) (hch : Chain w E l b) (hlen : l.length ≤ 1000) :
    Calls Tryz.prog 68 #[E] w fun e w' => ∃ v, e = .returned v ∧ w'.ownsRow w.heap.size 136 2 v l.length (plCells l) ∧ Below w.heap.size w w' := by
  obtain ⟨i0, hi, hz0, hz1, hz2⟩ := info_parts infoPl
  obtain ⟨u, x, rfl⟩ := ne_nil hb hch
  obtain ⟨p0, ok0, hat0, has0⟩ := at_of hb hch
  have HAT := Lib.hid hat0
  have HB := Lib.hid hb
  clear hch hat0 hb
  go_enter Tryz.func68, Tryz.ntmps68
  go_wp2
  go_loopg [3, 4, 5] l.length (fun k v p okv wr => ∃ done rest, done ++ rest = l ∧ rest.length = k ∧ At w b rest p okv ∧ wr.ownsRow w.heap.size 136 2 v done.length (plCells done) ∧ Below w.heap.size w wr)
  case atStart => exact ⟨[], l, rfl, rfl, HAT.out, World.ownsRow_nil _ _ _ _, Below.refl _ _⟩
  case round =>
    obtain ⟨done, rest, hl, hk, hat, hown, hbw⟩ := hrel
    have HL := Lib.hid hl
    have HK := Lib.hid hk
    cases rest with
    | nil =>
      obtain ⟨rfl, rfl⟩ := hat
      have hdl : done = l := by rw [← HL.out, List.append_nil]
      rw [hdl] at hown
      have HO := Lib.hid hown
      clear hl hk hown hdl
      go_wp2
      go_ret
      exact ⟨_, rfl, HO.out, hbw⟩
    | cons y r =>
      obtain ⟨s, n⟩ := y
      obtain ⟨blk, v', rfl, rfl, g0, g1, g2, hr⟩ := hat
      have hlt := Lib.lt_of_cell g0
      have h0 := (hbw.cell (p := ⟨blk, 0, none⟩) hlt).trans g0
      have h1 := (hbw.cell (p := ⟨blk, 1, none⟩) hlt).trans g1
      have h2 := (hbw.cell (p := ⟨blk, 2, none⟩) hlt).trans g2
      have HG := Lib.hid g0
      clear g0 g1 g2
      obtain ⟨p1, ok1, hat1, has1⟩ := at_of HB.out hr
      have HA1 := Lib.hid hat1
      have hdl : done.length + 1 ≤ 1000 := by have e := congrArg List.length HL.out; rw [List.length_append, List.length_cons] at e; omega
      have HR := Lib.hid hr
      clear hl hk hat1 hr
      go_wp2_with (at_builtin; refine wpList_append_own _ rfl _ _ 133 rfl w.heap.size 136 i0 (.agg #[.string ⟨#[]⟩, .int .i64 0]) 2 24 Tryz.underlying133 hi hz0 hz1 hz2 rfl (by decide) _ _ _ rfl (hown.alloc _) ⟨wr.heap.size, 0, none⟩ 1 1 [.string s, .int .i64 n] rfl rfl (news2 _ _ _ _) ?c2 ?c3 ?c4 ?c5 ?_)
      case c2 => exact ⟨rfl, rfl⟩
      case c3 => unfold maxLen; omega
      case c4 => omega
      case c5 => have := hbw.size; simp; omega
      intro v2 w1 hown' hgrow _
      have hb1 : Below w.heap.size w w1 := (hbw.alloc (by have := hbw.size; omega) _).grown hgrow (by have := hbw.size; simp; omega) (fun k e => (hown.lt k e).1)
      have k0 := (hb1.cell (p := ⟨blk, 0, none⟩) hlt).trans HG.out
      have HO := Lib.hid hown'
      clear hown hown' hgrow h0 h1 h2 hbw
      go_wp2
      go_roundg r.length
      case measure => rw [← HK.out]; simp
      case rel =>
        refine ⟨done ++ [(s, n)], r, by rw [List.append_assoc]; exact HL.out, rfl, HA1.out, ?_, hb1⟩
        have h := HO.out
        rw [List.length_append, plCells_snoc]
        exact h
end Go.Proofs.YtlkljeedlkbkgaaGreatDoor.Fault
