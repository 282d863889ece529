
/-
  ERRORS AT PLACES: what a chain of them is in memory; the library's errors.Is along such a chain, of whatever length.
-/
import Derived.Test.YtkcmeklgnbejiaaDoorRows
import Derived.WalkKit
import Derived.WalkLawsBesides
import Derived.WalkSpells
import Derived.LaidEql
import Derived.Stop.Asserts
import Derived.RowKitTokens
import Derived.Elder7
import Derived.Lib.Hide
import Derived.Lib.AtoiErrMem
import Derived.WalkSmall
import Derived.Outline
namespace Go.Proofs.YtkcmeklgnbejiaaDoor.Fault
open Go.RowKit Go.Extern.Stop Go.Stop Go.Extern
set_option linter.unusedVariables false

/-! ### '==' between two errors that are numbers of one type (after the given note's text) -/
section
variable {P : Program} (w : World)
theorem run_equalIn_iface_int (d : Nat) {ti tn : TypeId} {ms : Array (String × TypeId)} {i : TypeInfo} {k : IntKind} (a b : Int)
    (hi : P.underlying ti = some (.interface ms)) (hn : P.underlying tn = some (.int k)) (hinfo : P.info? tn = some i) (hcomp : i.comparable = true) :
    (Op.equalIn (d + 2) ti (.iface tn (.int k a)) (.iface tn (.int k b))).run P w = .ok (a == b) w := by
  simp [Op.equalIn, run_underlying hi, run_underlying hn, typeInfo, hinfo, hcomp]
theorem run_eql_iface_int {ti tn : TypeId} {ms : Array (String × TypeId)} {i : TypeInfo} {k : IntKind} (a b : Int)
    (hi : P.underlying ti = some (.interface ms)) (hn : P.underlying tn = some (.int k)) (hinfo : P.info? tn = some i) (hcomp : i.comparable = true) :
    (binOp .eql ti (.iface tn (.int k a)) (.iface tn (.int k b))).run P w = .ok (.bool (a == b)) w := by
  simp only [binOp]
  simp [Op.equal, Op.maxDepth, run_equalIn_iface_int w 9998 a b hi hn hinfo hcomp]
end

/-! ### a chain in memory -/
abbrev Pl := ByteArray × Int
abbrev placedV (blk : Nat) : Value := .iface 119 (.pointer (some ⟨blk, 0, none⟩))
abbrev errnoV (k : Int) : Value := .iface 38 (.int .i64 k)
abbrev plainV (a : Addr) : Value := .iface 16 (.pointer (some a))
def Chain (W : World) : Value → List Pl → Value → Prop
  | v, [], b => v = b
  | v, (s, n) :: r, b => ∃ (blk : Nat) (v' : Value), v = placedV blk ∧ W.cell? ⟨blk, 0, none⟩ = some v' ∧ W.cell? ⟨blk, 1, none⟩ = some (.string s) ∧ W.cell? ⟨blk, 2, none⟩ = some (.int .i64 n) ∧ Chain W v' r b
def IsBase (b : Value) : Prop := (∃ k, b = errnoV k) ∨ ∃ a, b = plainV a
theorem base_ne {b : Value} (h : IsBase b) (blk : Nat) : b ≠ placedV blk := by
  rintro rfl
  rcases h with ⟨k, h⟩ | ⟨a, h⟩
  · simp at h
  · simp at h
theorem Chain.unique {W : World} : ∀ {l l' : List Pl} {v b b' : Value}, IsBase b → IsBase b' → Chain W v l b → Chain W v l' b' → l.length = l'.length
  | [], [], _, _, _, _, _, _, _ => rfl
  | [], (_, _) :: _, v, b, b', hb, hb', h, h' => by
    obtain ⟨blk, v', e, _⟩ := h'
    have h : v = b := h
    exact absurd (h ▸ e) (base_ne hb blk)
  | (_, _) :: _, [], v, b, b', hb, hb', h, h' => by
    obtain ⟨blk, v', e, _⟩ := h
    have h' : v = b' := h'
    exact absurd (h' ▸ e) (base_ne hb' blk)
  | (_, _) :: r, (_, _) :: r', v, b, b', hb, hb', h, h' => by
    obtain ⟨blk, v1, e, hc, _, _, hr⟩ := h
    obtain ⟨blk', v1', e', hc', _, _, hr'⟩ := h'
    rw [e] at e'
    have hblk : blk = blk' := by simpa using e'
    subst hblk
    rw [hc] at hc'
    obtain rfl := Option.some.inj hc'
    rw [List.length_cons, List.length_cons, Chain.unique hb hb' hr hr']
open Classical in
/-- How many links are left: the loops' measure. -/
noncomputable def chainLen (W : World) (v : Value) : Nat := if h : ∃ (n : Nat) (l : List Pl) (b : Value), l.length = n ∧ IsBase b ∧ Chain W v l b then h.choose else 0
theorem chainLen_eq {W : World} {v b : Value} {l : List Pl} (hb : IsBase b) (h : Chain W v l b) : chainLen W v = l.length := by
  unfold chainLen
  have hex : ∃ (n : Nat) (l : List Pl) (b : Value), l.length = n ∧ IsBase b ∧ Chain W v l b := ⟨_, l, b, rfl, hb, h⟩
  rw [dif_pos hex]
  obtain ⟨l', b', e, hb', h'⟩ := hex.choose_spec
  rw [← e]
  exact Chain.unique hb' hb h' h
theorem Chain.below {W W' : World} (hw : Below W.heap.size W W') : ∀ {l : List Pl} {v b : Value}, Chain W v l b → Chain W' v l b
  | [], _, _, h => h
  | (s, n) :: r, v, b, ⟨blk, v', e, h0, h1, h2, hr⟩ => by
    have hlt := Lib.lt_of_cell h0
    exact ⟨blk, v', e, (hw.cell (p := ⟨blk, 0, none⟩) hlt).trans h0, (hw.cell (p := ⟨blk, 1, none⟩) hlt).trans h1, (hw.cell (p := ⟨blk, 2, none⟩) hlt).trans h2, Chain.below hw hr⟩

/-! ### closed facts on the method sets -/
theorem noIsP (v : Value) (xT : TypeId) (w : World) : (Instr.typeAssert (.iface 119 v) xT 154 true).run Tryd.prog w = .ok (.tuple #[.nilIface, .bool false]) w := run_typeAssert_lacksB Tryd.underlying154 (by kernel_rfl) (by kernel_rfl) v xT w
theorem noIsE (v : Value) (xT : TypeId) (w : World) : (Instr.typeAssert (.iface 38 v) xT 154 true).run Tryd.prog w = .ok (.tuple #[.nilIface, .bool false]) w := run_typeAssert_lacksB Tryd.underlying154 (by kernel_rfl) (by kernel_rfl) v xT w
theorem noIsS (v : Value) (xT : TypeId) (w : World) : (Instr.typeAssert (.iface 16 v) xT 154 true).run Tryd.prog w = .ok (.tuple #[.nilIface, .bool false]) w := run_typeAssert_lacksB Tryd.underlying154 (by kernel_rfl) (by kernel_rfl) v xT w
theorem hasUnP (v : Value) (xT : TypeId) (w : World) : (Instr.typeAssert (.iface 119 v) xT 144 true).run Tryd.prog w = .ok (.tuple #[.iface 119 v, .bool true]) w := run_typeAssert_hasB Tryd.underlying144 (by kernel_rfl) v xT w
theorem noUnE (v : Value) (xT : TypeId) (w : World) : (Instr.typeAssert (.iface 38 v) xT 144 true).run Tryd.prog w = .ok (.tuple #[.nilIface, .bool false]) w := run_typeAssert_lacksB Tryd.underlying144 (by kernel_rfl) (by kernel_rfl) v xT w
theorem noUnS (v : Value) (xT : TypeId) (w : World) : (Instr.typeAssert (.iface 16 v) xT 144 true).run Tryd.prog w = .ok (.tuple #[.nilIface, .bool false]) w := run_typeAssert_lacksB Tryd.underlying144 (by kernel_rfl) (by kernel_rfl) v xT w
theorem noUnsE (v : Value) (xT : TypeId) (w : World) : (Instr.typeAssert (.iface 38 v) xT 146 true).run Tryd.prog w = .ok (.tuple #[.nilIface, .bool false]) w := run_typeAssert_lacksB Tryd.underlying146 (by kernel_rfl) (by kernel_rfl) v xT w
theorem noUnsS (v : Value) (xT : TypeId) (w : World) : (Instr.typeAssert (.iface 16 v) xT 146 true).run Tryd.prog w = .ok (.tuple #[.nilIface, .bool false]) w := run_typeAssert_lacksB Tryd.underlying146 (by kernel_rfl) (by kernel_rfl) v xT w
theorem methodUnwrap (v : Value) (w : World) : (Go.method 313 119 v "Unwrap").run Tryd.prog w = .ok (129, v) w := by kernel_rfl
/-- What the model's entry for the method Comparable asks and answers. -/
def cmpFn : TypeId → Sem Value := fun t => do Extern.Rtype.noPackHeld "Comparable" t; pure (.bool (← typeInfo t).comparable)
theorem isTypeOfE (v : Value) (w : World) : (Extern.ReflectliteType.typeOf #[.iface 38 v]).run Tryd.prog w = .ok (.iface 137 (.agg #[.pointer (some ⟨4, 38, none⟩)])) w := by kernel_rfl
theorem compE (w : World) : ((Extern.ReflectliteType.method cmpFn) #[.agg #[.pointer (some ⟨4, 38, none⟩)]]).run Tryd.prog w = .ok (.bool true) w := by kernel_rfl
theorem methodComparable (v : Value) (w : World) : (Go.method 313 137 v "Comparable").run Tryd.prog w = .ok (132, v) w := by kernel_rfl
theorem infoE : (Tryd.prog.info? 38).map (·.comparable) = some true := by kernel_rfl
set_option maxRecDepth 1000000 in
set_option maxHeartbeats 1000000 in
theorem is_errno {W : World} (k k' : Int) (E : Value) (l : List Pl) (hch : Chain W E l (errnoV k')) :
    Calls Tryd.prog 70 #[E, .iface 38 (.int .i64 k), .bool true] W fun e w' => e = .returned (.bool (k' == k)) ∧ W = w' := by
  have nP := noIsP
  have uP := hasUnP
  have mU := methodUnwrap
  have hB := Lib.hid (show IsBase (errnoV k') from (.inl ⟨k', rfl⟩))
  obtain ⟨i, hi, hcmp⟩ := Option.map_eq_some_iff.1 infoE
  have heq := fun w => run_eql_iface_int (P := Tryd.prog) w k' k Tryd.underlying28 Tryd.underlying38 hi hcmp
  have n1 := noIsE
  have n2 := noUnE
  have n3 := noUnsE
  go_enter Tryd.func70, Tryd.ntmps70
  go_wp2
  go_loopw [0] (fun E' wl => wl = W ∧ ∃ l', Chain W E' l' (errnoV k')) (fun E' _ => chainLen W E')
  case atStart => exact ⟨rfl, l, hch⟩
  case round =>
    obtain ⟨rfl, l', hc'⟩ := hrel
    cases l' with
    | nil =>
      obtain rfl : _ = (errnoV k') := hc'
      cases hkk : (k' == k)
      all_goals
        go_wp2
        go_ret
        exact ⟨by rw [hkk]; rfl, rfl⟩
    | cons x r =>
      obtain ⟨s, n⟩ := x
      have hlen0 := chainLen_eq hB.out hc'
      obtain ⟨blk, v', rfl, h0, h1, h2, hr⟩ := hc'
      have hlen := chainLen_eq hB.out hr
      have HC := Lib.hid hr
      have HL := Lib.hid hlen
      have HL0 := Lib.hid hlen0
      have hty := run_eql_iface_types (P := Tryd.prog) 119 38 (.pointer (some ⟨blk, 0, none⟩)) (.int .i64 k) Tryd.underlying28 (by decide)
      have hne : ∃ u x, v' = .iface u x := by
        cases r with
        | nil => exact ⟨_, _, hr⟩
        | cons y r' => obtain ⟨_, _, e, _⟩ := hr; exact ⟨_, _, e⟩
      obtain ⟨u1, x1, rfl⟩ := hne
      clear hr hlen hlen0 h1 h2
      go_wp2
      go_roundw
      case rel => exact ⟨trivial, r, HC.out⟩
      case measure =>
        show chainLen _ (.iface u1 x1) < _
        rw [HL.out, HL0.out]; simp

/-! ### errors.Is -/
theorem ne_nil {W : World} {v b : Value} {l : List Pl} (hb : IsBase b) (h : Chain W v l b) : ∃ u x, v = .iface u x := by
  cases l with
  | nil => rcases hb with ⟨k, rfl⟩ | ⟨a, rfl⟩ <;> exact ⟨_, _, h⟩
  | cons y r => obtain ⟨_, _, e, _⟩ := h; exact ⟨_, _, e⟩

set_option maxRecDepth 1000000 in
theorem Is_of (tE : TypeId) (u : TypeId) (x tv : Value) (r : Bool) (W : World)
    (htE : ∀ w, (Extern.ReflectliteType.typeOf #[.iface tE tv]).run Tryd.prog w = .ok (.iface 137 (.agg #[.pointer (some ⟨4, tE, none⟩)])) w)
    (hcE : ∀ w, ((Extern.ReflectliteType.method cmpFn) #[.agg #[.pointer (some ⟨4, tE, none⟩)]]).run Tryd.prog w = .ok (.bool true) w)
    (hcon : Calls Tryd.prog 70 #[.iface u x, .iface tE tv, .bool true] W fun e w' => e = .returned (.bool r) ∧ W = w') :
    Calls Tryd.prog 48 #[.iface u x, .iface tE tv] W fun e w' => e = .returned (.bool r) ∧ W = w' := by
  have h10 := @run_callFunc_extern Tryd.prog 69 _ Extern.ReflectliteType.typeOf Tryd.func69 (by kernel_rfl) (by kernel_rfl) (by kernel_rfl) (by kernel_rfl)
  have h30 := @run_callFunc_extern Tryd.prog 132 _ (Extern.ReflectliteType.method cmpFn) Tryd.func132 (by kernel_rfl) (by kernel_rfl) (by kernel_rfl) (by kernel_rfl)
  have mR := methodComparable
  have HC := Lib.hid hcon
  clear hcon
  go_enter Tryd.func48, Tryd.ntmps48
  go_wp2_with (first | (go_at_call 70; refine HC.out.mono ?_; rintro e w' ⟨rfl, rfl⟩) | go_in)
  go_ret
  exact ⟨rfl, rfl⟩
theorem Is_nil (t : Value) (W : World) : Calls Tryd.prog 48 #[.nilIface, .iface 38 t] W fun e w' => e = .returned (.bool false) ∧ W = w' := by
  have hn := run_eql_iface_nil_left (P := Tryd.prog) W 38 t Tryd.underlying28
  go_enter Tryd.func48, Tryd.ntmps48
  go_wp2
  go_ret
  exact ⟨rfl, rfl⟩
theorem Is_errno {W : World} (k k' : Int) {E : Value} {l : List Pl} (hch : Chain W E l (errnoV k')) :
    Calls Tryd.prog 48 #[E, errnoV k] W fun e w' => e = .returned (.bool (k' == k)) ∧ W = w' := by
  obtain ⟨u, x, rfl⟩ := ne_nil (.inl ⟨k', rfl⟩) hch
  exact Is_of _ u x _ _ W (isTypeOfE _) compE (is_errno k k' _ l hch)
end Go.Proofs.YtkcmeklgnbejiaaDoor.Fault
