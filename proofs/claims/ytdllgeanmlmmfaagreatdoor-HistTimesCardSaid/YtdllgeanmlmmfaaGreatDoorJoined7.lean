/-
  ERRORS AT PLACES: what a chain of them is in memory; the library's errors.Is along such a chain, of whatever length.
  WHAT PACKAGE stamp's CALLS ANSWER, AND THE DOCUMENT's OWN PACKAGE's: Plus, Reaches: a contract each, for every two or three numbers of 64 bits.
-/
import Derived.Test.YtdllgeanmlmmfaaGreatDoorRows
import Derived.WalkKit
import Derived.WalkLawsBesides
import Derived.WalkSpells
import Derived.LaidEql
import Derived.Stop.Asserts
import Derived.RowKitTokens
import Derived.Elder7
import Derived.Lib.Hide
import Derived.Lib.AtoiErrMem
import Derived.WalkSmall
import Derived.Outline
namespace Go.Proofs.YtdllgeanmlmmfaaGreatDoor.Fault
open Go.RowKit Go.Extern.Stop Go.Stop Go.Extern
set_option linter.unusedVariables false

/-! ### '==' between two errors that are numbers of one type (after the given note's text) -/
section
variable {P : Program} (w : World)
theorem run_equalIn_iface_int (d : Nat) {ti tn : TypeId} {ms : Array (String × TypeId)} {i : TypeInfo} {k : IntKind} (a b : Int)
    (hi : P.underlying ti = some (.interface ms)) (hn : P.underlying tn = some (.int k)) (hinfo : P.info? tn = some i) (hcomp : i.comparable = true) :
    (Op.equalIn (d + 2) ti (.iface tn (.int k a)) (.iface tn (.int k b))).run P w = .ok (a == b) w := by
  simp [Op.equalIn, run_underlying hi, run_underlying hn, typeInfo, hinfo, hcomp]
theorem run_eql_iface_int {ti tn : TypeId} {ms : Array (String × TypeId)} {i : TypeInfo} {k : IntKind} (a b : Int)
    (hi : P.underlying ti = some (.interface ms)) (hn : P.underlying tn = some (.int k)) (hinfo : P.info? tn = some i) (hcomp : i.comparable = true) :
    (binOp .eql ti (.iface tn (.int k a)) (.iface tn (.int k b))).run P w = .ok (.bool (a == b)) w := by
  simp only [binOp]
  simp [Op.equal, Op.maxDepth, run_equalIn_iface_int w 9998 a b hi hn hinfo hcomp]
end

/-! ### a chain in memory -/
abbrev Pl := ByteArray × Int
abbrev placedV (blk : Nat) : Value := .iface 123 (.pointer (some ⟨blk, 0, none⟩))
abbrev errnoV (k : Int) : Value := .iface 44 (.int .i64 k)
abbrev plainV (a : Addr) : Value := .iface 16 (.pointer (some a))
def Chain (W : World) : Value → List Pl → Value → Prop
  | v, [], b => v = b
  | v, (s, n) :: r, b => ∃ (blk : Nat) (v' : Value), v = placedV blk ∧ W.cell? ⟨blk, 0, none⟩ = some v' ∧ W.cell? ⟨blk, 1, none⟩ = some (.string s) ∧ W.cell? ⟨blk, 2, none⟩ = some (.int .i64 n) ∧ Chain W v' r b
def IsBase (b : Value) : Prop := (∃ k, b = errnoV k) ∨ ∃ a, b = plainV a
theorem base_ne {b : Value} (h : IsBase b) (blk : Nat) : b ≠ placedV blk := by
  rintro rfl
  rcases h with ⟨k, h⟩ | ⟨a, h⟩
  · simp at h
  · simp at h
theorem Chain.unique {W : World} : ∀ {l l' : List Pl} {v b b' : Value}, IsBase b → IsBase b' → Chain W v l b → Chain W v l' b' → l.length = l'.length
  | [], [], _, _, _, _, _, _, _ => rfl
  | [], (_, _) :: _, v, b, b', hb, hb', h, h' => by
    obtain ⟨blk, v', e, _⟩ := h'
    have h : v = b := h
    exact absurd (h ▸ e) (base_ne hb blk)
  | (_, _) :: _, [], v, b, b', hb, hb', h, h' => by
    obtain ⟨blk, v', e, _⟩ := h
    have h' : v = b' := h'
    exact absurd (h' ▸ e) (base_ne hb' blk)
  | (_, _) :: r, (_, _) :: r', v, b, b', hb, hb', h, h' => by
    obtain ⟨blk, v1, e, hc, _, _, hr⟩ := h
    obtain ⟨blk', v1', e', hc', _, _, hr'⟩ := h'
    rw [e] at e'
    have hblk : blk = blk' := by simpa using e'
    subst hblk
    rw [hc] at hc'
    obtain rfl := Option.some.inj hc'
    rw [List.length_cons, List.length_cons, Chain.unique hb hb' hr hr']
open Classical in
/-- How many links are left: the loops' measure. -/
noncomputable def chainLen (W : World) (v : Value) : Nat := if h : ∃ (n : Nat) (l : List Pl) (b : Value), l.length = n ∧ IsBase b ∧ Chain W v l b then h.choose else 0
theorem chainLen_eq {W : World} {v b : Value} {l : List Pl} (hb : IsBase b) (h : Chain W v l b) : chainLen W v = l.length := by
  unfold chainLen
  have hex : ∃ (n : Nat) (l : List Pl) (b : Value), l.length = n ∧ IsBase b ∧ Chain W v l b := ⟨_, l, b, rfl, hb, h⟩
  rw [dif_pos hex]
  obtain ⟨l', b', e, hb', h'⟩ := hex.choose_spec
  rw [← e]
  exact Chain.unique hb' hb h' h
theorem Chain.below {W W' : World} (hw : Below W.heap.size W W') : ∀ {l : List Pl} {v b : Value}, Chain W v l b → Chain W' v l b
  | [], _, _, h => h
  | (s, n) :: r, v, b, ⟨blk, v', e, h0, h1, h2, hr⟩ => by
    have hlt := Lib.lt_of_cell h0
    exact ⟨blk, v', e, (hw.cell (p := ⟨blk, 0, none⟩) hlt).trans h0, (hw.cell (p := ⟨blk, 1, none⟩) hlt).trans h1, (hw.cell (p := ⟨blk, 2, none⟩) hlt).trans h2, Chain.below hw hr⟩

/-! ### closed facts on the method sets -/
theorem hasUnP (v : Value) (xT : TypeId) (w : World) : (Instr.typeAssert (.iface 123 v) xT 185 true).run Tryz.prog w = .ok (.tuple #[.iface 123 v, .bool true]) w := run_typeAssert_hasB Tryz.underlying185 (by kernel_rfl) v xT w
theorem noUnE (v : Value) (xT : TypeId) (w : World) : (Instr.typeAssert (.iface 44 v) xT 185 true).run Tryz.prog w = .ok (.tuple #[.nilIface, .bool false]) w := run_typeAssert_lacksB Tryz.underlying185 (by kernel_rfl) (by kernel_rfl) v xT w
theorem noUnS (v : Value) (xT : TypeId) (w : World) : (Instr.typeAssert (.iface 16 v) xT 185 true).run Tryz.prog w = .ok (.tuple #[.nilIface, .bool false]) w := run_typeAssert_lacksB Tryz.underlying185 (by kernel_rfl) (by kernel_rfl) v xT w
theorem noUnsE (v : Value) (xT : TypeId) (w : World) : (Instr.typeAssert (.iface 44 v) xT 187 true).run Tryz.prog w = .ok (.tuple #[.nilIface, .bool false]) w := run_typeAssert_lacksB Tryz.underlying187 (by kernel_rfl) (by kernel_rfl) v xT w
theorem noUnsS (v : Value) (xT : TypeId) (w : World) : (Instr.typeAssert (.iface 16 v) xT 187 true).run Tryz.prog w = .ok (.tuple #[.nilIface, .bool false]) w := run_typeAssert_lacksB Tryz.underlying187 (by kernel_rfl) (by kernel_rfl) v xT w
theorem methodUnwrap (v : Value) (w : World) : (Go.method 404 123 v "Unwrap").run Tryz.prog w = .ok (203, v) w := by kernel_rfl
/-- What the model's entry for the method Comparable asks and answers. -/
def cmpFn : TypeId → Sem Value := fun t => do Extern.Rtype.noPackHeld "Comparable" t; pure (.bool (← typeInfo t).comparable)
theorem isTypeOfE (v : Value) (w : World) : (Extern.ReflectliteType.typeOf #[.iface 44 v]).run Tryz.prog w = .ok (.iface 177 (.agg #[.pointer (some ⟨4, 44, none⟩)])) w := by kernel_rfl
theorem compE (w : World) : ((Extern.ReflectliteType.method cmpFn) #[.agg #[.pointer (some ⟨4, 44, none⟩)]]).run Tryz.prog w = .ok (.bool true) w := by kernel_rfl
theorem methodComparable (v : Value) (w : World) : (Go.method 404 177 v "Comparable").run Tryz.prog w = .ok (209, v) w := by kernel_rfl
theorem infoE : (Tryz.prog.info? 44).map (·.comparable) = some true := by kernel_rfl
/-! ### errors.Is -/
theorem ne_nil {W : World} {v b : Value} {l : List Pl} (hb : IsBase b) (h : Chain W v l b) : ∃ u x, v = .iface u x := by
  cases l with
  | nil => rcases hb with ⟨k, rfl⟩ | ⟨a, rfl⟩ <;> exact ⟨_, _, h⟩
  | cons y r => obtain ⟨_, _, e, _⟩ := h; exact ⟨_, _, e⟩

end Go.Proofs.YtdllgeanmlmmfaaGreatDoor.Fault
namespace Go.Proofs.YtdllgeanmlmmfaaGreatDoor.Stamp
open Go.RowKit
set_option linter.unusedVariables false

/-- t and s; the greatest number where there is no such time. -/
def plusF (a b : Int) : Int := if 18446744073709551615 - a ≤ b then 18446744073709551615 else a + b
def reachB (a b c : Int) : Bool := decide (plusF a b ≠ 18446744073709551615 ∧ plusF a b ≤ c)
def U (a : Int) : Prop := 0 ≤ a ∧ a ≤ 18446744073709551615

theorem ret_int {k : IntKind} {a b : Int} (h : a = b) : Ending.returned (.int k a) = .returned (.int k b) := by rw [h]
theorem plusF_U {a b : Int} (ha : U a) (hb : U b) : U (plusF a b) := by unfold U plusF at *; split <;> omega

theorem plus_any (a b : Int) (ha : U a) (hb : U b) (w : World) :
    Calls Tryz.prog 89 #[.int .u64 a, .int .u64 b] w fun e w' => e = .returned (.int .u64 (plusF a b)) ∧ w = w' := by
  obtain ⟨ha1, ha2⟩ := ha
  obtain ⟨hb1, hb2⟩ := hb
  by_cases h : 18446744073709551615 - a ≤ b
  · go_enter Tryz.func89, Tryz.ntmps89
    go_wp2
    go_ret
    exact ⟨ret_int (by unfold plusF; rw [if_pos h]), rfl⟩
  · go_enter Tryz.func89, Tryz.ntmps89
    go_wp2
    go_ret
    exact ⟨ret_int (by unfold plusF; rw [if_neg (by omega)]), rfl⟩

theorem refPlus_any (a b : Int) (ha : U a) (hb : U b) (w : World) :
    Calls Tryz.prog 87 #[.int .u64 a, .int .u64 b] w fun e w' => e = .returned (.int .u64 (plusF a b)) ∧ w = w' := by
  obtain ⟨ha1, ha2⟩ := ha
  obtain ⟨hb1, hb2⟩ := hb
  by_cases h : 18446744073709551615 - a ≤ b
  · go_enter Tryz.func87, Tryz.ntmps87
    go_wp2
    go_ret
    exact ⟨ret_int (by unfold plusF; rw [if_pos h]), rfl⟩
  · go_enter Tryz.func87, Tryz.ntmps87
    go_wp2
    go_ret
    exact ⟨ret_int (by unfold plusF; rw [if_neg (by omega)]), rfl⟩

theorem reaches_any (a b c : Int) (ha : U a) (hb : U b) (hc : U c) (w : World) :
    Calls Tryz.prog 156 #[.int .u64 a, .int .u64 b, .int .u64 c] w fun e w' => e = .returned (.bool (reachB a b c)) ∧ w = w' := by
  have hp := plusF_U ha hb
  obtain ⟨hp1, hp2⟩ := hp
  by_cases h1 : plusF a b = 18446744073709551615
  · have e1 : (plusF a b != 18446744073709551615) = false := by rw [bne_eq_false_iff_eq]; exact h1
    have hr0 : reachB a b c = false := by unfold reachB; exact decide_eq_false (fun h => h.1 h1)
    have hr := Lib.hid hr0
    clear h1 hr0
    go_enter Tryz.func156, Tryz.ntmps156
    go_wp2_with (go_at_call 89; refine (plus_any a b ha hb _).mono ?_; rintro e w' ⟨rfl, rfl⟩)
    go_ret
    exact ⟨by rw [hr.out]; rfl, rfl⟩
  · have e1 : (plusF a b != 18446744073709551615) = true := by rw [bne_iff_ne]; exact h1
    have hr0 : reachB a b c = decide (plusF a b ≤ c) := by unfold reachB; exact decide_eq_decide.2 ⟨fun h => h.2, fun h => ⟨h1, h⟩⟩
    have hr := Lib.hid hr0
    clear h1 hr0
    go_enter Tryz.func156, Tryz.ntmps156
    go_wp2_with (go_at_call 89; refine (plus_any a b ha hb _).mono ?_; rintro e w' ⟨rfl, rfl⟩)
    go_ret
    exact ⟨by rw [hr.out]; rfl, rfl⟩

end Go.Proofs.YtdllgeanmlmmfaaGreatDoor.Stamp
