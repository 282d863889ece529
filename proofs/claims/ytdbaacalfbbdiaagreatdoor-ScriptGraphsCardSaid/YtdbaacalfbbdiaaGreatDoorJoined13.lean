/-
  THE LIBRARY's errors.As along a chain of errors at places, the target a variable of the document's own number type: it finds the number at the chain's end; of a plain error it finds none.
  THE LIBRARY's errors.As along a chain of errors at places that ends with a number: true, and the target holds that number; and errors.As itself, at both ends of a chain.
  PACKAGE fault's Kind and Is: what they answer of nil, of a chain of places that ends with a number, and of one that ends with a plain error.
  PACKAGE fault's Path: the places of a chain, the outer ones ahead, in memory of the call's own.
  THE WORDS OF THE NUMBERS, and Path of nil.
  PACKAGE fault's Text: the places of a chain in words, the outer ones ahead, then the word of its number.
-/
import Derived.Test.YtdbaacalfbbdiaaGreatDoorJoined6
import Derived.Defers
import Derived.Recover
import Derived.Deep.LoopGhost
import Derived.Laws.AppendOwn
import Derived.OwnWalk
import Derived.Test.YtdbaacalfbbdiaaGreatDoorBld
import Derived.Test.YtdbaacalfbbdiaaGreatDoorJoined1
namespace Go.Proofs.YtdbaacalfbbdiaaGreatDoor.Fault
open Go.RowKit Go.Extern.Stop Go.Stop Go.Extern
set_option linter.unusedVariables false

/-! ### closed facts on the model's entries for internal/reflectlite, at this program's types (after the worked example's manner) -/
theorem valueOfE (k : Int) (w : World) : (ReflectliteValue.unpack (.iface 30 (.int .i64 k))).run Tryz.prog w
    = .ok (.agg #[.pointer (some ⟨9, 30, none⟩), .pointer (some ⟨w.heap.size, 0, none⟩), .int .u64 130]) (w.alloc (.cells #[.int .i64 k] 30)) := by kernel_rfl
theorem kindE (w : World) : ((ReflectliteType.abiMethod fun t => (fun a : Nat => Value.int IntKind.u8 (a : Int)) <$> Rtype.kind t) #[.pointer (some ⟨9, 30, none⟩)]).run Tryz.prog w = .ok (.int .u8 2) w := by kernel_rfl
theorem rlm (z : Sem Value) (f : TypeId → Addr → Nat → Nat → Sem Value) (v : Value) :
    ReflectliteValue.method z f #[v] = (do match ← ReflectliteValue.parts v with | none => z | some (t, a, fl) => f t a fl (fl % 32)) := rfl
theorem mkE (p : Addr) (w : World) : (ReflectliteValue.mk 30 p ReflectliteValue.flagAddr).run Tryz.prog w = .ok (.agg #[.pointer (some ⟨9, 30, none⟩), .pointer (some p), .int .u64 386]) w := by kernel_rfl
theorem rls (v x : Value) : ReflectliteValue.set #[v, x] = (do
    let (some (dst, a, fl), some (src, b, _)) := (← ReflectliteValue.parts v, ← ReflectliteValue.parts x)
      | unsupported (.noEntry "extern/(internal/reflectlite.Value).Set.zeroValue")
    if fl / ReflectliteValue.flagAddr % 2 == 0 then unsupported (.noEntry "extern/(internal/reflectlite.Value).Set.unaddressable")
    let val ← loadVar src b
    if ← Rtype.directlyAssignable dst src then storeVar dst a val
    else if ← Rtype.implements dst src then
      if (← Rtype.kind src) == 20 then
        match val with
        | .nilIface => unsupported (.noEntry "extern/reflectlite: a nil value of one interface type handed on as a value of another")
        | _ => storeVar dst a val
      else storeVar dst a (.iface src val)
    else panicString ("reflectlite.Set: value of type " ++ (← Rtype.spelt src) ++ " is not assignable to type " ++ (← Rtype.spelt dst))
    pure (.tuple #[])) := rfl
theorem partsEa (a : Addr) (w : World) : (ReflectliteValue.parts (.agg #[.pointer (some ⟨9, 30, none⟩), .pointer (some a), .int .u64 386])).run Tryz.prog w = .ok (some (30, a, 386)) w := by kernel_rfl
theorem partsE (a : Addr) (w : World) : (ReflectliteValue.parts (.agg #[.pointer (some ⟨9, 30, none⟩), .pointer (some a), .int .u64 130])).run Tryz.prog w = .ok (some (30, a, 130)) w := by kernel_rfl
theorem directE (w : World) : (Rtype.directlyAssignable 30 30).run Tryz.prog w = .ok true w := by kernel_rfl
theorem setE (ta b : Addr) (k : Int) (old : Value) (W : World) (hb : W.cell? b = some (.int .i64 k)) (ht : W.cell? ta = some old) (hf : W.frozen? ta = false) :
    (ReflectliteValue.set #[.agg #[.pointer (some ⟨9, 30, none⟩), .pointer (some ta), .int .u64 386], .agg #[.pointer (some ⟨9, 30, none⟩), .pointer (some b), .int .u64 130]]).run Tryz.prog W
      = .ok (.tuple #[]) (W.setCell ta (.int .i64 k)) := by
  rw [rls]
  simp only [Sem.run_bind, partsEa, partsE, Result.andThen]
  simp [ReflectliteValue.flagAddr, loadVar, isAgg, underlying, Tryz.underlying30, hb, Result.andThen, directE, storeVar, Value.cells, storeCells, Addr.add]
  rw [run_store Tryz.prog W ta _ _ (by rfl)]
  simp [ht, hf]

end Go.Proofs.YtdbaacalfbbdiaaGreatDoor.Fault
namespace Go.Proofs.YtdbaacalfbbdiaaGreatDoor.Fault
open Go.RowKit Go.Extern.Stop Go.Stop Go.Extern
set_option linter.unusedVariables false

/-! ### errors.As -/
end Go.Proofs.YtdbaacalfbbdiaaGreatDoor.Fault
namespace Go.Proofs.YtdbaacalfbbdiaaGreatDoor.Fault
open Go.RowKit Go.Extern.Stop Go.Stop Go.Extern
set_option linter.unusedVariables false

end Go.Proofs.YtdbaacalfbbdiaaGreatDoor.Fault
namespace Go.Proofs.YtdbaacalfbbdiaaGreatDoor.Fault
open Go.RowKit
set_option linter.unusedVariables false

def plCells (l : List Pl) : List Value := l.flatMap fun x => [.string x.1, .int .i64 x.2]
theorem plCells_length (l : List Pl) : (plCells l).length = l.length * 2 := by
  induction l with
  | nil => rfl
  | cons x r ih => unfold plCells at *; rw [List.flatMap_cons, List.length_append, ih, List.length_cons]; simp; omega
theorem plCells_snoc (l : List Pl) (s : ByteArray) (n : Int) : plCells (l ++ [(s, n)]) = plCells l ++ [.string s, .int .i64 n] := by unfold plCells; simp

/-! what the assertion to *placed answers -/
theorem asP (v : Value) (w : World) : (Instr.typeAssert (.iface 129 v) 72 129 true).run Tryz.prog w = .ok (.tuple #[v, .bool true]) w := by kernel_rfl
theorem asE (v : Value) (w : World) : (Instr.typeAssert (.iface 30 v) 72 129 true).run Tryz.prog w = .ok (.tuple #[.pointer none, .bool false]) w := by kernel_rfl
theorem asS (v : Value) (w : World) : (Instr.typeAssert (.iface 199 v) 72 129 true).run Tryz.prog w = .ok (.tuple #[.pointer none, .bool false]) w := by kernel_rfl
theorem asNil (w : World) : (Instr.typeAssert .nilIface 72 129 true).run Tryz.prog w = .ok (.tuple #[.pointer none, .bool false]) w := by kernel_rfl

def At (W : World) (b : Value) : List Pl → Value → Value → Prop
  | [], p, okv => p = .pointer none ∧ okv = .bool false
  | (s, n) :: r, p, okv => ∃ blk v', p = .pointer (some ⟨blk, 0, none⟩) ∧ okv = .bool true ∧ W.cell? ⟨blk, 0, none⟩ = some v' ∧ W.cell? ⟨blk, 1, none⟩ = some (.string s) ∧ W.cell? ⟨blk, 2, none⟩ = some (.int .i64 n) ∧ Chain W v' r b
theorem at_of {W : World} {v b : Value} {l : List Pl} (hb : IsBase b) (h : Chain W v l b) : ∃ p okv, At W b l p okv ∧ ∀ w, (Instr.typeAssert v 72 129 true).run Tryz.prog w = .ok (.tuple #[p, okv]) w := by
  cases l with
  | nil =>
    obtain rfl : v = b := h
    refine ⟨_, _, ⟨rfl, rfl⟩, ?_⟩
    rcases hb with ⟨k, rfl⟩ | ⟨a, rfl⟩
    · exact asE _
    · exact asS _
  | cons x r =>
    obtain ⟨s, n⟩ := x
    obtain ⟨blk, v', rfl, h0, h1, h2, hr⟩ := h
    exact ⟨_, _, ⟨blk, v', rfl, rfl, h0, h1, h2, hr⟩, asP _⟩

theorem infoPl : (Tryz.prog.info? 130).map (fun i => (i.zero, i.size, i.bytes)) = some (some (.agg #[.string ⟨#[]⟩, .int .i64 0]), 2, 24) := by kernel_rfl

theorem news2 (W : World) (s : ByteArray) (n : Int) (T : TypeId) : ∀ j u, ([Value.string s, .int .i64 n])[j]? = some u → (W.alloc (.cells #[.string s, .int .i64 n] T)).cell? ((⟨W.heap.size, 0, none⟩ : Addr).add j) = some u := by
  intro j u hj
  match j, hj with
  | 0, hj => simp at hj; subst hj; simp [Addr.add]
  | 1, hj => simp at hj; subst hj; simp [Addr.add]

end Go.Proofs.YtdbaacalfbbdiaaGreatDoor.Fault
namespace Go.Proofs.YtdbaacalfbbdiaaGreatDoor.Fault
open Go.RowKit
set_option linter.unusedVariables false

def wordL : List ByteArray := [⟨#[111, 107]⟩, ⟨#[97, 114, 103, 117, 109, 101, 110, 116]⟩, ⟨#[112, 111, 114, 116]⟩, ⟨#[99, 121, 99, 108, 101]⟩, ⟨#[109, 97, 110, 121]⟩, ⟨#[117, 110, 106, 117, 115, 116, 105, 102, 105, 101, 100]⟩, ⟨#[98, 97, 99, 107]⟩, ⟨#[115, 116, 97, 108, 101]⟩, ⟨#[99, 108, 111, 115, 101, 100]⟩, ⟨#[102, 117, 108, 108]⟩, ⟨#[111, 118, 101, 114]⟩, ⟨#[115, 116, 97, 116, 101]⟩, ⟨#[102, 111, 114, 109]⟩, ⟨#[119, 111, 114, 100]⟩, ⟨#[110, 111, 110, 101]⟩]
def wordS (k : Int) : ByteArray := wordL.getD k.toNat ⟨#[]⟩

end Go.Proofs.YtdbaacalfbbdiaaGreatDoor.Fault
namespace Go.Proofs.YtdbaacalfbbdiaaGreatDoor.Fault
open Go.RowKit
set_option linter.unusedVariables false

/-! ### the builder, by the bytes that it holds -/
def Has (B b : Nat) (l : List UInt8) (w : World) : Prop := Lib.IsBuilder 145 5 B b (Lib.byteCells l) w
theorem own_below {w w' : World} {B n : Nat} {v : Value} {xs : List Value} (h : w.ownsRow B 5 1 v n xs) (hb : Below w.heap.size w w') : w'.ownsRow B 5 1 v n xs := by
  refine ⟨h.1, ?_⟩
  rcases h.2 with h0 | ⟨g, cap, cur, h1, h2, h3, h4⟩
  · exact .inl h0
  · refine .inr ⟨g, cap, cur, h1, h2, ?_, h4⟩
    have hg : g < w.heap.size := by
      rcases Nat.lt_or_ge g w.heap.size with h5 | h5
      · exact h5
      · rw [Array.getElem?_eq_none h5] at h3; cases h3
    rw [hb.block g hg]; exact h3
theorem at_below {w w' : World} {B b : Nat} {p : Value} {bs : List Value} (h : Lib.BuilderAt 145 5 B b p bs w) (hb : Below w.heap.size w w') : Lib.BuilderAt 145 5 B b p bs w' := by
  have hlt := h.lt
  obtain ⟨h1, v, h2, h3, h4⟩ := h
  exact ⟨h1, v, by rw [hb.block b hlt]; exact h2, own_below h3 hb, h4⟩
theorem Has.below {w w' : World} {B b : Nat} {l : List UInt8} (h : Has B b l w) (hb : Below w.heap.size w w') : Has B b l w' := by
  rcases h with h | h
  · exact .inl (at_below h hb)
  · exact .inr (at_below h hb)
theorem has_new (w : World) : Has w.heap.size w.heap.size [] (w.alloc (.cells #[.pointer none, .slice none 0 0] 145)) :=
  .inl ⟨Nat.le_refl _, .slice none 0 0, by show (w.heap.push _)[w.heap.size]? = _; simp, World.ownsRow_nil _ _ _ _, by intro h; cases h⟩
theorem write_any (B b : Nat) (l : List UInt8) (s : ByteArray) (w : World) (h : Has B b l w) (hlen : l.length + s.size ≤ 140737488355328) (hBw : B ≤ w.heap.size) :
    Calls Tryz.prog 82 #[.pointer (some ⟨b, 0, none⟩), .string s] w fun e w' => e = .returned (.tuple #[.int .i64 s.size, .nilIface]) ∧ Has B b (l ++ s.data.toList) w' ∧ Below B w w' ∧ Bld.Keeps b w w' := by
  refine (Bld.writeString B b _ s w h (by rw [Lib.byteCells_length]; exact hlen) hBw).mono ?_
  rintro e w' ⟨rfl, h1, h2, h3⟩
  refine ⟨rfl, .inr ?_, h2, h3⟩
  have e1 : Lib.byteCells (l ++ s.data.toList) = Lib.byteCells l ++ Lib.strCells s := by unfold Lib.byteCells Lib.strCells; rw [List.map_append]
  rw [e1]; exact h1
theorem itoa_any (n : Int) (h0 : -9223372036854775808 ≤ n) (h1 : n ≤ 9223372036854775807) (w : World) (htab : Stamp.Tab w) :
    Calls Tryz.prog 43 #[.int .i64 n] w fun e w' => e = .returned (.string ⟨(Lib.itoa n).toArray⟩) ∧ Below w.heap.size w w' := by
  refine (Tryz.strconv_Itoa n h0 h1 w htab).mono ?_
  rintro e w' ⟨rfl, k, os, rfl⟩
  exact ⟨rfl, Lib.below_grow _ w (Nat.le_refl _) k os⟩
theorem itoa_length (n : Int) (h0 : -9223372036854775808 ≤ n) (h1 : n ≤ 9223372036854775807) : (Lib.itoa n).length ≤ 21 := by
  unfold Lib.itoa
  split
  · rw [List.length_cons, Lib.decDigits_length]
    have := Stamp.nDigits_le n.natAbs (by omega); omega
  · rw [Lib.decDigits_length]
    have := Stamp.nDigits_le n.toNat (by omega); omega

/-! ### the words -/
def placeL (x : Pl) : List UInt8 := x.1.data.toList ++ [32] ++ Lib.itoa x.2 ++ [58, 32]
def placesL (l : List Pl) : List UInt8 := l.flatMap placeL
def textL (l : List Pl) (k : Int) : List UInt8 := placesL l ++ (wordS k).data.toList
/-- A place as the laws look at it. -/
def Small (x : Pl) : Prop := x.1.size ≤ 20 ∧ -9223372036854775808 ≤ x.2 ∧ x.2 ≤ 9223372036854775807
theorem placeL_length {x : Pl} (h : Small x) : (placeL x).length ≤ 44 := by
  obtain ⟨h1, h2, h3⟩ := h
  unfold placeL
  have := itoa_length x.2 h2 h3
  have e : x.1.data.toList.length = x.1.size := rfl
  simp only [List.length_append, List.length_cons, List.length_nil, e]
  omega
theorem placesL_length : ∀ (l : List Pl), (∀ x ∈ l, Small x) → (placesL l).length ≤ 44 * l.length
  | [], _ => by simp [placesL]
  | x :: r, h => by
    have h1 := placeL_length (h x (List.mem_cons_self ..))
    have h2 := placesL_length r (fun y hy => h y (List.mem_cons_of_mem _ hy))
    unfold placesL at *
    rw [List.flatMap_cons, List.length_append, List.length_cons]
    omega
theorem placesL_snoc (l : List Pl) (x : Pl) : placesL (l ++ [x]) = placesL l ++ x.1.data.toList ++ [32] ++ Lib.itoa x.2 ++ [58, 32] := by
  unfold placesL; rw [List.flatMap_append]; simp [placeL]
theorem wordS_size (k : Int) (h0 : 0 ≤ k) (h1 : k ≤ 14) : (wordS k).size ≤ 11 := by
  have hk : k = 0 ∨ k = 1 ∨ k = 2 ∨ k = 3 ∨ k = 4 ∨ k = 5 ∨ k = 6 ∨ k = 7 ∨ k = 8 ∨ k = 9 ∨ k = 10 ∨ k = 11 ∨ k = 12 ∨ k = 13 ∨ k = 14 := by omega
  rcases hk with rfl | rfl | rfl | rfl | rfl | rfl | rfl | rfl | rfl | rfl | rfl | rfl | rfl | rfl | rfl <;> decide
end Go.Proofs.YtdbaacalfbbdiaaGreatDoor.Fault
