
/-
  PACKAGE fault's Path: the places of a chain, the outer ones ahead, in memory of the call's own.
-/
import Derived.Test.YtkcmeklgnbejiaaDoorFaultIs
import Derived.Deep.LoopGhost
import Derived.Laws.AppendOwn
import Derived.OwnWalk
namespace Go.Proofs.YtkcmeklgnbejiaaDoor.Fault
open Go.RowKit
set_option linter.unusedVariables false

def plCells (l : List Pl) : List Value := l.flatMap fun x => [.string x.1, .int .i64 x.2]
theorem plCells_length (l : List Pl) : (plCells l).length = l.length * 2 := by
  induction l with
  | nil => rfl
  | cons x r ih => unfold plCells at *; rw [List.flatMap_cons, List.length_append, ih, List.length_cons]; simp; omega
theorem plCells_snoc (l : List Pl) (s : ByteArray) (n : Int) : plCells (l ++ [(s, n)]) = plCells l ++ [.string s, .int .i64 n] := by unfold plCells; simp

/-! what the assertion to *placed answers -/
theorem asP (v : Value) (w : World) : (Instr.typeAssert (.iface 119 v) 28 119 true).run Tryd.prog w = .ok (.tuple #[v, .bool true]) w := by kernel_rfl
theorem asE (v : Value) (w : World) : (Instr.typeAssert (.iface 38 v) 28 119 true).run Tryd.prog w = .ok (.tuple #[.pointer none, .bool false]) w := by kernel_rfl
theorem asS (v : Value) (w : World) : (Instr.typeAssert (.iface 16 v) 28 119 true).run Tryd.prog w = .ok (.tuple #[.pointer none, .bool false]) w := by kernel_rfl
theorem asNil (w : World) : (Instr.typeAssert .nilIface 28 119 true).run Tryd.prog w = .ok (.tuple #[.pointer none, .bool false]) w := by kernel_rfl

def At (W : World) (b : Value) : List Pl → Value → Value → Prop
  | [], p, okv => p = .pointer none ∧ okv = .bool false
  | (s, n) :: r, p, okv => ∃ blk v', p = .pointer (some ⟨blk, 0, none⟩) ∧ okv = .bool true ∧ W.cell? ⟨blk, 0, none⟩ = some v' ∧ W.cell? ⟨blk, 1, none⟩ = some (.string s) ∧ W.cell? ⟨blk, 2, none⟩ = some (.int .i64 n) ∧ Chain W v' r b
theorem at_of {W : World} {v b : Value} {l : List Pl} (hb : IsBase b) (h : Chain W v l b) : ∃ p okv, At W b l p okv ∧ ∀ w, (Instr.typeAssert v 28 119 true).run Tryd.prog w = .ok (.tuple #[p, okv]) w := by
  cases l with
  | nil =>
    obtain rfl : v = b := h
    refine ⟨_, _, ⟨rfl, rfl⟩, ?_⟩
    rcases hb with ⟨k, rfl⟩ | ⟨a, rfl⟩
    · exact asE _
    · exact asS _
  | cons x r =>
    obtain ⟨s, n⟩ := x
    obtain ⟨blk, v', rfl, h0, h1, h2, hr⟩ := h
    exact ⟨_, _, ⟨blk, v', rfl, rfl, h0, h1, h2, hr⟩, asP _⟩

theorem infoPl : (Tryd.prog.info? 86).map (fun i => (i.zero, i.size, i.bytes)) = some (some (.agg #[.string ⟨#[]⟩, .int .i64 0]), 2, 24) := by kernel_rfl

theorem news2 (W : World) (s : ByteArray) (n : Int) (T : TypeId) : ∀ j u, ([Value.string s, .int .i64 n])[j]? = some u → (W.alloc (.cells #[.string s, .int .i64 n] T)).cell? ((⟨W.heap.size, 0, none⟩ : Addr).add j) = some u := by
  intro j u hj
  match j, hj with
  | 0, hj => simp at hj; subst hj; simp [Addr.add]
  | 1, hj => simp at hj; subst hj; simp [Addr.add]

set_option maxRecDepth 100000 in
set_option maxHeartbeats 2000000 in
theorem path_any {w : World} {E b : Value} {l : List Pl} (hb : IsBase b) (hch : Chain w E l b) (hlen : l.length ≤ 1000) :
    Calls Tryd.prog 40 #[E] w fun e w' => ∃ v, e = .returned v ∧ w'.ownsRow w.heap.size 86 2 v l.length (plCells l) ∧ Below w.heap.size w w' := by
  obtain ⟨i0, hi, hz0, hz1, hz2⟩ := info_parts infoPl
  obtain ⟨u, x, rfl⟩ := ne_nil hb hch
  obtain ⟨p0, ok0, hat0, has0⟩ := at_of hb hch
  have HAT := Lib.hid hat0
  have HB := Lib.hid hb
  clear hch hat0 hb
  go_enter Tryd.func40, Tryd.ntmps40
  go_wp2
  go_loopg [3, 4, 5] l.length (fun k v p okv wr => ∃ done rest, done ++ rest = l ∧ rest.length = k ∧ At w b rest p okv ∧ wr.ownsRow w.heap.size 86 2 v done.length (plCells done) ∧ Below w.heap.size w wr)
  case atStart => exact ⟨[], l, rfl, rfl, HAT.out, World.ownsRow_nil _ _ _ _, Below.refl _ _⟩
  case round =>
    obtain ⟨done, rest, hl, hk, hat, hown, hbw⟩ := hrel
    have HL := Lib.hid hl
    have HK := Lib.hid hk
    cases rest with
    | nil =>
      obtain ⟨rfl, rfl⟩ := hat
      have hdl : done = l := by rw [← HL.out, List.append_nil]
      rw [hdl] at hown
      have HO := Lib.hid hown
      clear hl hk hown hdl
      go_wp2
      go_ret
      exact ⟨_, rfl, HO.out, hbw⟩
    | cons y r =>
      obtain ⟨s, n⟩ := y
      obtain ⟨blk, v', rfl, rfl, g0, g1, g2, hr⟩ := hat
      have hlt := Lib.lt_of_cell g0
      have h0 := (hbw.cell (p := ⟨blk, 0, none⟩) hlt).trans g0
      have h1 := (hbw.cell (p := ⟨blk, 1, none⟩) hlt).trans g1
      have h2 := (hbw.cell (p := ⟨blk, 2, none⟩) hlt).trans g2
      have HG := Lib.hid g0
      clear g0 g1 g2
      obtain ⟨p1, ok1, hat1, has1⟩ := at_of HB.out hr
      have HA1 := Lib.hid hat1
      have hdl : done.length + 1 ≤ 1000 := by have e := congrArg List.length HL.out; rw [List.length_append, List.length_cons] at e; omega
      have HR := Lib.hid hr
      clear hl hk hat1 hr
      go_wp2_with (at_builtin; refine wpList_append_own _ rfl _ _ 84 rfl w.heap.size 86 i0 (.agg #[.string ⟨#[]⟩, .int .i64 0]) 2 24 Tryd.underlying84 hi hz0 hz1 hz2 rfl (by decide) _ _ _ rfl (hown.alloc _) ⟨wr.heap.size, 0, none⟩ 1 1 [.string s, .int .i64 n] rfl rfl (news2 _ _ _ _) ?c2 ?c3 ?c4 ?c5 ?_)
      case c2 => exact ⟨rfl, rfl⟩
      case c3 => unfold maxLen; omega
      case c4 => omega
      case c5 => have := hbw.size; simp; omega
      intro v2 w1 hown' hgrow _
      have hb1 : Below w.heap.size w w1 := (hbw.alloc (by have := hbw.size; omega) _).grown hgrow (by have := hbw.size; simp; omega) (fun k e => (hown.lt k e).1)
      have k0 := (hb1.cell (p := ⟨blk, 0, none⟩) hlt).trans HG.out
      have HO := Lib.hid hown'
      clear hown hown' hgrow h0 h1 h2 hbw
      go_wp2
      go_roundg r.length
      case measure => rw [← HK.out]; simp
      case rel =>
        refine ⟨done ++ [(s, n)], r, by rw [List.append_assoc]; exact HL.out, rfl, HA1.out, ?_, hb1⟩
        have h := HO.out
        rw [List.length_append, plCells_snoc]
        exact h
end Go.Proofs.YtkcmeklgnbejiaaDoor.Fault
