/-
  PACKAGE fault's Kind and Is: what they answer of nil, of a chain of places that ends with a number, and of one that ends with a plain error.
  PACKAGE fault's Path: the places of a chain, the outer ones ahead, in memory of the call's own.
  THE WORDS OF THE NUMBERS, and Path of nil.
  THE DECIMAL TEXT OF A NUMBER OF 64 BITS: the library's FormatUint at base 10, package stamp's Text, and the document's own Num and Text: a contract each.
  PACKAGE stamp's Parse: what it answers, at every string that a slice of bytes may hold: the one number whose Text it is, or the error.
  PACKAGE fault's Text: the places of a chain in words, the outer ones ahead, then the word of its number.
-/
import Derived.Test.YtdllgeanmlmmfaaGreatDoorJoined23
import Derived.Defers
import Derived.Recover
import Derived.Test.YtdllgeanmlmmfaaGreatDoorJoined10
import Derived.Deep.LoopGhost
import Derived.Laws.AppendOwn
import Derived.OwnWalk
import Derived.Test.YtdllgeanmlmmfaaGreatDoorShelf
import Derived.Lib.ItoaMem
import Derived.Lib.AppendIntMem
import Derived.Lib.Walk
import Derived.BigCall
import Derived.BigGuard
import Derived.Deep.RegionWith
import Derived.Deep.QuietTactic
import Derived.BigQuiet
import Derived.Lib.AtoiErrMem
import Derived.Lib.ParseIntBMem
import Derived.Test.YtdllgeanmlmmfaaGreatDoorJoined22
namespace Go.Proofs.YtdllgeanmlmmfaaGreatDoor.Fault
open Go.RowKit Go.Extern.Stop Go.Stop Go.Extern
set_option linter.unusedVariables false

theorem catchKind (p : Addr) (w : World) :
    CallsD Tryz.prog 32 #[.pointer (some p)] .returning w fun e u' w' => e = .returned (.tuple #[]) ∧ u' = .returning ∧ w' = w := by
  refine callsD_of_wpS Tryz.func32 rfl fun c₀ cs hu => ?_
  apply wpS_seq
  apply wpS_region
  simp [wpOpsS, go_sem, recoverD, hu, Tryz.ntmps32, Exit.thenS]
  refine wpS_cond (t := false) (by simp [Act.eval, Array.replicate]) ?_
  simp only [Bool.false_eq_true, if_false]
  refine wpS_of_wp (wp_skip ?_)
  cases c₀
  simp_all [bodyPostS, results, Tryz.results32]

set_option maxRecDepth 1000000 in
theorem kind_nil (w : World) : Calls Tryz.prog 10 #[.nilIface] w fun e w' => e = .returned (.int .i64 0) ∧ Below w.heap.size w w' := by
  have hmf : ∀ (fn : Fn) (first cap : Array Value) (w : World), (Instr.makeFunc fn first cap).run Tryz.prog w = .ok (.func fn first cap) w := fun _ _ _ _ => rfl
  go_enter_defers Tryz.func10, Tryz.ntmps10
  go_wp2
  simp [bodyPostD, Leaves, results, Tryz.results10, go_sem]
  exact (Below.refl _ _).alloc (Nat.le_refl _) _

set_option maxRecDepth 1000000 in
set_option maxHeartbeats 1000000 in
theorem kind_errno {w : World} (k : Int) {E : Value} {l : List Pl} (hg : ErrType w) (hch : Chain w E l (errnoV k)) :
    Calls Tryz.prog 10 #[E] w fun e w' => e = .returned (.int .i64 k) ∧ Below w.heap.size w w' := by
  have hmf : ∀ (fn : Fn) (first cap : Array Value) (w : World), (Instr.makeFunc fn first cap).run Tryz.prog w = .ok (.func fn first cap) w := fun _ _ _ _ => rfl
  obtain ⟨u, x, rfl⟩ := ne_nil (.inl ⟨k, rfl⟩) hch
  have hb : Below w.heap.size w ((w.alloc (.cells #[.int .i64 0] 44)).alloc (.cells #[.int .i64 0] 44)) := ((Below.refl _ _).alloc (Nat.le_refl _) _).alloc (by simp) _
  have hg1 : ErrType ((w.alloc (.cells #[.int .i64 0] 44)).alloc (.cells #[.int .i64 0] 44)) := (hb.cell (p := ⟨0, 0, none⟩) (Lib.lt_of_cell hg)).trans hg
  have hC := Lib.hid (As_errno k ⟨w.heap.size + 1, 0, none⟩ (.int .i64 0) hg1 (hch.below hb) (by rw [World.cell?_alloc_at _ _ _ _ (by simp)]; rfl) (by simp))
  clear hg hch hb hg1
  go_enter_defers Tryz.func10, Tryz.ntmps10
  go_wp2_with fail
  go_at_call 33
  refine hC.out.mono ?_
  rintro e w1 ⟨rfl, rfl⟩
  unfold asW
  go_wp2_with fail
  refine leaves_cons (f := 32) (args := #[.pointer (some ⟨w.heap.size, 0, none⟩)]) (by simp) (by simp [go_sem]) ?_
  refine (catchKind ⟨w.heap.size, 0, none⟩ _).mono ?_
  rintro e u' w'' ⟨rfl, rfl, rfl⟩
  simp [Leaves, settle, results, Tryz.results10, go_sem]
  repeat (first | exact Below.refl _ _ | refine Below.alloc ?_ (by simp; try omega) _)
end Go.Proofs.YtdllgeanmlmmfaaGreatDoor.Fault
namespace Go.Proofs.YtdllgeanmlmmfaaGreatDoor.Fault
open Go.RowKit
set_option linter.unusedVariables false

def plCells (l : List Pl) : List Value := l.flatMap fun x => [.string x.1, .int .i64 x.2]
theorem plCells_length (l : List Pl) : (plCells l).length = l.length * 2 := by
  induction l with
  | nil => rfl
  | cons x r ih => unfold plCells at *; rw [List.flatMap_cons, List.length_append, ih, List.length_cons]; simp; omega
theorem plCells_snoc (l : List Pl) (s : ByteArray) (n : Int) : plCells (l ++ [(s, n)]) = plCells l ++ [.string s, .int .i64 n] := by unfold plCells; simp

/-! what the assertion to *placed answers -/
theorem asP (v : Value) (w : World) : (Instr.typeAssert (.iface 123 v) 29 123 true).run Tryz.prog w = .ok (.tuple #[v, .bool true]) w := by kernel_rfl
theorem asE (v : Value) (w : World) : (Instr.typeAssert (.iface 44 v) 29 123 true).run Tryz.prog w = .ok (.tuple #[.pointer none, .bool false]) w := by kernel_rfl
theorem asS (v : Value) (w : World) : (Instr.typeAssert (.iface 16 v) 29 123 true).run Tryz.prog w = .ok (.tuple #[.pointer none, .bool false]) w := by kernel_rfl
theorem asNil (w : World) : (Instr.typeAssert .nilIface 29 123 true).run Tryz.prog w = .ok (.tuple #[.pointer none, .bool false]) w := by kernel_rfl

def At (W : World) (b : Value) : List Pl → Value → Value → Prop
  | [], p, okv => p = .pointer none ∧ okv = .bool false
  | (s, n) :: r, p, okv => ∃ blk v', p = .pointer (some ⟨blk, 0, none⟩) ∧ okv = .bool true ∧ W.cell? ⟨blk, 0, none⟩ = some v' ∧ W.cell? ⟨blk, 1, none⟩ = some (.string s) ∧ W.cell? ⟨blk, 2, none⟩ = some (.int .i64 n) ∧ Chain W v' r b
theorem at_of {W : World} {v b : Value} {l : List Pl} (hb : IsBase b) (h : Chain W v l b) : ∃ p okv, At W b l p okv ∧ ∀ w, (Instr.typeAssert v 29 123 true).run Tryz.prog w = .ok (.tuple #[p, okv]) w := by
  cases l with
  | nil =>
    obtain rfl : v = b := h
    refine ⟨_, _, ⟨rfl, rfl⟩, ?_⟩
    rcases hb with ⟨k, rfl⟩ | ⟨a, rfl⟩
    · exact asE _
    · exact asS _
  | cons x r =>
    obtain ⟨s, n⟩ := x
    obtain ⟨blk, v', rfl, h0, h1, h2, hr⟩ := h
    exact ⟨_, _, ⟨blk, v', rfl, rfl, h0, h1, h2, hr⟩, asP _⟩

theorem infoPl : (Tryz.prog.info? 114).map (fun i => (i.zero, i.size, i.bytes)) = some (some (.agg #[.string ⟨#[]⟩, .int .i64 0]), 2, 24) := by kernel_rfl

theorem news2 (W : World) (s : ByteArray) (n : Int) (T : TypeId) : ∀ j u, ([Value.string s, .int .i64 n])[j]? = some u → (W.alloc (.cells #[.string s, .int .i64 n] T)).cell? ((⟨W.heap.size, 0, none⟩ : Addr).add j) = some u := by
  intro j u hj
  match j, hj with
  | 0, hj => simp at hj; subst hj; simp [Addr.add]
  | 1, hj => simp at hj; subst hj; simp [Addr.add]

set_option maxRecDepth 100000 in
set_option maxHeartbeats 2000000 in
theorem path_any {w : World} {E b : Value} {l : List Pl} (hb : IsBase b) (hch : Chain w E l b) (hlen : l.length ≤ 1000) :
    Calls Tryz.prog 47 #[E] w fun e w' => ∃ v, e = .returned v ∧ w'.ownsRow w.heap.size 114 2 v l.length (plCells l) ∧ Below w.heap.size w w' := by
  obtain ⟨i0, hi, hz0, hz1, hz2⟩ := info_parts infoPl
  obtain ⟨u, x, rfl⟩ := ne_nil hb hch
  obtain ⟨p0, ok0, hat0, has0⟩ := at_of hb hch
  have HAT := Lib.hid hat0
  have HB := Lib.hid hb
  clear hch hat0 hb
  go_enter Tryz.func47, Tryz.ntmps47
  go_wp2
  go_loopg [3, 4, 5] l.length (fun k v p okv wr => ∃ done rest, done ++ rest = l ∧ rest.length = k ∧ At w b rest p okv ∧ wr.ownsRow w.heap.size 114 2 v done.length (plCells done) ∧ Below w.heap.size w wr)
  case atStart => exact ⟨[], l, rfl, rfl, HAT.out, World.ownsRow_nil _ _ _ _, Below.refl _ _⟩
  case round =>
    obtain ⟨done, rest, hl, hk, hat, hown, hbw⟩ := hrel
    have HL := Lib.hid hl
    have HK := Lib.hid hk
    cases rest with
    | nil =>
      obtain ⟨rfl, rfl⟩ := hat
      have hdl : done = l := by rw [← HL.out, List.append_nil]
      rw [hdl] at hown
      have HO := Lib.hid hown
      clear hl hk hown hdl
      go_wp2
      go_ret
      exact ⟨_, rfl, HO.out, hbw⟩
    | cons y r =>
      obtain ⟨s, n⟩ := y
      obtain ⟨blk, v', rfl, rfl, g0, g1, g2, hr⟩ := hat
      have hlt := Lib.lt_of_cell g0
      have h0 := (hbw.cell (p := ⟨blk, 0, none⟩) hlt).trans g0
      have h1 := (hbw.cell (p := ⟨blk, 1, none⟩) hlt).trans g1
      have h2 := (hbw.cell (p := ⟨blk, 2, none⟩) hlt).trans g2
      have HG := Lib.hid g0
      clear g0 g1 g2
      obtain ⟨p1, ok1, hat1, has1⟩ := at_of HB.out hr
      have HA1 := Lib.hid hat1
      have hdl : done.length + 1 ≤ 1000 := by have e := congrArg List.length HL.out; rw [List.length_append, List.length_cons] at e; omega
      have HR := Lib.hid hr
      clear hl hk hat1 hr
      go_wp2_with (at_builtin; refine wpList_append_own _ rfl _ _ 112 rfl w.heap.size 114 i0 (.agg #[.string ⟨#[]⟩, .int .i64 0]) 2 24 Tryz.underlying112 hi hz0 hz1 hz2 rfl (by decide) _ _ _ rfl (hown.alloc _) ⟨wr.heap.size, 0, none⟩ 1 1 [.string s, .int .i64 n] rfl rfl (news2 _ _ _ _) ?c2 ?c3 ?c4 ?c5 ?_)
      case c2 => exact ⟨rfl, rfl⟩
      case c3 => unfold maxLen; omega
      case c4 => omega
      case c5 => have := hbw.size; simp; omega
      intro v2 w1 hown' hgrow _
      have hb1 : Below w.heap.size w w1 := (hbw.alloc (by have := hbw.size; omega) _).grown hgrow (by have := hbw.size; simp; omega) (fun k e => (hown.lt k e).1)
      have k0 := (hb1.cell (p := ⟨blk, 0, none⟩) hlt).trans HG.out
      have HO := Lib.hid hown'
      clear hown hown' hgrow h0 h1 h2 hbw
      go_wp2
      go_roundg r.length
      case measure => rw [← HK.out]; simp
      case rel =>
        refine ⟨done ++ [(s, n)], r, by rw [List.append_assoc]; exact HL.out, rfl, HA1.out, ?_, hb1⟩
        have h := HO.out
        rw [List.length_append, plCells_snoc]
        exact h
end Go.Proofs.YtdllgeanmlmmfaaGreatDoor.Fault
namespace Go.Proofs.YtdllgeanmlmmfaaGreatDoor.Fault
open Go.RowKit
set_option linter.unusedVariables false

def wordL : List ByteArray := [⟨#[111, 107]⟩, ⟨#[97, 114, 103, 117, 109, 101, 110, 116]⟩, ⟨#[112, 111, 114, 116]⟩, ⟨#[99, 121, 99, 108, 101]⟩, ⟨#[109, 97, 110, 121]⟩, ⟨#[117, 110, 106, 117, 115, 116, 105, 102, 105, 101, 100]⟩, ⟨#[98, 97, 99, 107]⟩, ⟨#[115, 116, 97, 108, 101]⟩, ⟨#[99, 108, 111, 115, 101, 100]⟩, ⟨#[102, 117, 108, 108]⟩, ⟨#[111, 118, 101, 114]⟩, ⟨#[115, 116, 97, 116, 101]⟩, ⟨#[102, 111, 114, 109]⟩, ⟨#[119, 111, 114, 100]⟩, ⟨#[110, 111, 110, 101]⟩]
def wordS (k : Int) : ByteArray := wordL.getD k.toNat ⟨#[]⟩

set_option maxRecDepth 100000 in
set_option maxHeartbeats 2000000 in
theorem error_any (k : Int) (h0 : 0 ≤ k) (h1 : k ≤ 14) (w : World) : Calls Tryz.prog 50 #[.int .i64 k] w fun e w' => e = .returned (.string (wordS k)) ∧ Below w.heap.size w w' := by
  have hk : k = 0 ∨ k = 1 ∨ k = 2 ∨ k = 3 ∨ k = 4 ∨ k = 5 ∨ k = 6 ∨ k = 7 ∨ k = 8 ∨ k = 9 ∨ k = 10 ∨ k = 11 ∨ k = 12 ∨ k = 13 ∨ k = 14 := by omega
  clear h0 h1
  rcases hk with rfl | rfl | rfl | rfl | rfl | rfl | rfl | rfl | rfl | rfl | rfl | rfl | rfl | rfl | rfl
  all_goals
    go_enter Tryz.func50, Tryz.ntmps50
    go_wp2
    go_ret
    exact ⟨rfl, (Below.refl _ _).alloc (Nat.le_refl _) _⟩

theorem path_nil (w : World) : Calls Tryz.prog 47 #[.nilIface] w fun e w' => e = .returned (.slice none 0 0) ∧ w = w' := by
  have h := asNil
  go_enter Tryz.func47, Tryz.ntmps47
  go_wp2
  refine wp_loop_rounds 1 ?_
  rw [rounds_succ]
  go_wp2
  go_ret
  exact ⟨rfl, rfl⟩
end Go.Proofs.YtdllgeanmlmmfaaGreatDoor.Fault
namespace Go.Proofs.YtdllgeanmlmmfaaGreatDoor.Stamp
open Go.RowKit Go.Sort Go.Lib
set_option linter.unusedVariables false

theorem holds_zero0 (w : World) (T : TypeId) (nd : Nat) (hs : nd ≤ 24) : Holds (fun (b : UInt8) => Value.int .u8 (b.toNat : Int)) (w.alloc (.cells zeros24 T)) w.heap.size 0 (Array.replicate nd (0 : UInt8)) := fun j hj => by
  have hj' : j < nd := by simpa using hj
  refine ⟨?_, World.frozen?_alloc_new _ _ _ _⟩
  rw [Nat.zero_add, World.cell?_alloc_new, zeros24_at _ (by omega), getElem!_pos _ j hj]
  simp
theorem fin0 (w : World) (o : Obj) (dk : Array UInt8) (k : Nat) : ∃ os, (putRow (fun (b : UInt8) => Value.int .u8 (b.toNat : Int)) (w.alloc o) w.heap.size 0 dk).drewN k = grow (w.drewN k) os := by
  rw [alloc_eq_grow]
  obtain ⟨os', _, e⟩ := putRow_grow_new (fun (b : UInt8) => Value.int .u8 (b.toNat : Int)) w #[o] w.heap.size 0 dk (Nat.le_refl _)
  exact ⟨os', by rw [e]; rfl⟩

/-- The table of the powers of ten, as the library reads it. -/
def Tab (w : World) : Prop := Lib.TabIs Tryz.prog w "internal/strconv.uint64pow10" .u64 Lib.pow10Tab

/-- The decimal text, as a string. -/
def numS (n : Int) : ByteArray := ⟨(Lib.decDigits n.toNat).toArray⟩
def neverS : ByteArray := { data := #[110, 101, 118, 101, 114] }
def textS (n : Int) : ByteArray := if n = 18446744073709551615 then neverS else numS n

theorem nDigits_le (u : Nat) (hu : u < 18446744073709551616) : Lib.nDigits u ≤ 20 := by
  by_cases h : 1 ≤ u
  · have := Lib.numDigits_eq u h hu; split at this <;> omega
  · obtain rfl : u = 0 := by omega
    rw [Lib.nDigits_small (by omega)]; omega
theorem numS_size {n : Int} (h : U n) : (numS n).size ≤ 20 := by
  unfold U at h
  have e : (numS n).size = Lib.nDigits n.toNat := by
    show (Lib.decDigits n.toNat).toArray.size = _
    rw [List.size_toArray, Lib.decDigits_length]
  rw [e]
  exact nDigits_le _ (by omega)

/-! The document's own text of a number: a digit by a digit. -/
def digs : ByteArray := { data := #[48, 49, 50, 51, 52, 53, 54, 55, 56, 57] }
theorem dig_at (d : Nat) (h : d < 10) : digs.extract d (d + 1) = ⟨#[UInt8.ofNat (48 + d)]⟩ := by
  rcases d with _ | _ | _ | _ | _ | _ | _ | _ | _ | _ | d
  all_goals first | decide | rfl | omega
theorem numS_small {n : Int} (h0 : 0 ≤ n) (h : n < 10) : numS n = digs.extract n.toNat (n + 1).toNat := by
  rw [show (n + 1).toNat = n.toNat + 1 by omega, dig_at _ (by omega)]
  unfold numS
  rw [Lib.decDigits, dif_pos (by omega)]
theorem numS_big {n : Int} (h0 : 0 ≤ n) (h : ¬ n < 10) : numS n = numS (n / 10) ++ digs.extract (n % 10).toNat (n % 10 + 1).toNat := by
  rw [show (n % 10 + 1).toNat = (n % 10).toNat + 1 by omega, dig_at _ (by omega)]
  unfold numS
  rw [Lib.decDigits, dif_neg (by omega), show (n / 10).toNat = n.toNat / 10 by omega, show (n % 10).toNat = n.toNat % 10 by omega]
  apply ByteArray.ext
  simp

theorem refNum_any (k : Nat) : ∀ (n : Int) (w : World), n ≤ k → U n →
    Calls Tryz.prog 82 #[.int .u64 n] w fun e w' => e = .returned (.string (numS n)) ∧ ∃ m, w' = w.drewN m := by
  induction k with
  | zero =>
    intro n w hk hn
    obtain ⟨hn1, hn2⟩ := hn
    have hlt : n < 10 := by omega
    have HR := Lib.hid (numS_small hn1 hlt)
    go_enter Tryz.func82, Tryz.ntmps82
    go_wp2_with fail
    go_ret
    exact ⟨by rw [HR.out]; rfl, 0, rfl⟩
  | succ k ih =>
    intro n w hk hn
    have hnu := hn
    obtain ⟨hn1, hn2⟩ := hn
    by_cases hlt : n < 10
    · have HR := Lib.hid (numS_small hn1 hlt)
      go_enter Tryz.func82, Tryz.ntmps82
      go_wp2_with fail
      go_ret
      exact ⟨by rw [HR.out]; rfl, 0, rfl⟩
    · have hq : U (n / 10) := by unfold U at *; omega
      have hqk : n / 10 ≤ k := by omega
      have hsz := numS_size hq
      have HR := Lib.hid (numS_big hn1 hlt)
      have IH := Lib.hid ih
      clear ih
      go_enter Tryz.func82, Tryz.ntmps82
      go_wp2_with fail
      go_quiet ((go_at_call 82; exact Calls.quiet_of (IH.out _ _ hqk hq)))
      go_wp2_with fail
      go_ret
      exact ⟨by rw [HR.out]; rfl, _, rfl⟩

end Go.Proofs.YtdllgeanmlmmfaaGreatDoor.Stamp
namespace Go.Proofs.YtdllgeanmlmmfaaGreatDoor.Stamp
open Go.RowKit Go.Sort Go.Lib
set_option linter.unusedVariables false

theorem tab_below {w w' : World} (h : Tab w) (hb : Below w.heap.size w w') : Tab w' :=
  var?_below hb (show Tryz.prog.globalNamed "internal/strconv.uint64pow10" = some 1 by kernel_rfl) (by
    unfold Tab Lib.TabIs at h
    have := World.var?_cell (show Tryz.prog.globalNamed "internal/strconv.uint64pow10" = some 1 by kernel_rfl) h 0
    exact Lib.lt_of_cell (v := .int .u64 1) (by simpa [Lib.pow10Tab] using this)) h
/-- The time of a text, where it is one's. -/
def parseE (s : ByteArray) : Option Nat :=
  if s = neverS then some 18446744073709551615
  else match Lib.parseUintB 64 s.data.toList with
    | .ok u => if textS u = s then some u else none
    | _ => none
def pv (s : ByteArray) : Int := ((parseE s).getD 0 : Nat)
def pe (s : ByteArray) : Int := if (parseE s).isSome then 0 else 13

theorem never_eq (s : ByteArray) : (s.toList == [110, 101, 118, 101, 114]) = decide (s = neverS) := by
  rw [Bool.eq_iff_iff, beq_iff_eq, decide_eq_true_eq, Lib.toList_data]
  constructor
  · intro h; apply ByteArray.ext; apply Array.ext'; exact h
  · rintro rfl; rfl
theorem parseUintM_le (M : Nat) : ∀ (l : List UInt8) (acc u : Nat), acc ≤ M → Lib.parseUintM M acc l = .ok u → u ≤ M
  | [], acc, u, ha, h => by simp only [Lib.parseUintM, Lib.NumEnd.ok.injEq] at h; omega
  | c :: r, acc, u, ha, h => by
    simp only [Lib.parseUintM] at h
    split at h
    · split at h
      · cases h
      · split at h
        · cases h
        · exact parseUintM_le M r _ u (by omega) h
    · cases h
theorem parseUintB_le {l : List UInt8} {u : Nat} (h : Lib.parseUintB 64 l = .ok u) : u ≤ 18446744073709551615 := by
  unfold Lib.parseUintB at h
  split at h
  · cases h
  · exact parseUintM_le _ l 0 u (Nat.zero_le _) h

end Go.Proofs.YtdllgeanmlmmfaaGreatDoor.Stamp
namespace Go.Proofs.YtdllgeanmlmmfaaGreatDoor.Fault
open Go.RowKit
set_option linter.unusedVariables false

/-! ### the builder, by the bytes that it holds -/
def Has (B b : Nat) (l : List UInt8) (w : World) : Prop := Lib.IsBuilder 111 5 B b (Lib.byteCells l) w
theorem own_below {w w' : World} {B n : Nat} {v : Value} {xs : List Value} (h : w.ownsRow B 5 1 v n xs) (hb : Below w.heap.size w w') : w'.ownsRow B 5 1 v n xs := by
  refine ⟨h.1, ?_⟩
  rcases h.2 with h0 | ⟨g, cap, cur, h1, h2, h3, h4⟩
  · exact .inl h0
  · refine .inr ⟨g, cap, cur, h1, h2, ?_, h4⟩
    have hg : g < w.heap.size := by
      rcases Nat.lt_or_ge g w.heap.size with h5 | h5
      · exact h5
      · rw [Array.getElem?_eq_none h5] at h3; cases h3
    rw [hb.block g hg]; exact h3
theorem at_below {w w' : World} {B b : Nat} {p : Value} {bs : List Value} (h : Lib.BuilderAt 111 5 B b p bs w) (hb : Below w.heap.size w w') : Lib.BuilderAt 111 5 B b p bs w' := by
  have hlt := h.lt
  obtain ⟨h1, v, h2, h3, h4⟩ := h
  exact ⟨h1, v, by rw [hb.block b hlt]; exact h2, own_below h3 hb, h4⟩
theorem Has.below {w w' : World} {B b : Nat} {l : List UInt8} (h : Has B b l w) (hb : Below w.heap.size w w') : Has B b l w' := by
  rcases h with h | h
  · exact .inl (at_below h hb)
  · exact .inr (at_below h hb)
theorem has_new (w : World) : Has w.heap.size w.heap.size [] (w.alloc (.cells #[.pointer none, .slice none 0 0] 111)) :=
  .inl ⟨Nat.le_refl _, .slice none 0 0, by show (w.heap.push _)[w.heap.size]? = _; simp, World.ownsRow_nil _ _ _ _, by intro h; cases h⟩
theorem write_any (B b : Nat) (l : List UInt8) (s : ByteArray) (w : World) (h : Has B b l w) (hlen : l.length + s.size ≤ 140737488355328) (hBw : B ≤ w.heap.size) :
    Calls Tryz.prog 48 #[.pointer (some ⟨b, 0, none⟩), .string s] w fun e w' => e = .returned (.tuple #[.int .i64 s.size, .nilIface]) ∧ Has B b (l ++ s.data.toList) w' ∧ Below B w w' ∧ Bld.Keeps b w w' := by
  refine (Bld.writeString B b _ s w h (by rw [Lib.byteCells_length]; exact hlen) hBw).mono ?_
  rintro e w' ⟨rfl, h1, h2, h3⟩
  refine ⟨rfl, .inr ?_, h2, h3⟩
  have e1 : Lib.byteCells (l ++ s.data.toList) = Lib.byteCells l ++ Lib.strCells s := by unfold Lib.byteCells Lib.strCells; rw [List.map_append]
  rw [e1]; exact h1
theorem itoa_any (n : Int) (h0 : -9223372036854775808 ≤ n) (h1 : n ≤ 9223372036854775807) (w : World) (htab : Stamp.Tab w) :
    Calls Tryz.prog 49 #[.int .i64 n] w fun e w' => e = .returned (.string ⟨(Lib.itoa n).toArray⟩) ∧ Below w.heap.size w w' := by
  refine (Tryz.strconv_Itoa n h0 h1 w htab).mono ?_
  rintro e w' ⟨rfl, k, os, rfl⟩
  exact ⟨rfl, Lib.below_grow _ w (Nat.le_refl _) k os⟩
theorem itoa_length (n : Int) (h0 : -9223372036854775808 ≤ n) (h1 : n ≤ 9223372036854775807) : (Lib.itoa n).length ≤ 21 := by
  unfold Lib.itoa
  split
  · rw [List.length_cons, Lib.decDigits_length]
    have := Stamp.nDigits_le n.natAbs (by omega); omega
  · rw [Lib.decDigits_length]
    have := Stamp.nDigits_le n.toNat (by omega); omega

/-! ### the words -/
def placeL (x : Pl) : List UInt8 := x.1.data.toList ++ [32] ++ Lib.itoa x.2 ++ [58, 32]
def placesL (l : List Pl) : List UInt8 := l.flatMap placeL
def textL (l : List Pl) (k : Int) : List UInt8 := placesL l ++ (wordS k).data.toList
/-- A place as the laws look at it. -/
def Small (x : Pl) : Prop := x.1.size ≤ 20 ∧ -9223372036854775808 ≤ x.2 ∧ x.2 ≤ 9223372036854775807
theorem placeL_length {x : Pl} (h : Small x) : (placeL x).length ≤ 44 := by
  obtain ⟨h1, h2, h3⟩ := h
  unfold placeL
  have := itoa_length x.2 h2 h3
  have e : x.1.data.toList.length = x.1.size := rfl
  simp only [List.length_append, List.length_cons, List.length_nil, e]
  omega
theorem placesL_length : ∀ (l : List Pl), (∀ x ∈ l, Small x) → (placesL l).length ≤ 44 * l.length
  | [], _ => by simp [placesL]
  | x :: r, h => by
    have h1 := placeL_length (h x (List.mem_cons_self ..))
    have h2 := placesL_length r (fun y hy => h y (List.mem_cons_of_mem _ hy))
    unfold placesL at *
    rw [List.flatMap_cons, List.length_append, List.length_cons]
    omega
theorem placesL_snoc (l : List Pl) (x : Pl) : placesL (l ++ [x]) = placesL l ++ x.1.data.toList ++ [32] ++ Lib.itoa x.2 ++ [58, 32] := by
  unfold placesL; rw [List.flatMap_append]; simp [placeL]
theorem wordS_size (k : Int) (h0 : 0 ≤ k) (h1 : k ≤ 14) : (wordS k).size ≤ 11 := by
  have hk : k = 0 ∨ k = 1 ∨ k = 2 ∨ k = 3 ∨ k = 4 ∨ k = 5 ∨ k = 6 ∨ k = 7 ∨ k = 8 ∨ k = 9 ∨ k = 10 ∨ k = 11 ∨ k = 12 ∨ k = 13 ∨ k = 14 := by omega
  rcases hk with rfl | rfl | rfl | rfl | rfl | rfl | rfl | rfl | rfl | rfl | rfl | rfl | rfl | rfl | rfl <;> decide
end Go.Proofs.YtdllgeanmlmmfaaGreatDoor.Fault
