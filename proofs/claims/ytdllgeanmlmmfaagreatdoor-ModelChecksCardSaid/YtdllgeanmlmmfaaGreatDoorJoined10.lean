/-
  ERRORS AT PLACES: what a chain of them is in memory; the library's errors.Is along such a chain, of whatever length.
  WHAT PACKAGE stamp's CALLS ANSWER, AND THE DOCUMENT's OWN PACKAGE's: Plus, Reaches: a contract each, for every two or three numbers of 64 bits.
  PACKAGE graph, PLAIN MATHEMATICS: the rounds of the program's ways, cell by cell.
-/
import Derived.Test.YtdllgeanmlmmfaaGreatDoorRows
import Derived.WalkKit
import Derived.WalkLawsBesides
import Derived.WalkSpells
import Derived.LaidEql
import Derived.Stop.Asserts
import Derived.RowKitTokens
import Derived.Elder7
import Derived.Lib.Hide
import Derived.Lib.AtoiErrMem
import Derived.WalkSmall
import Derived.Outline
import Derived.Test.YtdllgeanmlmmfaaGreatDoorGMem
namespace Go.Proofs.YtdllgeanmlmmfaaGreatDoor.Fault
open Go.RowKit Go.Extern.Stop Go.Stop Go.Extern
set_option linter.unusedVariables false

/-! ### '==' between two errors that are numbers of one type (after the given note's text) -/
section
variable {P : Program} (w : World)
theorem run_equalIn_iface_int (d : Nat) {ti tn : TypeId} {ms : Array (String × TypeId)} {i : TypeInfo} {k : IntKind} (a b : Int)
    (hi : P.underlying ti = some (.interface ms)) (hn : P.underlying tn = some (.int k)) (hinfo : P.info? tn = some i) (hcomp : i.comparable = true) :
    (Op.equalIn (d + 2) ti (.iface tn (.int k a)) (.iface tn (.int k b))).run P w = .ok (a == b) w := by
  simp [Op.equalIn, run_underlying hi, run_underlying hn, typeInfo, hinfo, hcomp]
theorem run_eql_iface_int {ti tn : TypeId} {ms : Array (String × TypeId)} {i : TypeInfo} {k : IntKind} (a b : Int)
    (hi : P.underlying ti = some (.interface ms)) (hn : P.underlying tn = some (.int k)) (hinfo : P.info? tn = some i) (hcomp : i.comparable = true) :
    (binOp .eql ti (.iface tn (.int k a)) (.iface tn (.int k b))).run P w = .ok (.bool (a == b)) w := by
  simp only [binOp]
  simp [Op.equal, Op.maxDepth, run_equalIn_iface_int w 9998 a b hi hn hinfo hcomp]
end

/-! ### a chain in memory -/
abbrev Pl := ByteArray × Int
abbrev placedV (blk : Nat) : Value := .iface 123 (.pointer (some ⟨blk, 0, none⟩))
abbrev errnoV (k : Int) : Value := .iface 44 (.int .i64 k)
abbrev plainV (a : Addr) : Value := .iface 16 (.pointer (some a))
def Chain (W : World) : Value → List Pl → Value → Prop
  | v, [], b => v = b
  | v, (s, n) :: r, b => ∃ (blk : Nat) (v' : Value), v = placedV blk ∧ W.cell? ⟨blk, 0, none⟩ = some v' ∧ W.cell? ⟨blk, 1, none⟩ = some (.string s) ∧ W.cell? ⟨blk, 2, none⟩ = some (.int .i64 n) ∧ Chain W v' r b
def IsBase (b : Value) : Prop := (∃ k, b = errnoV k) ∨ ∃ a, b = plainV a
theorem base_ne {b : Value} (h : IsBase b) (blk : Nat) : b ≠ placedV blk := by
  rintro rfl
  rcases h with ⟨k, h⟩ | ⟨a, h⟩
  · simp at h
  · simp at h
theorem Chain.unique {W : World} : ∀ {l l' : List Pl} {v b b' : Value}, IsBase b → IsBase b' → Chain W v l b → Chain W v l' b' → l.length = l'.length
  | [], [], _, _, _, _, _, _, _ => rfl
  | [], (_, _) :: _, v, b, b', hb, hb', h, h' => by
    obtain ⟨blk, v', e, _⟩ := h'
    have h : v = b := h
    exact absurd (h ▸ e) (base_ne hb blk)
  | (_, _) :: _, [], v, b, b', hb, hb', h, h' => by
    obtain ⟨blk, v', e, _⟩ := h
    have h' : v = b' := h'
    exact absurd (h' ▸ e) (base_ne hb' blk)
  | (_, _) :: r, (_, _) :: r', v, b, b', hb, hb', h, h' => by
    obtain ⟨blk, v1, e, hc, _, _, hr⟩ := h
    obtain ⟨blk', v1', e', hc', _, _, hr'⟩ := h'
    rw [e] at e'
    have hblk : blk = blk' := by simpa using e'
    subst hblk
    rw [hc] at hc'
    obtain rfl := Option.some.inj hc'
    rw [List.length_cons, List.length_cons, Chain.unique hb hb' hr hr']
open Classical in
/-- How many links are left: the loops' measure. -/
noncomputable def chainLen (W : World) (v : Value) : Nat := if h : ∃ (n : Nat) (l : List Pl) (b : Value), l.length = n ∧ IsBase b ∧ Chain W v l b then h.choose else 0
theorem chainLen_eq {W : World} {v b : Value} {l : List Pl} (hb : IsBase b) (h : Chain W v l b) : chainLen W v = l.length := by
  unfold chainLen
  have hex : ∃ (n : Nat) (l : List Pl) (b : Value), l.length = n ∧ IsBase b ∧ Chain W v l b := ⟨_, l, b, rfl, hb, h⟩
  rw [dif_pos hex]
  obtain ⟨l', b', e, hb', h'⟩ := hex.choose_spec
  rw [← e]
  exact Chain.unique hb' hb h' h
theorem Chain.below {W W' : World} (hw : Below W.heap.size W W') : ∀ {l : List Pl} {v b : Value}, Chain W v l b → Chain W' v l b
  | [], _, _, h => h
  | (s, n) :: r, v, b, ⟨blk, v', e, h0, h1, h2, hr⟩ => by
    have hlt := Lib.lt_of_cell h0
    exact ⟨blk, v', e, (hw.cell (p := ⟨blk, 0, none⟩) hlt).trans h0, (hw.cell (p := ⟨blk, 1, none⟩) hlt).trans h1, (hw.cell (p := ⟨blk, 2, none⟩) hlt).trans h2, Chain.below hw hr⟩

/-! ### closed facts on the method sets -/
theorem hasUnP (v : Value) (xT : TypeId) (w : World) : (Instr.typeAssert (.iface 123 v) xT 185 true).run Tryz.prog w = .ok (.tuple #[.iface 123 v, .bool true]) w := run_typeAssert_hasB Tryz.underlying185 (by kernel_rfl) v xT w
theorem noUnE (v : Value) (xT : TypeId) (w : World) : (Instr.typeAssert (.iface 44 v) xT 185 true).run Tryz.prog w = .ok (.tuple #[.nilIface, .bool false]) w := run_typeAssert_lacksB Tryz.underlying185 (by kernel_rfl) (by kernel_rfl) v xT w
theorem noUnS (v : Value) (xT : TypeId) (w : World) : (Instr.typeAssert (.iface 16 v) xT 185 true).run Tryz.prog w = .ok (.tuple #[.nilIface, .bool false]) w := run_typeAssert_lacksB Tryz.underlying185 (by kernel_rfl) (by kernel_rfl) v xT w
theorem noUnsE (v : Value) (xT : TypeId) (w : World) : (Instr.typeAssert (.iface 44 v) xT 187 true).run Tryz.prog w = .ok (.tuple #[.nilIface, .bool false]) w := run_typeAssert_lacksB Tryz.underlying187 (by kernel_rfl) (by kernel_rfl) v xT w
theorem noUnsS (v : Value) (xT : TypeId) (w : World) : (Instr.typeAssert (.iface 16 v) xT 187 true).run Tryz.prog w = .ok (.tuple #[.nilIface, .bool false]) w := run_typeAssert_lacksB Tryz.underlying187 (by kernel_rfl) (by kernel_rfl) v xT w
theorem methodUnwrap (v : Value) (w : World) : (Go.method 404 123 v "Unwrap").run Tryz.prog w = .ok (203, v) w := by kernel_rfl
/-- What the model's entry for the method Comparable asks and answers. -/
def cmpFn : TypeId → Sem Value := fun t => do Extern.Rtype.noPackHeld "Comparable" t; pure (.bool (← typeInfo t).comparable)
theorem isTypeOfE (v : Value) (w : World) : (Extern.ReflectliteType.typeOf #[.iface 44 v]).run Tryz.prog w = .ok (.iface 177 (.agg #[.pointer (some ⟨4, 44, none⟩)])) w := by kernel_rfl
theorem compE (w : World) : ((Extern.ReflectliteType.method cmpFn) #[.agg #[.pointer (some ⟨4, 44, none⟩)]]).run Tryz.prog w = .ok (.bool true) w := by kernel_rfl
theorem methodComparable (v : Value) (w : World) : (Go.method 404 177 v "Comparable").run Tryz.prog w = .ok (209, v) w := by kernel_rfl
theorem infoE : (Tryz.prog.info? 44).map (·.comparable) = some true := by kernel_rfl
/-! ### errors.Is -/
theorem ne_nil {W : World} {v b : Value} {l : List Pl} (hb : IsBase b) (h : Chain W v l b) : ∃ u x, v = .iface u x := by
  cases l with
  | nil => rcases hb with ⟨k, rfl⟩ | ⟨a, rfl⟩ <;> exact ⟨_, _, h⟩
  | cons y r => obtain ⟨_, _, e, _⟩ := h; exact ⟨_, _, e⟩

end Go.Proofs.YtdllgeanmlmmfaaGreatDoor.Fault
namespace Go.Proofs.YtdllgeanmlmmfaaGreatDoor.Stamp
open Go.RowKit
set_option linter.unusedVariables false

/-- t and s; the greatest number where there is no such time. -/
def plusF (a b : Int) : Int := if 18446744073709551615 - a ≤ b then 18446744073709551615 else a + b
def reachB (a b c : Int) : Bool := decide (plusF a b ≠ 18446744073709551615 ∧ plusF a b ≤ c)
def U (a : Int) : Prop := 0 ≤ a ∧ a ≤ 18446744073709551615

theorem ret_int {k : IntKind} {a b : Int} (h : a = b) : Ending.returned (.int k a) = .returned (.int k b) := by rw [h]
theorem plusF_U {a b : Int} (ha : U a) (hb : U b) : U (plusF a b) := by unfold U plusF at *; split <;> omega

theorem plus_any (a b : Int) (ha : U a) (hb : U b) (w : World) :
    Calls Tryz.prog 89 #[.int .u64 a, .int .u64 b] w fun e w' => e = .returned (.int .u64 (plusF a b)) ∧ w = w' := by
  obtain ⟨ha1, ha2⟩ := ha
  obtain ⟨hb1, hb2⟩ := hb
  by_cases h : 18446744073709551615 - a ≤ b
  · go_enter Tryz.func89, Tryz.ntmps89
    go_wp2
    go_ret
    exact ⟨ret_int (by unfold plusF; rw [if_pos h]), rfl⟩
  · go_enter Tryz.func89, Tryz.ntmps89
    go_wp2
    go_ret
    exact ⟨ret_int (by unfold plusF; rw [if_neg (by omega)]), rfl⟩

theorem refPlus_any (a b : Int) (ha : U a) (hb : U b) (w : World) :
    Calls Tryz.prog 87 #[.int .u64 a, .int .u64 b] w fun e w' => e = .returned (.int .u64 (plusF a b)) ∧ w = w' := by
  obtain ⟨ha1, ha2⟩ := ha
  obtain ⟨hb1, hb2⟩ := hb
  by_cases h : 18446744073709551615 - a ≤ b
  · go_enter Tryz.func87, Tryz.ntmps87
    go_wp2
    go_ret
    exact ⟨ret_int (by unfold plusF; rw [if_pos h]), rfl⟩
  · go_enter Tryz.func87, Tryz.ntmps87
    go_wp2
    go_ret
    exact ⟨ret_int (by unfold plusF; rw [if_neg (by omega)]), rfl⟩

theorem reaches_any (a b c : Int) (ha : U a) (hb : U b) (hc : U c) (w : World) :
    Calls Tryz.prog 156 #[.int .u64 a, .int .u64 b, .int .u64 c] w fun e w' => e = .returned (.bool (reachB a b c)) ∧ w = w' := by
  have hp := plusF_U ha hb
  obtain ⟨hp1, hp2⟩ := hp
  by_cases h1 : plusF a b = 18446744073709551615
  · have e1 : (plusF a b != 18446744073709551615) = false := by rw [bne_eq_false_iff_eq]; exact h1
    have hr0 : reachB a b c = false := by unfold reachB; exact decide_eq_false (fun h => h.1 h1)
    have hr := Lib.hid hr0
    clear h1 hr0
    go_enter Tryz.func156, Tryz.ntmps156
    go_wp2_with (go_at_call 89; refine (plus_any a b ha hb _).mono ?_; rintro e w' ⟨rfl, rfl⟩)
    go_ret
    exact ⟨by rw [hr.out]; rfl, rfl⟩
  · have e1 : (plusF a b != 18446744073709551615) = true := by rw [bne_iff_ne]; exact h1
    have hr0 : reachB a b c = decide (plusF a b ≤ c) := by unfold reachB; exact decide_eq_decide.2 ⟨fun h => h.2, fun h => ⟨h1, h⟩⟩
    have hr := Lib.hid hr0
    clear h1 hr0
    go_enter Tryz.func156, Tryz.ntmps156
    go_wp2_with (go_at_call 89; refine (plus_any a b ha hb _).mono ?_; rintro e w' ⟨rfl, rfl⟩)
    go_ret
    exact ⟨by rw [hr.out]; rfl, rfl⟩

end Go.Proofs.YtdllgeanmlmmfaaGreatDoor.Stamp
namespace Go.Proofs.YtdllgeanmlmmfaaGreatDoor.Gr
open Go.RowKit
set_option linter.unusedVariables false

theorem plusN_plusF (a b : Int) : Stamp.plusF a b = plusN a b := rfl
theorem upd_same (M : Nat → Nat → Int) (a b : Nat) (v : Int) : upd M a b v a b = v := if_pos ⟨rfl, rfl⟩
theorem upd_other {M : Nat → Nat → Int} {a b i j : Nat} {v : Int} (h : ¬ (i = a ∧ j = b)) : upd M a b v i j = M i j := if_neg h
theorem upd_le {M : Nat → Nat → Int} {a b : Nat} {v : Int} (h : v ≤ M a b) (i j : Nat) : upd M a b v i j ≤ M i j := by
  by_cases e : i = a ∧ j = b
  · obtain ⟨rfl, rfl⟩ := e; rw [upd_same]; exact h
  · rw [upd_other e]; exact Int.le_refl _
def SoundM (E : List Ed) (z : Bool) (n : Nat) (M : Nat → Nat → Int) : Prop := ∀ i j : Nat, i < n → j < n → Sound E z i j (M i j)
theorem SoundM.upd {E : List Ed} {z : Bool} {n : Nat} {M : Nat → Nat → Int} (h : SoundM E z n M) {a b : Nat} {v : Int} (hv : Sound E z a b v) : SoundM E z n (upd M a b v) := by
  intro i j hi hj
  by_cases e : i = a ∧ j = b
  · obtain ⟨rfl, rfl⟩ := e; rw [upd_same]; exact hv
  · rw [upd_other e]; exact h i j hi hj
theorem SoundM.bd {E : List Ed} {z : Bool} {n : Nat} {M : Nat → Nat → Int} (h : SoundM E z n M) {i j : Nat} (hi : i < n) (hj : j < n) : 0 ≤ M i j ∧ M i j ≤ 18446744073709551615 := (h i j hi hj).1

/-! the edges, one by one -/
def Ph0 (E : List Ed) (n k : Nat) (M : Nat → Nat → Int) : Prop := SoundM E false n M ∧ ∀ (e : Ed) (f t : Nat), e ∈ E.take k → e.f = f → e.t = t → M f t ≤ e.a
theorem Ph0.start (E : List Ed) (n : Nat) : Ph0 E n 0 (fun _ _ => 18446744073709551615) := ⟨fun i j _ _ => Sound.never _ _ _ _, fun e f t h => by simp at h⟩
theorem Ph0.step {E : List Ed} {n k : Nat} {M : Nat → Nat → Int} (hE : Fits E n) (h : Ph0 E n k M) {e : Ed} {f t : Nat} (he : E[k]? = some e) (hf : e.f = f) (ht : e.t = t) : Ph0 E n (k + 1) (upd M f t (min (M f t) e.a)) := by
  have hm := List.mem_of_getElem? he
  have hb := hE e hm
  refine ⟨h.1.upd (Sound.min (h.1 f t (by omega) (by omega)) (by rw [← hf, ← ht]; exact Sound.edge hE false hm)), fun e' f' t' he' hf' ht' => ?_⟩
  rw [take_succ' he] at he'
  rcases List.mem_append.1 he' with he' | he'
  · exact Int.le_trans (upd_le (Int.min_le_left _ _) _ _) (h.2 e' f' t' he' hf' ht')
  · simp at he'
    subst he'
    have e1 : f' = f := by omega
    have e2 : t' = t := by omega
    subst e1 e2
    rw [upd_same]
    exact Int.min_le_right _ _

/-! by one more port between -/
def Ph (E : List Ed) (n b x y : Nat) (M : Nat → Nat → Int) : Prop :=
  SoundM E false n M ∧ (∀ i j : Nat, i < n → j < n → Via E b i j (M i j)) ∧ ∀ i j : Nat, i < n → j < n → (i < x ∨ i = x ∧ j < y) → Via E (b + 1) i j (M i j)
theorem Ph0.done {E : List Ed} {n k : Nat} {M : Nat → Nat → Int} (hE : Fits E n) (h : Ph0 E n k M) (hk : E.length ≤ k) : Ph E n 0 0 0 M := by
  refine ⟨h.1, fun i j _ _ => Via.zero hE fun e he hf ht => h.2 e i j (by rw [take_all hk]; exact he) hf ht, fun i j _ _ h => ?_⟩
  omega
theorem Ph.step {E : List Ed} {n b x y : Nat} {M : Nat → Nat → Int} (hE : Fits E n) (h : Ph E n b x y M) (hb : b < n) (hx : x < n) (hy : y < n) : Ph E n b x (y + 1) (upd M x y (min (M x y) (plusN (M x b) (M b y)))) := by
  have hle := upd_le (M := M) (a := x) (b := y) (v := min (M x y) (plusN (M x b) (M b y))) (Int.min_le_left _ _)
  refine ⟨h.1.upd (Sound.min (h.1 x y hx hy) (Sound.plus (h.1 x b hx hb) (h.1 b y hb hy))), fun i j hi hj => (h.2.1 i j hi hj).mono (hle i j), fun i j hi hj hd => ?_⟩
  by_cases e : i = x ∧ j = y
  · obtain ⟨rfl, rfl⟩ := e
    rw [upd_same]
    exact Via.step hE (h.1 i b hi hb).1.2 (h.2.1 i j hi hj) (h.2.1 i b hi hb) (h.2.1 b j hb hj)
  · exact (h.2.2 i j hi hj (by omega)).mono (hle i j)
theorem Ph.row {E : List Ed} {n b x y : Nat} {M : Nat → Nat → Int} (h : Ph E n b x y M) (hy : n ≤ y) : Ph E n b (x + 1) 0 M := ⟨h.1, h.2.1, fun i j hi hj hd => h.2.2 i j hi hj (by omega)⟩
theorem Ph.next {E : List Ed} {n b x y : Nat} {M : Nat → Nat → Int} (h : Ph E n b x y M) (hx : n ≤ x) : Ph E n (b + 1) 0 0 M := ⟨h.1, fun i j hi hj => h.2.2 i j hi hj (by omega), fun i j hi hj hd => by omega⟩
/-- The least of all ways. -/
def LeastM (E : List Ed) (z : Bool) (n : Nat) (M : Nat → Nat → Int) : Prop := ∀ i j : Nat, i < n → j < n → IsLeast E z i j (M i j)
theorem Ph.done {E : List Ed} {n b x y : Nat} {M : Nat → Nat → Int} (hE : Fits E n) (h : Ph E n b x y M) (hb : b = n) : LeastM E false n M := fun i j hi hj => by subst hb; exact Via.all hE (h.1 i j hi hj) (h.2.1 i j hi hj)
theorem LeastM.sound {E : List Ed} {z : Bool} {n : Nat} {M : Nat → Nat → Int} (h : LeastM E z n M) : SoundM E z n M := fun i j hi hj => (h i j hi hj).1
theorem LeastM.one {E : List Ed} {z : Bool} {n : Nat} {M M' : Nat → Nat → Int} (h : LeastM E z n M) (h' : LeastM E z n M') : ∀ i j, i < n → j < n → M i j = M' i j := fun i j hi hj => (h i j hi hj).one (h' i j hi hj)

/-! the document's: by one more edge -/
def Rd1 (E : List Ed) (n r x k : Nat) (M : Nat → Nat → Int) : Prop :=
  SoundM E true n M ∧ (∀ i j : Nat, i < n → j < n → Len E r i j (M i j)) ∧ (∀ i j : Nat, i < n → j < n → i < x → Len E (r + 1) i j (M i j)) ∧ ∀ (e : Ed) (t : Nat), x < n → e ∈ E.take k → e.t = t → Ends E r x e (M x t)
def diag (i j : Nat) : Int := if i = j then 0 else 18446744073709551615
theorem Rd1.start (E : List Ed) (n : Nat) : Rd1 E n 0 0 0 diag := by
  refine ⟨fun i j _ _ => ?_, fun i j _ _ => Len.zero fun h => ?_, fun i j _ _ h => by omega, fun e t _ h => by simp at h⟩
  · unfold diag
    by_cases e : i = j
    · subst e; rw [if_pos rfl]; exact Sound.here E i
    · rw [if_neg e]; exact Sound.never _ _ _ _
  · have : i = j := by omega
    subst this
    unfold diag
    rw [if_pos rfl]
    exact Int.le_refl _
theorem Rd1.step {E : List Ed} {n r x k : Nat} {M : Nat → Nat → Int} (hE : Fits E n) (h : Rd1 E n r x k M) (hx : x < n) {e : Ed} {f t : Nat} (he : E[k]? = some e) (hf : e.f = f) (ht : e.t = t) (hlt : plusN (M x f) e.a < M x t) : Rd1 E n r x (k + 1) (upd M x t (plusN (M x f) e.a)) := by
  have hm := List.mem_of_getElem? he
  have hb := hE e hm
  have hfn : f < n := by omega
  have htn : t < n := by omega
  have hle := upd_le (M := M) (a := x) (b := t) (v := plusN (M x f) e.a) (by omega)
  have hs : Sound E true x t (plusN (M x f) e.a) := by
    have := Sound.plus (h.1 x f hx hfn) (show Sound E true f t e.a by rw [← hf, ← ht]; exact Sound.edge hE true hm)
    exact this
  refine ⟨h.1.upd hs, fun i j hi hj => (h.2.1 i j hi hj).mono (Nat.le_refl _) (hle i j), fun i j hi hj hd => (h.2.2.1 i j hi hj hd).mono (Nat.le_refl _) (hle i j), fun e' t' _ he' ht' => ?_⟩
  rw [take_succ' he] at he'
  rcases List.mem_append.1 he' with he' | he'
  · exact (h.2.2.2 e' t' hx he' ht').mono (hle x t')
  · simp at he'
    subst he'
    have e2 : t' = t := by omega
    subst e2
    rw [upd_same]
    exact Ends.of (h := by rw [hf]; exact h.2.1 x f hx hfn) (h.1 x f hx hfn).1.2 (Int.le_refl _)
theorem Rd1.skip {E : List Ed} {n r x k : Nat} {M : Nat → Nat → Int} (hE : Fits E n) (h : Rd1 E n r x k M) (hx : x < n) {e : Ed} {f t : Nat} (he : E[k]? = some e) (hf : e.f = f) (ht : e.t = t) (hlt : ¬ plusN (M x f) e.a < M x t) : Rd1 E n r x (k + 1) M := by
  have hm := List.mem_of_getElem? he
  have hb := hE e hm
  have hfn : f < n := by omega
  refine ⟨h.1, h.2.1, h.2.2.1, fun e' t' _ he' ht' => ?_⟩
  rw [take_succ' he] at he'
  rcases List.mem_append.1 he' with he' | he'
  · exact h.2.2.2 e' t' hx he' ht'
  · simp at he'
    subst he'
    have e2 : t' = t := by omega
    subst e2
    exact Ends.of (h := by rw [hf]; exact h.2.1 x f hx hfn) (h.1 x f hx hfn).1.2 (by omega)
theorem Rd1.row {E : List Ed} {n r x k : Nat} {M : Nat → Nat → Int} (h : Rd1 E n r x k M) (hk : E.length ≤ k) (hx : x < n) : Rd1 E n r (x + 1) 0 M := by
  refine ⟨h.1, h.2.1, fun i j hi hj hd => ?_, fun e t _ h => by simp at h⟩
  by_cases e : i = x
  · subst e
    exact (h.2.1 i j hi hj).succ fun e he ht => h.2.2.2 e j hi (by rw [take_all hk]; exact he) ht
  · exact h.2.2.1 i j hi hj (by omega)
theorem Rd1.next {E : List Ed} {n r x k : Nat} {M : Nat → Nat → Int} (h : Rd1 E n r x k M) (hx : n ≤ x) : Rd1 E n (r + 1) 0 0 M :=
  ⟨h.1, fun i j hi hj => h.2.2.1 i j hi hj (by omega), fun i j _ _ hd => by omega, fun e t _ h => by simp at h⟩
theorem Rd1.done {E : List Ed} {n r x k : Nat} {M : Nat → Nat → Int} (hE : Fits E n) (h : Rd1 E n r x k M) (hr : r = n) : LeastM E true n M := fun i j hi hj => by subst hr; exact Len.all hE (h.1 i j hi hj) (h.2.1 i j hi hj)

/-! rows being made -/
structure RowsTo (w : World) (base g : Nat) (r : Nat → Nat) (n k : Nat) (f : Nat → Nat → Int) : Prop where
  top : w.rowIs g 46 n (fun i => if i < k then .slice (some ⟨r i, 0, none⟩) n n else .slice none 0 0)
  row : ∀ i, i < k → w.rowIs (r i) 50 n (fun j => .int .u64 (f i j))
  inj : ∀ i i', i < k → i' < k → r i = r i' → i = i'
  far : ∀ i, i < k → r i ≠ g
  lo : base ≤ g
  los : ∀ i, i < k → base ≤ r i
theorem RowsTo.below {w w' : World} {base g : Nat} {r : Nat → Nat} {n k : Nat} {f : Nat → Nat → Int} (h : RowsTo w base g r n k f) (hw : Below w.heap.size w w') : RowsTo w' base g r n k f :=
  ⟨h.top.of_block (hw.block _ h.top.lt), fun i hi => (h.row i hi).of_block (hw.block _ (h.row i hi).lt), h.inj, h.far, h.lo, h.los⟩
theorem RowsTo.step {w w' : World} {base g b : Nat} {r : Nat → Nat} {n k : Nat} {f : Nat → Nat → Int} (h : RowsTo w base g r n k f) (hw : Below w.heap.size w w') (hb : w.heap.size ≤ b) (hrow : w'.rowIs b 50 n (fun j => .int .u64 (f k j))) (hbase : base ≤ w.heap.size) :
    RowsTo (w'.setCell ⟨g, k, none⟩ (.slice (some ⟨b, 0, none⟩) n n)) base g (fun i => if i = k then b else r i) n (k + 1) f := by
  have h' := h.below hw
  have hg := h.top.lt
  have hbg : b ≠ g := by omega
  have hlt : ∀ i, i < k → r i < w.heap.size := fun i hi => (h.row i hi).lt
  refine ⟨(h'.top.set k _).congr fun i hi => ?_, fun i hi => ?_, fun i i' hi hi' e => ?_, fun i hi => ?_, h.lo, fun i hi => ?_⟩
  · by_cases e : i = k
    · subst e; rw [if_pos rfl, if_pos (by omega), if_pos rfl]
    · rw [if_neg e]
      by_cases e2 : i < k
      · rw [if_pos e2, if_pos (by omega), if_neg e]
      · rw [if_neg e2, if_neg (by omega)]
  · by_cases e : i = k
    · subst e
      show World.rowIs _ (if i = i then b else r i) _ _ _
      rw [if_pos rfl]
      exact hrow.setOther hbg _
    · show World.rowIs _ (if i = k then b else r i) _ _ _
      rw [if_neg e]
      exact (h'.row i (by omega)).setOther (h.far i (by omega)) _
  · have e : (if i = k then b else r i) = (if i' = k then b else r i') := e
    by_cases e1 : i = k
    · by_cases e2 : i' = k
      · omega
      · rw [if_pos e1, if_neg e2] at e
        have := hlt i' (by omega)
        omega
    · by_cases e2 : i' = k
      · rw [if_neg e1, if_pos e2] at e
        have := hlt i (by omega)
        omega
      · rw [if_neg e1, if_neg e2] at e
        exact h.inj i i' (by omega) (by omega) e
  · show (if i = k then b else r i) ≠ g
    by_cases e1 : i = k
    · rw [if_pos e1]; exact hbg
    · rw [if_neg e1]; exact h.far i (by omega)
  · show base ≤ (if i = k then b else r i)
    by_cases e1 : i = k
    · rw [if_pos e1]; omega
    · rw [if_neg e1]; exact h.los i (by omega)
theorem RowsTo.done {w : World} {base g : Nat} {r : Nat → Nat} {n : Nat} {f : Nat → Nat → Int} (h : RowsTo w base g r n n f) : MatF w base g r n f :=
  ⟨h.top.congr fun i hi => if_pos hi, h.row, h.inj, h.far, h.lo, h.los⟩
theorem RowsTo.start {w : World} {base g n : Nat} {f : Nat → Nat → Int} (h : w.rowIs g 46 n (fun _ => .slice none 0 0)) (hb : base ≤ g) : RowsTo w base g (fun _ => 0) n 0 f :=
  ⟨h.congr fun i hi => (if_neg (by omega)).symm, fun i hi => by omega, fun i i' hi => by omega, fun i hi => by omega, hb, fun i hi => by omega⟩
end Go.Proofs.YtdllgeanmlmmfaaGreatDoor.Gr
