/-
  PACKAGE graph: errors at places, told apart from none.
-/
import Derived.Test.YtdbaacalfbbdiaaGreatDoorJoined6
import Derived.Test.YtdbaacalfbbdiaaGreatDoorGWayMath
namespace Go.Proofs.YtdbaacalfbbdiaaGreatDoor.Gr
open Go.RowKit Fault
set_option linter.unusedVariables false

abbrev placedO' (v : Value) (s : ByteArray) (n : Int) : Obj := .cells #[v, .string s, .int .i64 n] 132
theorem at_any (u : TypeId) (x : Value) (s : ByteArray) (n : Int) (w : World) : Calls Tryz.prog 49 #[.iface u x, .string s, .int .i64 n] w fun e w' => e = .returned (placedV w.heap.size) ∧ w' = w.alloc (placedO' (.iface u x) s n) := by
  go_enter Tryz.func49, Tryz.ntmps49
  go_wp2
  go_ret
  exact ⟨rfl, rfl⟩
theorem chain_cons' {w : World} {v b : Value} {l : List Pl} (s : ByteArray) (n : Int) (h : Chain w v l b) : Chain (w.alloc (placedO' v s n)) (placedV w.heap.size) ((s, n) :: l) b :=
  ⟨w.heap.size, v, rfl, by simp, by simp, by simp, h.below ((Below.refl _ _).alloc (Nat.le_refl _) _)⟩
theorem at_chain {w : World} {v b : Value} {l : List Pl} (s : ByteArray) (n : Int) (h : Chain w v l b) (hb : IsBase b) : Calls Tryz.prog 49 #[v, .string s, .int .i64 n] w fun e w' => ∃ blk, e = .returned (placedV blk) ∧ Chain w' (placedV blk) ((s, n) :: l) b ∧ Below w.heap.size w w' := by
  obtain ⟨u, x, rfl⟩ := ne_nil hb h
  refine (at_any u x s n w).mono fun e w' ⟨he, hw⟩ => ⟨_, he, ?_, ?_⟩
  · rw [hw]; exact chain_cons' s n h
  · rw [hw]; exact (Below.refl _ _).alloc (Nat.le_refl _) _
/-- An error of that kind at these places; or none. -/
def ErrIs (w : World) (v : Value) (V : List Pl × Int) : Prop := (V.2 = 0 ∧ V.1 = [] ∧ v = .nilIface) ∨ (V.2 ≠ 0 ∧ Chain w v V.1 (errnoV V.2) ∧ ∃ u x, v = .iface u x)
theorem ErrIs.none (w : World) : ErrIs w .nilIface ([], 0) := .inl ⟨rfl, rfl, rfl⟩
theorem ErrIs.some {w : World} {v : Value} {l : List Pl} {k : Int} (hk : k ≠ 0) (h : Chain w v l (errnoV k)) : ErrIs w v (l, k) := .inr ⟨hk, h, ne_nil (.inl ⟨k, rfl⟩) h⟩
theorem ErrIs.below {w w' : World} {v : Value} {V : List Pl × Int} (h : ErrIs w v V) (hw : Below w.heap.size w w') : ErrIs w' v V := by
  rcases h with h | ⟨h1, h2, h3⟩
  · exact .inl h
  · exact .inr ⟨h1, h2.below hw, h3⟩

/-! what is wrong first -/
def edgeS : ByteArray := { data := #[101, 100, 103, 101] }
def fromS : ByteArray := { data := #[102, 114, 111, 109] }
def toS : ByteArray := { data := #[116, 111] }
def inputS : ByteArray := { data := #[105, 110, 112, 117, 116] }
def portS : ByteArray := { data := #[112, 111, 114, 116] }
def inP (n p : Int) : Prop := 0 ≤ p ∧ p < n
instance (n p : Int) : Decidable (inP n p) := by unfold inP; exact inferInstance
def edgesV (n : Int) : Nat → List Ed → List Pl × Int
  | _, [] => ([], 0)
  | i, x :: r => if ¬ inP n x.f then ([(edgeS, (i : Int)), (fromS, x.f)], 2) else if ¬ inP n x.t then ([(edgeS, (i : Int)), (toS, x.t)], 2) else edgesV n (i + 1) r
theorem edgesV_skip {n : Int} : ∀ {l : List Ed} {i m : Nat}, (∀ y ∈ l.take i, inP n y.f ∧ inP n y.t) → edgesV n m l = edgesV n (m + min i l.length) (l.drop i)
  | [], i, m, _ => by simp [edgesV]
  | x :: r, 0, m, _ => by simp
  | x :: r, i + 1, m, h => by
    have hx := h x (by simp)
    have ih := edgesV_skip (l := r) (i := i) (m := m + 1) fun y hy => h y (by simp [hy])
    rw [edgesV, if_neg (fun hn => hn hx.1), if_neg (fun hn => hn hx.2), ih, List.drop_succ_cons, List.length_cons]
    congr 1
    omega
theorem edgesV_ok {n : Int} {l : List Ed} (h : ∀ y ∈ l, inP n y.f ∧ inP n y.t) : edgesV n 0 l = ([], 0) := by
  rw [edgesV_skip (i := l.length) (by rw [List.take_length]; exact h), List.drop_length]
  rfl
theorem edgesV_f {n : Int} {l : List Ed} {i : Nat} {x : Ed} (h : ∀ y ∈ l.take i, inP n y.f ∧ inP n y.t) (hx : l[i]? = some x) (hf : ¬ inP n x.f) : edgesV n 0 l = ([(edgeS, (i : Int)), (fromS, x.f)], 2) := by
  have hi := (List.getElem?_eq_some_iff.1 hx).1
  have e := (List.getElem?_eq_some_iff.1 hx).2
  rw [edgesV_skip h, List.drop_eq_getElem_cons hi, e, Nat.min_eq_left (by omega), Nat.zero_add, edgesV, if_pos hf]
theorem edgesV_t {n : Int} {l : List Ed} {i : Nat} {x : Ed} (h : ∀ y ∈ l.take i, inP n y.f ∧ inP n y.t) (hx : l[i]? = some x) (hf : inP n x.f) (ht : ¬ inP n x.t) : edgesV n 0 l = ([(edgeS, (i : Int)), (toS, x.t)], 2) := by
  have hi := (List.getElem?_eq_some_iff.1 hx).1
  have e := (List.getElem?_eq_some_iff.1 hx).2
  rw [edgesV_skip h, List.drop_eq_getElem_cons hi, e, Nat.min_eq_left (by omega), Nat.zero_add, edgesV, if_neg (fun hn => hn hf), if_pos ht]
def inputsV (n : Int) : Nat → List Int → List Int → List Pl × Int
  | _, _, [] => ([], 0)
  | i, pre, p :: r => if ¬ inP n p then ([(inputS, (i : Int))], 2) else if p ∈ pre then ([(inputS, (i : Int))], 1) else inputsV n (i + 1) (pre ++ [p]) r
def InOk (n : Int) (l : List Int) (i : Nat) : Prop := ∀ j p, j < i → l[j]? = some p → inP n p ∧ p ∉ l.take j
theorem inputsV_skip {n : Int} {l : List Int} : ∀ {i : Nat}, i ≤ l.length → InOk n l i → inputsV n 0 [] l = inputsV n i (l.take i) (l.drop i)
  | 0, _, _ => rfl
  | i + 1, hi, h => by
    have hlt : i < l.length := by omega
    have hx : l[i]? = some l[i] := List.getElem?_eq_getElem hlt
    have h1 := h i _ (Nat.lt_succ_self i) hx
    rw [inputsV_skip (i := i) (by omega) (fun j p hj hp => h j p (by omega) hp), List.drop_eq_getElem_cons hlt, inputsV, if_neg (fun hn => hn h1.1), if_neg h1.2, take_succ' hx]
theorem inputsV_ok {n : Int} {l : List Int} (h : InOk n l l.length) : inputsV n 0 [] l = ([], 0) := by
  rw [inputsV_skip (Nat.le_refl _) h, List.drop_length]
  rfl
theorem inputsV_out {n : Int} {l : List Int} {i : Nat} {p : Int} (h : InOk n l i) (hx : l[i]? = some p) (hp : ¬ inP n p) : inputsV n 0 [] l = ([(inputS, (i : Int))], 2) := by
  have hi := (List.getElem?_eq_some_iff.1 hx).1
  have e := (List.getElem?_eq_some_iff.1 hx).2
  rw [inputsV_skip (Nat.le_of_lt hi) h, List.drop_eq_getElem_cons hi, e, inputsV, if_pos hp]
theorem inputsV_twice {n : Int} {l : List Int} {i : Nat} {p : Int} (h : InOk n l i) (hx : l[i]? = some p) (hp : inP n p) (hm : p ∈ l.take i) : inputsV n 0 [] l = ([(inputS, (i : Int))], 1) := by
  have hi := (List.getElem?_eq_some_iff.1 hx).1
  have e := (List.getElem?_eq_some_iff.1 hx).2
  rw [inputsV_skip (Nat.le_of_lt hi) h, List.drop_eq_getElem_cons hi, e, inputsV, if_neg (fun hn => hn hp), if_pos hm]
theorem InOk.step {n : Int} {l : List Int} {i : Nat} {p : Int} (h : InOk n l i) (hx : l[i]? = some p) (hp : inP n p) (hm : p ∉ l.take i) : InOk n l (i + 1) := by
  intro j q hj hq
  by_cases e : j = i
  · subst e
    rw [hx] at hq
    obtain rfl := Option.some.inj hq
    exact ⟨hp, hm⟩
  · exact h j q (by omega) hq
/-- The least port on a way round that takes nothing. -/
def CycAt (E : List Ed) (n : Nat) (o : Option Nat) : Prop := (∃ p, o = some p ∧ p < n ∧ Round E p ∧ ∀ q, q < p → ¬ Round E (q : Nat)) ∨ (o = none ∧ ∀ q, q < n → ¬ Round E (q : Nat))
theorem CycAt.one {E : List Ed} {n : Nat} {o o' : Option Nat} (h : CycAt E n o) (h' : CycAt E n o') : o = o' := by
  rcases h with ⟨p, rfl, hp, hr, hl⟩ | ⟨rfl, hl⟩
  · rcases h' with ⟨p', rfl, hp', hr', hl'⟩ | ⟨rfl, hl'⟩
    · rcases Nat.lt_trichotomy p p' with e | e | e
      · exact absurd hr (hl' p e)
      · rw [e]
      · exact absurd hr' (hl p' e)
    · exact absurd hr (hl' p hp)
  · rcases h' with ⟨p', rfl, hp', hr', hl'⟩ | ⟨rfl, hl'⟩
    · exact absurd hr' (hl p' hp')
    · rfl
open Classical in
noncomputable def cycO (E : List Ed) (n : Nat) : Option Nat := if h : ∃ o, CycAt E n o then h.choose else none
theorem cycO_eq {E : List Ed} {n : Nat} {o : Option Nat} (h : CycAt E n o) : cycO E n = o := by
  unfold cycO
  have hex : ∃ o, CycAt E n o := ⟨o, h⟩
  rw [dif_pos hex]
  exact hex.choose_spec.one h
def cycV : Option Nat → List Pl × Int
  | none => ([], 0)
  | some p => ([(portS, (p : Int))], 3)
/-- What is wrong first with a graph. -/
noncomputable def chkV (n : Int) (E : List Ed) (I : List Int) : List Pl × Int :=
  if n < 1 ∨ 64 < n then ([], 2)
  else if 256 < E.length then ([], 4)
  else if (edgesV n 0 E).2 ≠ 0 then edgesV n 0 E
  else if I.length = 0 ∨ 8 < I.length then ([], 4)
  else if (inputsV n 0 [] I).2 ≠ 0 then inputsV n 0 [] I
  else cycV (cycO E n.toNat)
end Go.Proofs.YtdbaacalfbbdiaaGreatDoor.Gr
