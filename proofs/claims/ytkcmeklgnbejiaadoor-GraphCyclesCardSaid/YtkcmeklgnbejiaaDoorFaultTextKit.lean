
/-
  PACKAGE fault's Text: the places of a chain in words, the outer ones ahead, then the word of its number.
-/
import Derived.Test.YtkcmeklgnbejiaaDoorBld
import Derived.Test.YtkcmeklgnbejiaaDoorFaultKind
import Derived.Test.YtkcmeklgnbejiaaDoorFaultWord
import Derived.Test.YtkcmeklgnbejiaaDoorStampParse
namespace Go.Proofs.YtkcmeklgnbejiaaDoor.Fault
open Go.RowKit
set_option linter.unusedVariables false

/-! ### the builder, by the bytes that it holds -/
def Has (B b : Nat) (l : List UInt8) (w : World) : Prop := Lib.IsBuilder 83 5 B b (Lib.byteCells l) w
theorem own_below {w w' : World} {B n : Nat} {v : Value} {xs : List Value} (h : w.ownsRow B 5 1 v n xs) (hb : Below w.heap.size w w') : w'.ownsRow B 5 1 v n xs := by
  refine ⟨h.1, ?_⟩
  rcases h.2 with h0 | ⟨g, cap, cur, h1, h2, h3, h4⟩
  · exact .inl h0
  · refine .inr ⟨g, cap, cur, h1, h2, ?_, h4⟩
    have hg : g < w.heap.size := by
      rcases Nat.lt_or_ge g w.heap.size with h5 | h5
      · exact h5
      · rw [Array.getElem?_eq_none h5] at h3; cases h3
    rw [hb.block g hg]; exact h3
theorem at_below {w w' : World} {B b : Nat} {p : Value} {bs : List Value} (h : Lib.BuilderAt 83 5 B b p bs w) (hb : Below w.heap.size w w') : Lib.BuilderAt 83 5 B b p bs w' := by
  have hlt := h.lt
  obtain ⟨h1, v, h2, h3, h4⟩ := h
  exact ⟨h1, v, by rw [hb.block b hlt]; exact h2, own_below h3 hb, h4⟩
theorem Has.below {w w' : World} {B b : Nat} {l : List UInt8} (h : Has B b l w) (hb : Below w.heap.size w w') : Has B b l w' := by
  rcases h with h | h
  · exact .inl (at_below h hb)
  · exact .inr (at_below h hb)
theorem has_new (w : World) : Has w.heap.size w.heap.size [] (w.alloc (.cells #[.pointer none, .slice none 0 0] 83)) :=
  .inl ⟨Nat.le_refl _, .slice none 0 0, by show (w.heap.push _)[w.heap.size]? = _; simp, World.ownsRow_nil _ _ _ _, by intro h; cases h⟩
theorem write_any (B b : Nat) (l : List UInt8) (s : ByteArray) (w : World) (h : Has B b l w) (hlen : l.length + s.size ≤ 140737488355328) (hBw : B ≤ w.heap.size) :
    Calls Tryd.prog 41 #[.pointer (some ⟨b, 0, none⟩), .string s] w fun e w' => e = .returned (.tuple #[.int .i64 s.size, .nilIface]) ∧ Has B b (l ++ s.data.toList) w' ∧ Below B w w' ∧ Bld.Keeps b w w' := by
  refine (Bld.writeString B b _ s w h (by rw [Lib.byteCells_length]; exact hlen) hBw).mono ?_
  rintro e w' ⟨rfl, h1, h2, h3⟩
  refine ⟨rfl, .inr ?_, h2, h3⟩
  have e1 : Lib.byteCells (l ++ s.data.toList) = Lib.byteCells l ++ Lib.strCells s := by unfold Lib.byteCells Lib.strCells; rw [List.map_append]
  rw [e1]; exact h1
theorem itoa_any (n : Int) (h0 : -9223372036854775808 ≤ n) (h1 : n ≤ 9223372036854775807) (w : World) (htab : Stamp.Tab w) :
    Calls Tryd.prog 42 #[.int .i64 n] w fun e w' => e = .returned (.string ⟨(Lib.itoa n).toArray⟩) ∧ Below w.heap.size w w' := by
  refine (Tryd.strconv_Itoa n h0 h1 w htab).mono ?_
  rintro e w' ⟨rfl, k, os, rfl⟩
  exact ⟨rfl, Lib.below_grow _ w (Nat.le_refl _) k os⟩
theorem itoa_length (n : Int) (h0 : -9223372036854775808 ≤ n) (h1 : n ≤ 9223372036854775807) : (Lib.itoa n).length ≤ 21 := by
  unfold Lib.itoa
  split
  · rw [List.length_cons, Lib.decDigits_length]
    have := Stamp.nDigits_le n.natAbs (by omega); omega
  · rw [Lib.decDigits_length]
    have := Stamp.nDigits_le n.toNat (by omega); omega

/-! ### the words -/
def placeL (x : Pl) : List UInt8 := x.1.data.toList ++ [32] ++ Lib.itoa x.2 ++ [58, 32]
def placesL (l : List Pl) : List UInt8 := l.flatMap placeL
def textL (l : List Pl) (k : Int) : List UInt8 := placesL l ++ (wordS k).data.toList
/-- A place as the laws look at it. -/
def Small (x : Pl) : Prop := x.1.size ≤ 20 ∧ -9223372036854775808 ≤ x.2 ∧ x.2 ≤ 9223372036854775807
theorem placeL_length {x : Pl} (h : Small x) : (placeL x).length ≤ 44 := by
  obtain ⟨h1, h2, h3⟩ := h
  unfold placeL
  have := itoa_length x.2 h2 h3
  have e : x.1.data.toList.length = x.1.size := rfl
  simp only [List.length_append, List.length_cons, List.length_nil, e]
  omega
theorem placesL_length : ∀ (l : List Pl), (∀ x ∈ l, Small x) → (placesL l).length ≤ 44 * l.length
  | [], _ => by simp [placesL]
  | x :: r, h => by
    have h1 := placeL_length (h x (List.mem_cons_self ..))
    have h2 := placesL_length r (fun y hy => h y (List.mem_cons_of_mem _ hy))
    unfold placesL at *
    rw [List.flatMap_cons, List.length_append, List.length_cons]
    omega
theorem placesL_snoc (l : List Pl) (x : Pl) : placesL (l ++ [x]) = placesL l ++ x.1.data.toList ++ [32] ++ Lib.itoa x.2 ++ [58, 32] := by
  unfold placesL; rw [List.flatMap_append]; simp [placeL]
theorem wordS_size (k : Int) (h0 : 0 ≤ k) (h1 : k ≤ 14) : (wordS k).size ≤ 11 := by
  have hk : k = 0 ∨ k = 1 ∨ k = 2 ∨ k = 3 ∨ k = 4 ∨ k = 5 ∨ k = 6 ∨ k = 7 ∨ k = 8 ∨ k = 9 ∨ k = 10 ∨ k = 11 ∨ k = 12 ∨ k = 13 ∨ k = 14 := by omega
  rcases hk with rfl | rfl | rfl | rfl | rfl | rfl | rfl | rfl | rfl | rfl | rfl | rfl | rfl | rfl | rfl <;> decide
end Go.Proofs.YtkcmeklgnbejiaaDoor.Fault
