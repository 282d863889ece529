
/-
  PACKAGE fault's At, and the laws' own look whether an error is told at its places.
-/
import Derived.Test.YtkcmeklgnbejiaaDoorFaultText
namespace Go.Proofs.YtkcmeklgnbejiaaDoor.Fault
open Go.RowKit
set_option linter.unusedVariables false

theorem at_nil (s : ByteArray) (n : Int) (w : World) : Calls Tryd.prog 58 #[.nilIface, .string s, .int .i64 n] w fun e w' => e = .returned .nilIface ∧ w' = w := by
  go_enter Tryd.func58, Tryd.ntmps58
  go_wp2
  go_ret
  exact ⟨rfl, rfl⟩
abbrev placedO (v : Value) (s : ByteArray) (n : Int) : Obj := .cells #[v, .string s, .int .i64 n] 122
theorem at_some (u : TypeId) (x : Value) (s : ByteArray) (n : Int) (w : World) : Calls Tryd.prog 58 #[.iface u x, .string s, .int .i64 n] w fun e w' => e = .returned (placedV w.heap.size) ∧ w' = w.alloc (placedO (.iface u x) s n) := by
  go_enter Tryd.func58, Tryd.ntmps58
  go_wp2
  go_ret
  exact ⟨rfl, rfl⟩
theorem chain_cons {w : World} {v b : Value} {l : List Pl} (s : ByteArray) (n : Int) (h : Chain w v l b) : Chain (w.alloc (placedO v s n)) (placedV w.heap.size) ((s, n) :: l) b :=
  ⟨w.heap.size, v, rfl, by simp, by simp, by simp, h.below ((Below.refl _ _).alloc (Nat.le_refl _) _)⟩

/-- What the laws read of the library's variables. -/
structure LV (w : World) : Prop where
  tab : Stamp.Tab w
  typ : ErrType w
theorem LV.below {w w' : World} (h : LV w) (hb : Below w.heap.size w w') : LV w' :=
  ⟨Stamp.tab_below h.tab hb, (hb.cell (p := ⟨0, 0, none⟩) (Lib.lt_of_cell h.typ)).trans h.typ⟩
theorem text_errno {w : World} {E : Value} {l : List Pl} (k : Int) (hL : LV w) (hch : Chain w E l (errnoV k)) (hk0 : 0 ≤ k) (hk1 : k ≤ 14) (hl : l.length ≤ 12) (hs : ∀ x ∈ l, Small x) :
    Calls Tryd.prog 16 #[E] w fun e w' => e = .returned (.string ⟨(textL l k).toArray⟩) ∧ Below w.heap.size w w' :=
  text_chain k (.inl ⟨k, rfl⟩) hch hk0 hk1 (fun W hW => kind_errno k (hL.below hW).typ (hch.below hW)) hl hs hL.tab
set_option maxRecDepth 1000000 in
set_option maxHeartbeats 2000000 in
theorem text_nil (w : World) : Calls Tryd.prog 16 #[.nilIface] w fun e w' => e = .returned (.string { data := #[111, 107] }) ∧ Below w.heap.size w w' := by
  have HH := Lib.hid (has_new w)
  have HW0 := Lib.hid (show Below w.heap.size w (w.alloc (.cells #[.pointer none, .slice none 0 0] 83)) from (Below.refl _ _).alloc (Nat.le_refl _) _)
  go_enter Tryd.func16, Tryd.ntmps16
  go_wp2_with fail
  go_at_call 40
  refine (path_nil _).mono ?_
  rintro e w1 ⟨rfl, rfl⟩
  go_wp2_with fail
  refine wp_loop_rounds 1 ?_
  rw [rounds_succ]
  go_wp2_with fail
  go_at_call 12
  refine (kind_nil _).mono ?_
  rintro e w2 ⟨rfl, hb2⟩
  have HE2 := Lib.hid (HH.out.below hb2)
  have HW2 := Lib.hid (HW0.out.trans (hb2.mono HW0.out.size))
  clear hb2
  go_wp2_with fail
  go_at_call 43
  refine (error_any 0 (by decide) (by decide) _).mono ?_
  rintro e w3 ⟨rfl, hb3⟩
  have HE3 := Lib.hid (HE2.out.below hb3)
  have HW3 := Lib.hid (HW2.out.trans (hb3.mono HW2.out.size))
  clear hb3
  go_wp2_with fail
  go_at_call 41
  refine (write_any w.heap.size w.heap.size _ (wordS 0) _ HE3.out (by decide) HW3.out.size).mono ?_
  rintro e w4 ⟨rfl, hh4, hb4, _⟩
  have HE4 := Lib.hid hh4
  have HW4 := Lib.hid (HW3.out.trans hb4)
  clear hh4 hb4
  go_wp2_with fail
  go_at_call 44
  refine (Tryd.Builder_String_any w.heap.size w.heap.size _ _ HE4.out HW4.out.size).mono ?_
  rintro e w5 ⟨rfl, hb5⟩
  go_wp2_with fail
  go_ret
  exact ⟨rfl, HW4.out.trans hb5⟩

theorem toldText : ((⟨(textL [({ data := #[101, 100, 103, 101] }, 3), ({ data := #[116, 111] }, 9)] 2).toArray⟩ : ByteArray).toList == [101, 100, 103, 101, 32, 51, 58, 32, 116, 111, 32, 57, 58, 32, 112, 111, 114, 116]) = true := by
  rw [Lib.toList_data]
  simp [textL, placesL, placeL, Lib.itoa, Lib.decDigits, wordS, wordL]

theorem told_text : ∃ S : ByteArray, (S.toList == [101, 100, 103, 101, 32, 51, 58, 32, 116, 111, 32, 57, 58, 32, 112, 111, 114, 116]) = true ∧ ∀ (w : World) (E : Value), LV w → Chain w E [({ data := #[101, 100, 103, 101] }, 3), ({ data := #[116, 111] }, 9)] (errnoV 2) →
    Calls Tryd.prog 16 #[E] w fun e w' => e = .returned (.string S) ∧ Below w.heap.size w w' :=
  ⟨_, toldText, fun w E hL hch => text_errno 2 hL hch (by decide) (by decide) (by decide) (by
    intro x hx
    simp at hx
    rcases hx with rfl | rfl <;> exact ⟨by decide, by decide, by decide⟩)⟩

end Go.Proofs.YtkcmeklgnbejiaaDoor.Fault
