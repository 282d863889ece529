/-
  PACKAGE fault's At, and the laws' own look whether an error is told at its places.
-/
import Derived.Test.YtcjbmeebenaonaaDoorFaultText
namespace Go.Proofs.YtcjbmeebenaonaaDoor.Fault
open Go.RowKit
set_option linter.unusedVariables false

theorem at_nil (s : ByteArray) (n : Int) (w : World) : Calls Tryd.prog 27 #[.nilIface, .string s, .int .i64 n] w fun e w' => e = .returned .nilIface ∧ w' = w := by
  go_enter Tryd.func27, Tryd.ntmps27
  go_wp2
  go_ret
  exact ⟨rfl, rfl⟩
abbrev placedO (v : Value) (s : ByteArray) (n : Int) : Obj := .cells #[v, .string s, .int .i64 n] 70
theorem at_some (u : TypeId) (x : Value) (s : ByteArray) (n : Int) (w : World) : Calls Tryd.prog 27 #[.iface u x, .string s, .int .i64 n] w fun e w' => e = .returned (placedV w.heap.size) ∧ w' = w.alloc (placedO (.iface u x) s n) := by
  go_enter Tryd.func27, Tryd.ntmps27
  go_wp2
  go_ret
  exact ⟨rfl, rfl⟩
theorem chain_cons {w : World} {v b : Value} {l : List Pl} (s : ByteArray) (n : Int) (h : Chain w v l b) : Chain (w.alloc (placedO v s n)) (placedV w.heap.size) ((s, n) :: l) b :=
  ⟨w.heap.size, v, rfl, by simp, by simp, by simp, h.below ((Below.refl _ _).alloc (Nat.le_refl _) _)⟩

/-- What the laws read of the library's variables. -/
structure LV (w : World) : Prop where
  tab : Stamp.Tab w
  typ : ErrType w
theorem LV.below {w w' : World} (h : LV w) (hb : Below w.heap.size w w') : LV w' :=
  ⟨Stamp.tab_below h.tab hb, (hb.cell (p := ⟨0, 0, none⟩) (Lib.lt_of_cell h.typ)).trans h.typ⟩
theorem text_errno {w : World} {E : Value} {l : List Pl} (k : Int) (hL : LV w) (hch : Chain w E l (errnoV k)) (hk0 : 0 ≤ k) (hk1 : k ≤ 14) (hl : l.length ≤ 12) (hs : ∀ x ∈ l, Small x) :
    Calls Tryd.prog 22 #[E] w fun e w' => e = .returned (.string ⟨(textL l k).toArray⟩) ∧ Below w.heap.size w w' :=
  text_chain k (.inl ⟨k, rfl⟩) hch hk0 hk1 (fun W hW => kind_errno k (hL.below hW).typ (hch.below hW)) hl hs hL.tab
theorem text_plain {w : World} {E : Value} {l : List Pl} (a : Addr) (hL : LV w) (hch : Chain w E l (plainV a)) (hl : l.length ≤ 12) (hs : ∀ x ∈ l, Small x) :
    Calls Tryd.prog 22 #[E] w fun e w' => e = .returned (.string ⟨(textL l 14).toArray⟩) ∧ Below w.heap.size w w' :=
  text_chain 14 (.inr ⟨a, rfl⟩) hch (by decide) (by decide) (fun W hW => kind_plain a (hL.below hW).typ (hch.below hW)) hl hs hL.tab

set_option maxRecDepth 1000000 in
set_option maxHeartbeats 2000000 in
theorem text_nil (w : World) : Calls Tryd.prog 22 #[.nilIface] w fun e w' => e = .returned (.string { data := #[111, 107] }) ∧ Below w.heap.size w w' := by
  have HH := Lib.hid (has_new w)
  have HW0 := Lib.hid (show Below w.heap.size w (w.alloc (.cells #[.pointer none, .slice none 0 0] 62)) from (Below.refl _ _).alloc (Nat.le_refl _) _)
  go_enter Tryd.func22, Tryd.ntmps22
  go_wp2_with fail
  go_at_call 24
  refine (path_nil _).mono ?_
  rintro e w1 ⟨rfl, rfl⟩
  go_wp2_with fail
  refine wp_loop_rounds 1 ?_
  rw [rounds_succ]
  go_wp2_with fail
  go_at_call 20
  refine (kind_nil _).mono ?_
  rintro e w2 ⟨rfl, hb2⟩
  have HE2 := Lib.hid (HH.out.below hb2)
  have HW2 := Lib.hid (HW0.out.trans (hb2.mono HW0.out.size))
  clear hb2
  go_wp2_with fail
  go_at_call 36
  refine (error_any 0 (by decide) (by decide) _).mono ?_
  rintro e w3 ⟨rfl, hb3⟩
  have HE3 := Lib.hid (HE2.out.below hb3)
  have HW3 := Lib.hid (HW2.out.trans (hb3.mono HW2.out.size))
  clear hb3
  go_wp2_with fail
  go_at_call 34
  refine (write_any w.heap.size w.heap.size _ (wordS 0) _ HE3.out (by decide) HW3.out.size).mono ?_
  rintro e w4 ⟨rfl, hh4, hb4, _⟩
  have HE4 := Lib.hid hh4
  have HW4 := Lib.hid (HW3.out.trans hb4)
  clear hh4 hb4
  go_wp2_with fail
  go_at_call 37
  refine (Tryd.Builder_String_any w.heap.size w.heap.size _ _ HE4.out HW4.out.size).mono ?_
  rintro e w5 ⟨rfl, hb5⟩
  go_wp2_with fail
  go_ret
  exact ⟨rfl, HW4.out.trans hb5⟩

theorem toldText : ((⟨(textL [({ data := #[101, 100, 103, 101] }, 3), ({ data := #[116, 111] }, 9)] 2).toArray⟩ : ByteArray).toList == [101, 100, 103, 101, 32, 51, 58, 32, 116, 111, 32, 57, 58, 32, 112, 111, 114, 116]) = true := by
  rw [Lib.toList_data]
  simp [textL, placesL, placeL, Lib.itoa, Lib.decDigits, wordS, wordL]

theorem told_text : ∃ S : ByteArray, (S.toList == [101, 100, 103, 101, 32, 51, 58, 32, 116, 111, 32, 57, 58, 32, 112, 111, 114, 116]) = true ∧ ∀ (w : World) (E : Value), LV w → Chain w E [({ data := #[101, 100, 103, 101] }, 3), ({ data := #[116, 111] }, 9)] (errnoV 2) →
    Calls Tryd.prog 22 #[E] w fun e w' => e = .returned (.string S) ∧ Below w.heap.size w w' :=
  ⟨_, toldText, fun w E hL hch => text_errno 2 hL hch (by decide) (by decide) (by decide) (by
    intro x hx
    simp at hx
    rcases hx with rfl | rfl <;> exact ⟨by decide, by decide, by decide⟩)⟩

set_option maxRecDepth 1000000 in
set_option maxHeartbeats 2000000 in
theorem told_true (w : World) (hL : LV w) : Calls Tryd.prog 19 #[] w fun e w' => e = .returned (.bool true) ∧ Below w.heap.size w w' := by
  have hc0 : Chain w (errnoV 2) [] (errnoV 2) := rfl
  have hc1 := chain_cons { data := #[116, 111] } 9 hc0
  have hc2 := chain_cons { data := #[101, 100, 103, 101] } 3 hc1
  have hb2 : Below w.heap.size w ((w.alloc (placedO (errnoV 2) { data := #[116, 111] } 9)).alloc (placedO (placedV w.heap.size) { data := #[101, 100, 103, 101] } 3)) := ((Below.refl _ _).alloc (Nat.le_refl _) _).alloc (by simp) _
  have hL2 := hL.below hb2
  obtain ⟨S, hS, hST⟩ := told_text
  have HST := Lib.hid hST
  clear hST
  have HC := Lib.hid hc2
  have HB2 := Lib.hid hb2
  have HL := Lib.hid hL2
  clear hc0 hc1 hc2 hb2 hL2 hL
  go_enter Tryd.func19, Tryd.ntmps19
  go_wp2_with fail
  go_at_call 27
  refine (at_some _ _ _ _ _).mono ?_
  rintro e w1 ⟨rfl, rfl⟩
  go_wp2_with fail
  go_at_call 27
  refine (at_some _ _ _ _ _).mono ?_
  rintro e w2 ⟨rfl, hw2⟩
  have HC2 := Lib.hid (show Chain w2 (placedV (w.heap.size + 1)) [({ data := #[101, 100, 103, 101] }, 3), ({ data := #[116, 111] }, 9)] (errnoV 2) by rw [hw2]; have h := HC.out; simpa using h)
  have HL2 := Lib.hid (show LV w2 by rw [hw2]; exact HL.out)
  have HW2 := Lib.hid (show Below w.heap.size w w2 by rw [hw2]; exact HB2.out)
  clear hw2
  go_wp2_with fail
  go_at_call 22
  refine (HST.out _ _ HL2.out HC2.out).mono ?_
  rintro e w3 ⟨rfl, hb3⟩
  have HC3 := Lib.hid (HC2.out.below hb3)
  have HL3 := Lib.hid (HL2.out.below hb3)
  have HW3 := Lib.hid (HW2.out.trans (hb3.mono HW2.out.size))
  clear hb3
  go_wp2_with fail
  go_at_call 20
  refine (kind_errno 2 HL3.out.typ HC3.out).mono ?_
  rintro e w4 ⟨rfl, hb4⟩
  have HC4 := Lib.hid (HC3.out.below hb4)
  have HW4 := Lib.hid (HW3.out.trans (hb4.mono HW3.out.size))
  clear hb4
  go_wp2_with fail
  go_at_call 24
  refine (path_any (.inl ⟨2, rfl⟩) HC4.out (by decide)).mono ?_
  rintro e w5 ⟨v, rfl, hown, hb5⟩
  have HC5 := Lib.hid (HC4.out.below hb5)
  have HW5 := Lib.hid (HW4.out.trans (hb5.mono HW4.out.size))
  clear hb5
  obtain ⟨ao, cap, rfl⟩ : ∃ ao cap, v = .slice ao 2 cap := by
    rcases hown.2 with ⟨hv, h0⟩ | ⟨g, cap, cur, hv, _⟩
    · cases h0
    · exact ⟨_, _, hv⟩
  clear hown
  go_wp2_with fail
  go_at_call 22
  refine (text_nil _).mono ?_
  rintro e w6 ⟨rfl, hb6⟩
  have HC6 := Lib.hid (HC5.out.below hb6)
  have HW6 := Lib.hid (HW5.out.trans (hb6.mono HW5.out.size))
  clear hb6
  go_wp2_with fail
  go_at_call 21
  refine (is_errno_k 1 2 (by decide) HC6.out).mono ?_
  rintro e w7 ⟨rfl, hb7⟩
  have HW7 := Lib.hid (HW6.out.trans (hb7.mono HW6.out.size))
  clear hb7
  go_wp2_with fail
  go_ret
  exact ⟨rfl, HW7.out⟩
end Go.Proofs.YtcjbmeebenaonaaDoor.Fault
