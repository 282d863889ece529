/-
  PACKAGE fault's At, and the laws' own look whether an error is told at its places.
  PACKAGE marchlandlaw05: told.
-/
import Derived.Test.YtlkljeedlkbkgaaGreatDoorFaultText
import Derived.Test.YtlkljeedlkbkgaaGreatDoorGFix
namespace Go.Proofs.YtlkljeedlkbkgaaGreatDoor.Fault
open Go.RowKit
set_option linter.unusedVariables false

theorem at_nil (s : ByteArray) (n : Int) (w : World) : Calls Tryz.prog 58 #[.nilIface, .string s, .int .i64 n] w fun e w' => e = .returned .nilIface ∧ w' = w := by
  go_enter Tryz.func58, Tryz.ntmps58
  go_wp2
  go_ret
  exact ⟨rfl, rfl⟩
abbrev placedO (v : Value) (s : ByteArray) (n : Int) : Obj := .cells #[v, .string s, .int .i64 n] 172
theorem at_some (u : TypeId) (x : Value) (s : ByteArray) (n : Int) (w : World) : Calls Tryz.prog 58 #[.iface u x, .string s, .int .i64 n] w fun e w' => e = .returned (placedV w.heap.size) ∧ w' = w.alloc (placedO (.iface u x) s n) := by
  go_enter Tryz.func58, Tryz.ntmps58
  go_wp2
  go_ret
  exact ⟨rfl, rfl⟩
theorem chain_cons {w : World} {v b : Value} {l : List Pl} (s : ByteArray) (n : Int) (h : Chain w v l b) : Chain (w.alloc (placedO v s n)) (placedV w.heap.size) ((s, n) :: l) b :=
  ⟨w.heap.size, v, rfl, by simp, by simp, by simp, h.below ((Below.refl _ _).alloc (Nat.le_refl _) _)⟩

/-- What the laws read of the library's variables. -/
structure LV (w : World) : Prop where
  tab : Stamp.Tab w
  typ : ErrType w
theorem LV.below {w w' : World} (h : LV w) (hb : Below w.heap.size w w') : LV w' :=
  ⟨Stamp.tab_below h.tab hb, (hb.cell (p := ⟨0, 0, none⟩) (Lib.lt_of_cell h.typ)).trans h.typ⟩
theorem text_errno {w : World} {E : Value} {l : List Pl} (k : Int) (hL : LV w) (hch : Chain w E l (errnoV k)) (hk0 : 0 ≤ k) (hk1 : k ≤ 14) (hl : l.length ≤ 12) (hs : ∀ x ∈ l, Small x) :
    Calls Tryz.prog 29 #[E] w fun e w' => e = .returned (.string ⟨(textL l k).toArray⟩) ∧ Below w.heap.size w w' :=
  text_chain k (.inl ⟨k, rfl⟩) hch hk0 hk1 (fun W hW => kind_errno k (hL.below hW).typ (hch.below hW)) hl hs hL.tab
set_option maxRecDepth 1000000 in
set_option maxHeartbeats 2000000 in
theorem text_nil (w : World) : Calls Tryz.prog 29 #[.nilIface] w fun e w' => e = .returned (.string { data := #[111, 107] }) ∧ Below w.heap.size w w' := by
  have HH := Lib.hid (has_new w)
  have HW0 := Lib.hid (show Below w.heap.size w (w.alloc (.cells #[.pointer none, .slice none 0 0] 132)) from (Below.refl _ _).alloc (Nat.le_refl _) _)
  go_enter Tryz.func29, Tryz.ntmps29
  go_wp2_with fail
  go_at_call 68
  refine (path_nil _).mono ?_
  rintro e w1 ⟨rfl, rfl⟩
  go_wp2_with fail
  refine wp_loop_rounds 1 ?_
  rw [rounds_succ]
  go_wp2_with fail
  go_at_call 37
  refine (kind_nil _).mono ?_
  rintro e w2 ⟨rfl, hb2⟩
  have HE2 := Lib.hid (HH.out.below hb2)
  have HW2 := Lib.hid (HW0.out.trans (hb2.mono HW0.out.size))
  clear hb2
  go_wp2_with fail
  go_at_call 71
  refine (error_any 0 (by decide) (by decide) _).mono ?_
  rintro e w3 ⟨rfl, hb3⟩
  have HE3 := Lib.hid (HE2.out.below hb3)
  have HW3 := Lib.hid (HW2.out.trans (hb3.mono HW2.out.size))
  clear hb3
  go_wp2_with fail
  go_at_call 69
  refine (write_any w.heap.size w.heap.size _ (wordS 0) _ HE3.out (by decide) HW3.out.size).mono ?_
  rintro e w4 ⟨rfl, hh4, hb4, _⟩
  have HE4 := Lib.hid hh4
  have HW4 := Lib.hid (HW3.out.trans hb4)
  clear hh4 hb4
  go_wp2_with fail
  go_at_call 72
  refine (Tryz.Builder_String_any w.heap.size w.heap.size _ _ HE4.out HW4.out.size).mono ?_
  rintro e w5 ⟨rfl, hb5⟩
  go_wp2_with fail
  go_ret
  exact ⟨rfl, HW4.out.trans hb5⟩

theorem toldText : ((⟨(textL [({ data := #[101, 100, 103, 101] }, 3), ({ data := #[116, 111] }, 9)] 2).toArray⟩ : ByteArray).toList == [101, 100, 103, 101, 32, 51, 58, 32, 116, 111, 32, 57, 58, 32, 112, 111, 114, 116]) = true := by
  rw [Lib.toList_data]
  simp [textL, placesL, placeL, Lib.itoa, Lib.decDigits, wordS, wordL]

theorem told_text : ∃ S : ByteArray, (S.toList == [101, 100, 103, 101, 32, 51, 58, 32, 116, 111, 32, 57, 58, 32, 112, 111, 114, 116]) = true ∧ ∀ (w : World) (E : Value), LV w → Chain w E [({ data := #[101, 100, 103, 101] }, 3), ({ data := #[116, 111] }, 9)] (errnoV 2) →
    Calls Tryz.prog 29 #[E] w fun e w' => e = .returned (.string S) ∧ Below w.heap.size w w' :=
  ⟨_, toldText, fun w E hL hch => text_errno 2 hL hch (by decide) (by decide) (by decide) (by
    intro x hx
    simp at hx
    rcases hx with rfl | rfl <;> exact ⟨by decide, by decide, by decide⟩)⟩

end Go.Proofs.YtlkljeedlkbkgaaGreatDoor.Fault
namespace Go.Proofs.YtlkljeedlkbkgaaGreatDoor.Gr
open Go.RowKit Go.Deep Go.Proofs.YtlkljeedlkbkgaaGreatDoor.Fault
set_option linter.unusedVariables false

def T1 : List Ed := [⟨0, 1, 0⟩, ⟨1, 0, 1⟩]
def T2 : List Ed := [⟨0, 1, 0⟩, ⟨1, 0, 0⟩]
theorem t1_wf : ∀ x ∈ T1, x.Wf := by
  intro x hx
  unfold T1 at hx
  simp at hx
  rcases hx with rfl | rfl <;> exact ⟨by decide, by decide, by decide, by decide, by decide, by decide⟩
theorem t2_wf : ∀ x ∈ T2, x.Wf := by
  intro x hx
  unfold T2 at hx
  simp at hx
  rcases hx with rfl | rfl <;> exact ⟨by decide, by decide, by decide, by decide, by decide, by decide⟩
theorem t1_fits : Fits T1 2 := by
  intro x hx
  unfold T1 at hx
  simp at hx
  rcases hx with rfl | rfl <;> exact ⟨by decide, by decide, by decide, by decide, by decide, by decide⟩
theorem zero_ok (n : Int) (h : 1 ≤ n) : InOk n [0] ([0] : List Int).length := InOk.snoc (l := []) (fun j p hj => absurd hj (by simp)) ⟨Int.le_refl _, by omega⟩ (by simp)
theorem t1_rise : ∀ e ∈ T1, e.f < e.t ∨ 1 ≤ e.a := by
  intro x hx
  unfold T1 at hx
  simp at hx
  rcases hx with rfl | rfl <;> decide
theorem t1_ok : GOk 2 T1 [0] :=
  ⟨by decide, by decide, by decide, t1_fits, chkV_ok (by decide) (by decide) (by decide) t1_fits (by simp) (by decide) (zero_ok _ (by decide)) (no_round (fun e he => (t1_fits e he).2.2.2.2.1) t1_rise)⟩
theorem t1_paths {M : Nat → Nat → Int} (h : LeastM T1 true 2 M) : M 1 0 = 1 ∧ M 0 1 = 0 := by
  have h10 := h 1 0 (by decide) (by decide)
  have h01 := h 0 1 (by decide) (by decide)
  have e0 : (⟨0, 1, 0⟩ : Ed) ∈ T1 := by unfold T1; simp
  have e1 : (⟨1, 0, 1⟩ : Ed) ∈ T1 := by unfold T1; simp
  have a1 := h10.2 [⟨1, 0, 1⟩] (Way.edge (z := true) e1)
  have a0 := h01.2 [⟨0, 1, 0⟩] (Way.edge (z := true) e0)
  have b1 := h10.1.1
  have b0 := h01.1.1
  simp only [cost] at a0 a1
  refine ⟨?_, by omega⟩
  by_cases hz : M 1 0 = 0
  · rcases h10.1.2 with e | ⟨es, hw, hc⟩
    · omega
    · have := chn_rises (fun e he => (t1_fits e he).2.2.2.2.1) t1_rise hw.1 (by omega)
      simp at this
      omega
  · omega
theorem t2_fits : Fits T2 2 := by
  intro x hx
  unfold T2 at hx
  simp at hx
  rcases hx with rfl | rfl <;> exact ⟨by decide, by decide, by decide, by decide, by decide, by decide⟩
theorem t2_round : Round T2 (0 : Nat) := by
  have e0 : (⟨0, 1, 0⟩ : Ed) ∈ T2 := by unfold T2; simp
  have e1 : (⟨1, 0, 0⟩ : Ed) ∈ T2 := by unfold T2; simp
  exact ⟨[⟨0, 1, 0⟩, ⟨1, 0, 0⟩], ⟨⟨e0, rfl, e1, rfl, rfl⟩, .inr (by simp)⟩, by simp [cost]⟩
theorem chkV_cyc {n : Nat} {E : List Ed} {I : List Int} {p : Nat} (n0 : 1 ≤ n) (n1 : n ≤ 64) (hl : E.length ≤ 256) (hf : Fits E n) (i0 : I ≠ []) (i1 : I.length ≤ 8) (hi : InOk n I I.length) (hp : p < n) (hr : Round E (p : Nat)) (hq : ∀ q : Nat, q < p → ¬ Round E (q : Nat)) : chkV (n : Int) E I = ([(portS, (p : Int))], 3) := by
  unfold chkV
  rw [if_neg (by omega), if_neg (by omega), if_neg (by rw [edgesV_ok (fun y hy => ⟨⟨(hf y hy).1, (hf y hy).2.1⟩, ⟨(hf y hy).2.2.1, (hf y hy).2.2.2.1⟩⟩)]; simp), if_neg (by have : I.length ≠ 0 := fun e => i0 (List.length_eq_zero_iff.1 e); omega), if_neg (by rw [inputsV_ok hi]; simp), Int.toNat_natCast, cycO_eq (.inl ⟨p, rfl, hp, hr, hq⟩)]
  rfl
theorem t2_chk : chkV (2 : Int) T2 [0] = ([(portS, 0)], 3) := chkV_cyc (n := 2) (p := 0) (by decide) (by decide) (by decide) t2_fits (by simp) (by decide) (zero_ok _ (by decide)) (by decide) t2_round (fun q hq => absurd hq (by omega))
theorem t3_chk : chkV 0 [] [] = ([], 2) := by unfold chkV; rw [if_pos (by decide)]
theorem t2_textS : ((⟨(textL [(portS, 0)] 3).toArray⟩ : ByteArray).toList == [112, 111, 114, 116, 32, 48, 58, 32, 99, 121, 99, 108, 101]) = true := by
  rw [Lib.toList_data]
  simp [textL, placesL, placeL, Lib.itoa, Lib.decDigits, wordS, wordL, portS]
theorem t2_text : ∃ S : ByteArray, (S.toList == [112, 111, 114, 116, 32, 48, 58, 32, 99, 121, 99, 108, 101]) = true ∧ ∀ (w : World) (E : Value), LV w → Chain w E [(portS, 0)] (errnoV 3) →
    Calls Tryz.prog 29 #[E] w fun e w' => e = .returned (.string S) ∧ Below w.heap.size w w' :=
  ⟨_, t2_textS, fun w E hL hch => text_errno 3 hL hch (by decide) (by decide) (by decide) (by
    intro x hx
    simp at hx
    rcases hx with rfl
    exact ⟨by decide, by decide, by decide⟩)⟩
theorem rd_new {w : World} {T : TypeId} (l : List Ed) (hl : l.length ≤ 1000) (hw : ∀ x ∈ l, x.Wf) : Rd (w.alloc (.cells (cellsL l).toArray T)) (.slice (some ⟨w.heap.size, 0, none⟩) l.length l.length) l := by
  refine ⟨_, _, rfl, Nat.le_refl _, by omega, hw, .inr ⟨w.heap.size, 0, rfl, fun i x hx => ?_⟩⟩
  have hc : ∀ c u, c < 3 → x.cells[c]? = some u → (w.alloc (.cells (cellsL l).toArray T)).cell? ⟨w.heap.size, 0 + i * 3 + c, none⟩ = some u := by
    intro c u hc hu
    rw [cell_of_row _ w.heap.size (0 + i * 3 + c) _ T (0, 0) (heap_alloc_new w _)]
    rw [Nat.zero_add]
    have := cellsL_at hx c hc
    simp only [List.getElem?_toArray]
    rw [this]
    exact hu
  exact ⟨hc 0 _ (by omega) rfl, hc 1 _ (by omega) rfl, hc 2 _ (by omega) rfl⟩
theorem rdi_new {w : World} {T : TypeId} : RdI (w.alloc (.cells #[.int .i64 0] T)) (.slice (some ⟨w.heap.size, 0, none⟩) 1 1) [0] :=
  (own1 (w := w) (base := 0) (T := T) 0 (Nat.zero_le _)).rd (by intro x hx; simp at hx; subst hx; decide)
theorem graph_new (w : World) {cs : Array Value} (l : List Ed) (n : Int) (k : Nat) (hc : cs = (cellsL l).toArray) (hk : k = l.length) (hl : l.length ≤ 1000) (hw : ∀ x ∈ l, x.Wf) {W : World}
    (hW : W = ((w.alloc (.cells cs 107)).alloc (.cells #[.int .i64 0] 3)).alloc (.cells #[.int .i64 n, .slice (some ⟨w.heap.size, 0, none⟩) k k, .slice (some ⟨w.heap.size + 1, 0, none⟩) 1 1] 56)) :
    GMemP W (.slice (some ⟨w.heap.size, 0, none⟩) k k) (.slice (some ⟨w.heap.size + 1, 0, none⟩) 1 1) l [0] ∧ Below w.heap.size w W ∧
      W.heap[w.heap.size + 1 + 1]? = some (.cells #[.int .i64 n, .slice (some ⟨w.heap.size, 0, none⟩) k k, .slice (some ⟨w.heap.size + 1, 0, none⟩) 1 1] 56 (0, 0)) := by
  subst hc hk hW
  have s1 : (w.alloc (.cells (cellsL l).toArray 107)).heap.size = w.heap.size + 1 := by simp
  have s2 : ((w.alloc (.cells (cellsL l).toArray 107)).alloc (.cells #[.int .i64 0] 3)).heap.size = w.heap.size + 1 + 1 := by simp
  have b1 : Below (w.heap.size + 1) (w.alloc (.cells (cellsL l).toArray 107)) ((w.alloc (.cells (cellsL l).toArray 107)).alloc (.cells #[.int .i64 0] 3)) := (Below.refl _ _).alloc (by rw [s1]; exact Nat.le_refl _) _
  have hi := rdi_new (w := w.alloc (.cells (cellsL l).toArray 107)) (T := 3)
  rw [s1] at hi
  refine ⟨⟨((rd_new l hl hw).below (by rw [s1]; exact b1)).below ((Below.refl _ _).alloc (Nat.le_refl _) _), hi.below ((Below.refl _ _).alloc (Nat.le_refl _) _)⟩, (((Below.refl _ _).alloc (Nat.le_refl _) _).alloc (by simp) _).alloc (by simp; omega) _, ?_⟩
  have h := heap_alloc_new ((w.alloc (.cells (cellsL l).toArray 107)).alloc (.cells #[.int .i64 0] 3)) (.cells #[.int .i64 n, .slice (some ⟨w.heap.size, 0, none⟩) l.length l.length, .slice (some ⟨w.heap.size + 1, 0, none⟩) 1 1] 56)
  rwa [s2] at h
end Go.Proofs.YtlkljeedlkbkgaaGreatDoor.Gr
