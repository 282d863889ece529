/-
  THE LAWS' OWN CHAIN: an error of a kind at places, the outer ones ahead.
-/
import Derived.Test.YtcjbmeebenaonaaDoorFaultFew
import Derived.StillTailTactics
namespace Go.Proofs.YtcjbmeebenaonaaDoor.Fault
open Go.RowKit
set_option linter.unusedVariables false

theorem Reads.below {w w' : World} {v : Value} {l : List Pl} (h : Reads w v l) (hb : Below w.heap.size w w') : Reads w' v l := by
  obtain ⟨ao, cap, h1, h2, h3, h4⟩ := h
  refine ⟨ao, cap, h1, h2, h3, ?_⟩
  rcases h4 with h4 | ⟨b, off, h5, h6⟩
  · exact .inl h4
  · refine .inr ⟨b, off, h5, fun i s n hx => ?_⟩
    obtain ⟨q0, q1⟩ := h6 i s n hx
    exact ⟨(hb.cell (p := ⟨b, off + i * 2, none⟩) (Lib.lt_of_cell q0)).trans q0, (hb.cell (p := ⟨b, off + i * 2 + 1, none⟩) (Lib.lt_of_cell q1)).trans q1⟩
theorem reads_own {w : World} {B : Nat} {T : TypeId} {v : Value} {l : List Pl} (h : w.ownsRow B T 2 v l.length (plCells l)) (hl : l.length ≤ 1000) (hs : ∀ x ∈ l, Small x) : Reads w v l := by
  have hok : ∀ x ∈ l, x.1.size ≤ 9223372036854775807 ∧ -9223372036854775808 ≤ x.2 ∧ x.2 ≤ 9223372036854775807 := fun x hx => ⟨by have := (hs x hx).1; omega, (hs x hx).2⟩
  rcases h.2 with ⟨hv, h0⟩ | ⟨g, cap, cur, hv, hB, hg, hle, hcap, hsz, hcur⟩
  · exact ⟨none, 0, by rw [hv, h0], by omega, hok, .inl (List.eq_nil_of_length_eq_zero h0)⟩
  · refine ⟨some ⟨g, 0, none⟩, cap, hv, by omega, hok, .inr ⟨g, 0, rfl, fun i s n hx => ?_⟩⟩
    have hi : i < l.length := (List.getElem?_eq_some_iff.1 hx).1
    obtain ⟨p0, p1⟩ := plCells_at l i s n hx
    rw [Nat.zero_add, Lib.cell_of_heap hg, Lib.cell_of_heap hg]
    exact ⟨cur_at hcur p0 (by omega), cur_at hcur p1 (by omega)⟩

set_option maxRecDepth 1000000 in
set_option maxHeartbeats 4000000 in
theorem wrap_any {w : World} {v : Value} {l : List Pl} (k : Int) (hv : Reads w v l) :
    Calls Tryd.prog 18 #[v, .int .i64 k] w fun e w' => ∃ E, e = .returned E ∧ Chain w' E l (errnoV k) ∧ Below w.heap.size w w' := by
  obtain ⟨ao, cap, rfl, hlen, hok, hcell⟩ := hv
  have HC := Lib.hid hcell
  clear hok hcell
  go_enter Tryd.func18, Tryd.ntmps18
  go_wp2
  go_loopg [5, 6] l.length (fun j o t wr => j ≤ l.length ∧ t = .int .i64 ((j : Int) - 1) ∧ Chain wr o (l.drop j) (errnoV k) ∧ Below w.heap.size w wr)
  case atStart => exact ⟨Nat.le_refl _, rfl, by rw [List.drop_length]; rfl, Below.refl _ _⟩
  case round =>
    obtain ⟨hj, rfl, hch, hbw⟩ := hrel
    have HCH := Lib.hid hch
    clear hch
    by_cases h0 : gk = 0
    · subst h0
      have HB := Lib.hid hbw
      clear hbw
      go_wp2
      go_ret
      exact ⟨_, rfl, HCH.out, HB.out⟩
    · obtain ⟨i, rfl⟩ : ∃ i, gk = i + 1 := ⟨gk - 1, by omega⟩
      have hlt1 : i < l.length := by omega
      obtain ⟨s, n, hx⟩ : ∃ s n, l[i]? = some (s, n) := ⟨_, _, List.getElem?_eq_getElem hlt1⟩
      have hne : l ≠ [] := by intro e; rw [e] at hlt1; simp at hlt1
      obtain ⟨b, off, hao, hcc⟩ := HC.out.resolve_left hne
      obtain ⟨q0, q1⟩ := hcc i s n hx
      have hbl := Lib.lt_of_cell q0
      have c0 := (hbw.cell (p := ⟨b, off + i * 2, none⟩) hbl).trans q0
      have c1 := (hbw.cell (p := ⟨b, off + i * 2 + 1, none⟩) hbl).trans q1
      have HX := Lib.hid hx
      have HB := Lib.hid hbw
      have hcast : (((i + 1 : Nat) : Int) - 1) = (i : Int) := by omega
      rw [hcast]
      obtain ⟨u1, x1, ho⟩ := ne_nil (.inl ⟨k, rfl⟩) HCH.out
      subst hao ho
      have hi0 : (0 : Int) ≤ (i : Int) := Int.natCast_nonneg _
      have hi1 : (i : Int) < (l.length : Int) := by omega
      clear hx hne hcc q0 q1 hbl HC h0 hbw hcast
      go_wp2
      go_still_tail 11, (by kernel_rfl)
      go_wp2_with fail
      go_at_call 27
      refine (at_some _ _ _ _ _).mono ?_
      rintro e w1 ⟨rfl, hw1⟩
      have hbd : Below wr.heap.size wr w1 := by rw [hw1]; exact ((Below.refl _ _).drew).alloc (Nat.le_refl _) _
      have hch1 : Chain w1 (placedV wr.heap.size) (l.drop i) (errnoV k) := by
        have e1 : l.drop i = (s, n) :: l.drop (i + 1) := by
          rw [List.drop_eq_getElem_cons hlt1]
          have := HX.out
          rw [List.getElem?_eq_getElem hlt1] at this
          rw [Option.some.inj this]
        rw [e1, hw1]
        exact chain_cons (w := wr.drew) s n (HCH.out.below ((Below.refl _ _).drew))
      have H1 := Lib.hid hch1
      have H2 := Lib.hid (HB.out.trans (hbd.mono HB.out.size))
      clear hw1 hbd hch1
      go_wp2
      go_roundg i
      case measure => omega
      case rel => exact ⟨by omega, rfl, H1.out, H2.out⟩
end Go.Proofs.YtcjbmeebenaonaaDoor.Fault
