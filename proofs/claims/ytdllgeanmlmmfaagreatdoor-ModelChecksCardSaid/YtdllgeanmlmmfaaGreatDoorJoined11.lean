/-
  PACKAGE graph: errors at places, told apart from none.
  PACKAGE claim: copies of what a thread holds; no such handle.
-/
import Derived.Test.YtdllgeanmlmmfaaGreatDoorJoined10
import Derived.Test.YtdllgeanmlmmfaaGreatDoorJoined9
import Derived.Test.YtdllgeanmlmmfaaGreatDoorJoined6
import Derived.Test.YtdllgeanmlmmfaaGreatDoorShelf
import Derived.Deep.RegionHeld3
namespace Go.Proofs.YtdllgeanmlmmfaaGreatDoor.Gr
open Go.RowKit Fault
set_option linter.unusedVariables false

abbrev placedO' (v : Value) (s : ByteArray) (n : Int) : Obj := .cells #[v, .string s, .int .i64 n] 125
theorem at_any (u : TypeId) (x : Value) (s : ByteArray) (n : Int) (w : World) : Calls Tryz.prog 23 #[.iface u x, .string s, .int .i64 n] w fun e w' => e = .returned (placedV w.heap.size) ∧ w' = w.alloc (placedO' (.iface u x) s n) := by
  go_enter Tryz.func23, Tryz.ntmps23
  go_wp2
  go_ret
  exact ⟨rfl, rfl⟩
theorem chain_cons' {w : World} {v b : Value} {l : List Pl} (s : ByteArray) (n : Int) (h : Chain w v l b) : Chain (w.alloc (placedO' v s n)) (placedV w.heap.size) ((s, n) :: l) b :=
  ⟨w.heap.size, v, rfl, by simp, by simp, by simp, h.below ((Below.refl _ _).alloc (Nat.le_refl _) _)⟩
theorem at_chain {w : World} {v b : Value} {l : List Pl} (s : ByteArray) (n : Int) (h : Chain w v l b) (hb : IsBase b) : Calls Tryz.prog 23 #[v, .string s, .int .i64 n] w fun e w' => ∃ blk, e = .returned (placedV blk) ∧ Chain w' (placedV blk) ((s, n) :: l) b ∧ Below w.heap.size w w' := by
  obtain ⟨u, x, rfl⟩ := ne_nil hb h
  refine (at_any u x s n w).mono fun e w' ⟨he, hw⟩ => ⟨_, he, ?_, ?_⟩
  · rw [hw]; exact chain_cons' s n h
  · rw [hw]; exact (Below.refl _ _).alloc (Nat.le_refl _) _
/-- An error of that kind at these places; or none. -/
def ErrIs (w : World) (v : Value) (V : List Pl × Int) : Prop := (V.2 = 0 ∧ V.1 = [] ∧ v = .nilIface) ∨ (V.2 ≠ 0 ∧ Chain w v V.1 (errnoV V.2) ∧ ∃ u x, v = .iface u x)
theorem ErrIs.none (w : World) : ErrIs w .nilIface ([], 0) := .inl ⟨rfl, rfl, rfl⟩
theorem ErrIs.some {w : World} {v : Value} {l : List Pl} {k : Int} (hk : k ≠ 0) (h : Chain w v l (errnoV k)) : ErrIs w v (l, k) := .inr ⟨hk, h, ne_nil (.inl ⟨k, rfl⟩) h⟩
theorem ErrIs.below {w w' : World} {v : Value} {V : List Pl × Int} (h : ErrIs w v V) (hw : Below w.heap.size w w') : ErrIs w' v V := by
  rcases h with h | ⟨h1, h2, h3⟩
  · exact .inl h
  · exact .inr ⟨h1, h2.below hw, h3⟩

/-! what is wrong first -/
def edgeS : ByteArray := { data := #[101, 100, 103, 101] }
def fromS : ByteArray := { data := #[102, 114, 111, 109] }
def toS : ByteArray := { data := #[116, 111] }
def inputS : ByteArray := { data := #[105, 110, 112, 117, 116] }
def portS : ByteArray := { data := #[112, 111, 114, 116] }
def inP (n p : Int) : Prop := 0 ≤ p ∧ p < n
instance (n p : Int) : Decidable (inP n p) := by unfold inP; exact inferInstance
def edgesV (n : Int) : Nat → List Ed → List Pl × Int
  | _, [] => ([], 0)
  | i, x :: r => if ¬ inP n x.f then ([(edgeS, (i : Int)), (fromS, x.f)], 2) else if ¬ inP n x.t then ([(edgeS, (i : Int)), (toS, x.t)], 2) else edgesV n (i + 1) r
theorem edgesV_skip {n : Int} : ∀ {l : List Ed} {i m : Nat}, (∀ y ∈ l.take i, inP n y.f ∧ inP n y.t) → edgesV n m l = edgesV n (m + min i l.length) (l.drop i)
  | [], i, m, _ => by simp [edgesV]
  | x :: r, 0, m, _ => by simp
  | x :: r, i + 1, m, h => by
    have hx := h x (by simp)
    have ih := edgesV_skip (l := r) (i := i) (m := m + 1) fun y hy => h y (by simp [hy])
    rw [edgesV, if_neg (fun hn => hn hx.1), if_neg (fun hn => hn hx.2), ih, List.drop_succ_cons, List.length_cons]
    congr 1
    omega
theorem edgesV_ok {n : Int} {l : List Ed} (h : ∀ y ∈ l, inP n y.f ∧ inP n y.t) : edgesV n 0 l = ([], 0) := by
  rw [edgesV_skip (i := l.length) (by rw [List.take_length]; exact h), List.drop_length]
  rfl
theorem edgesV_f {n : Int} {l : List Ed} {i : Nat} {x : Ed} (h : ∀ y ∈ l.take i, inP n y.f ∧ inP n y.t) (hx : l[i]? = some x) (hf : ¬ inP n x.f) : edgesV n 0 l = ([(edgeS, (i : Int)), (fromS, x.f)], 2) := by
  have hi := (List.getElem?_eq_some_iff.1 hx).1
  have e := (List.getElem?_eq_some_iff.1 hx).2
  rw [edgesV_skip h, List.drop_eq_getElem_cons hi, e, Nat.min_eq_left (by omega), Nat.zero_add, edgesV, if_pos hf]
theorem edgesV_t {n : Int} {l : List Ed} {i : Nat} {x : Ed} (h : ∀ y ∈ l.take i, inP n y.f ∧ inP n y.t) (hx : l[i]? = some x) (hf : inP n x.f) (ht : ¬ inP n x.t) : edgesV n 0 l = ([(edgeS, (i : Int)), (toS, x.t)], 2) := by
  have hi := (List.getElem?_eq_some_iff.1 hx).1
  have e := (List.getElem?_eq_some_iff.1 hx).2
  rw [edgesV_skip h, List.drop_eq_getElem_cons hi, e, Nat.min_eq_left (by omega), Nat.zero_add, edgesV, if_neg (fun hn => hn hf), if_pos ht]
def inputsV (n : Int) : Nat → List Int → List Int → List Pl × Int
  | _, _, [] => ([], 0)
  | i, pre, p :: r => if ¬ inP n p then ([(inputS, (i : Int))], 2) else if p ∈ pre then ([(inputS, (i : Int))], 1) else inputsV n (i + 1) (pre ++ [p]) r
def InOk (n : Int) (l : List Int) (i : Nat) : Prop := ∀ j p, j < i → l[j]? = some p → inP n p ∧ p ∉ l.take j
theorem inputsV_skip {n : Int} {l : List Int} : ∀ {i : Nat}, i ≤ l.length → InOk n l i → inputsV n 0 [] l = inputsV n i (l.take i) (l.drop i)
  | 0, _, _ => rfl
  | i + 1, hi, h => by
    have hlt : i < l.length := by omega
    have hx : l[i]? = some l[i] := List.getElem?_eq_getElem hlt
    have h1 := h i _ (Nat.lt_succ_self i) hx
    rw [inputsV_skip (i := i) (by omega) (fun j p hj hp => h j p (by omega) hp), List.drop_eq_getElem_cons hlt, inputsV, if_neg (fun hn => hn h1.1), if_neg h1.2, take_succ' hx]
theorem inputsV_ok {n : Int} {l : List Int} (h : InOk n l l.length) : inputsV n 0 [] l = ([], 0) := by
  rw [inputsV_skip (Nat.le_refl _) h, List.drop_length]
  rfl
theorem inputsV_out {n : Int} {l : List Int} {i : Nat} {p : Int} (h : InOk n l i) (hx : l[i]? = some p) (hp : ¬ inP n p) : inputsV n 0 [] l = ([(inputS, (i : Int))], 2) := by
  have hi := (List.getElem?_eq_some_iff.1 hx).1
  have e := (List.getElem?_eq_some_iff.1 hx).2
  rw [inputsV_skip (Nat.le_of_lt hi) h, List.drop_eq_getElem_cons hi, e, inputsV, if_pos hp]
theorem inputsV_twice {n : Int} {l : List Int} {i : Nat} {p : Int} (h : InOk n l i) (hx : l[i]? = some p) (hp : inP n p) (hm : p ∈ l.take i) : inputsV n 0 [] l = ([(inputS, (i : Int))], 1) := by
  have hi := (List.getElem?_eq_some_iff.1 hx).1
  have e := (List.getElem?_eq_some_iff.1 hx).2
  rw [inputsV_skip (Nat.le_of_lt hi) h, List.drop_eq_getElem_cons hi, e, inputsV, if_neg (fun hn => hn hp), if_pos hm]
theorem InOk.step {n : Int} {l : List Int} {i : Nat} {p : Int} (h : InOk n l i) (hx : l[i]? = some p) (hp : inP n p) (hm : p ∉ l.take i) : InOk n l (i + 1) := by
  intro j q hj hq
  by_cases e : j = i
  · subst e
    rw [hx] at hq
    obtain rfl := Option.some.inj hq
    exact ⟨hp, hm⟩
  · exact h j q (by omega) hq
/-- The least port on a way round that takes nothing. -/
def CycAt (E : List Ed) (n : Nat) (o : Option Nat) : Prop := (∃ p, o = some p ∧ p < n ∧ Round E p ∧ ∀ q, q < p → ¬ Round E (q : Nat)) ∨ (o = none ∧ ∀ q, q < n → ¬ Round E (q : Nat))
theorem CycAt.one {E : List Ed} {n : Nat} {o o' : Option Nat} (h : CycAt E n o) (h' : CycAt E n o') : o = o' := by
  rcases h with ⟨p, rfl, hp, hr, hl⟩ | ⟨rfl, hl⟩
  · rcases h' with ⟨p', rfl, hp', hr', hl'⟩ | ⟨rfl, hl'⟩
    · rcases Nat.lt_trichotomy p p' with e | e | e
      · exact absurd hr (hl' p e)
      · rw [e]
      · exact absurd hr' (hl p' e)
    · exact absurd hr (hl' p hp)
  · rcases h' with ⟨p', rfl, hp', hr', hl'⟩ | ⟨rfl, hl'⟩
    · exact absurd hr' (hl p' hp')
    · rfl
open Classical in
noncomputable def cycO (E : List Ed) (n : Nat) : Option Nat := if h : ∃ o, CycAt E n o then h.choose else none
theorem cycO_eq {E : List Ed} {n : Nat} {o : Option Nat} (h : CycAt E n o) : cycO E n = o := by
  unfold cycO
  have hex : ∃ o, CycAt E n o := ⟨o, h⟩
  rw [dif_pos hex]
  exact hex.choose_spec.one h
def cycV : Option Nat → List Pl × Int
  | none => ([], 0)
  | some p => ([(portS, (p : Int))], 3)
/-- What is wrong first with a graph. -/
noncomputable def chkV (n : Int) (E : List Ed) (I : List Int) : List Pl × Int :=
  if n < 1 ∨ 64 < n then ([], 2)
  else if 256 < E.length then ([], 4)
  else if (edgesV n 0 E).2 ≠ 0 then edgesV n 0 E
  else if I.length = 0 ∨ 8 < I.length then ([], 4)
  else if (inputsV n 0 [] I).2 ≠ 0 then inputsV n 0 [] I
  else cycV (cycO E n.toNat)
end Go.Proofs.YtdllgeanmlmmfaaGreatDoor.Gr
namespace Go.Proofs.YtdllgeanmlmmfaaGreatDoor.Cl
open Go.RowKit Gr Go.Shelf Go.Lib
set_option linter.unusedVariables false

theorem infoH : (Tryz.prog.info? 107).map (fun i => (i.zero, i.size, i.bytes)) = some (some (.agg #[.int .i64 0, .int .i64 0, .int .u64 0]), 3, 24) := by kernel_rfl
theorem cloneH_any {w : World} {v : Value} {l : List Ed} (h : Sl w v l) (hl : l.length ≤ 100000) :
    Calls Tryz.prog 46 #[v] w fun e w' => ∃ v', e = .returned v' ∧ Own w' w.heap.size 107 v' l ∧ Below w.heap.size w w' := by
  obtain ⟨ao, cap, rfl, h1, _⟩ := h
  obtain ⟨i0, hi, hz0, hz1, hz2⟩ := Gr.info_parts infoH
  rcases h1 with ⟨rfl, rfl⟩ | ⟨b, off, rfl, h1⟩
  · exact (AnyE.slices_Clone_nil Tryz.cloneH 0 cap w).mono fun e w' ⟨he, hw⟩ => ⟨_, he, by rw [hw]; exact Own.nil _ _ _, by rw [hw]; exact Below.refl _ _⟩
  · exact (AnyE.slices_Clone Tryz.cloneH i0 (.agg #[.int .i64 0, .int .i64 0, .int .u64 0]) 3 24 hi hz0 hz1 hz2 rfl (by omega) Tryz.sizeOf107 b off l.length cap (Gr.cellsL l) w (Gr.cellsL_length l) (by unfold maxLen; omega) (by omega) (Gr.cells_of_at h1) (Gr.cellsL_one l)).mono
      fun e w' ⟨v', he, ho, _, hb⟩ => ⟨v', he, ho, hb⟩
theorem formH {w : World} {base : Nat} {T : TypeId} {v : Value} {l : List Ed} (h : Own w base T v l) : ∃ ao cap, v = .slice ao l.length cap := by
  rcases h.2 with ⟨h, h0⟩ | ⟨g, cap, cur, h, _⟩
  · exact ⟨none, 0, by rw [h, h0]⟩
  · exact ⟨_, _, h⟩
theorem formB {w : World} {base : Nat} {T : TypeId} {v : Value} {l : List Batch.Ch} (h : Batch.Own w base T v l) : ∃ ao cap, v = .slice ao l.length cap := by
  rcases h.2 with ⟨h, h0⟩ | ⟨g, cap, cur, h, _⟩
  · exact ⟨none, 0, by rw [h, h0]⟩
  · exact ⟨_, _, h⟩
/-- The error of a handle that there isn't. -/
def handleS : ByteArray := { data := #[104, 97, 110, 100, 108, 101] }
theorem stale_any (h : Int) (w : World) : Calls Tryz.prog 101 #[.int .i64 h] w fun e w' => ∃ v, e = .returned v ∧ ErrIs w' v ([(handleS, h)], 7) ∧ Below w.heap.size w w' := by
  have HA := Lib.hid (at_chain (w := w) (v := .iface 44 (.int .i64 7)) (b := Fault.errnoV 7) (l := []) handleS h rfl (.inl ⟨7, rfl⟩))
  go_enter Tryz.func101, Tryz.ntmps101
  go_wp2_with fail
  go_at_call 23
  refine HA.out.mono ?_
  rintro e w1 ⟨blk, rfl, hch, hb1⟩
  have HE := Lib.hid (ErrIs.some (k := 7) (by decide) hch)
  have HB1 := Lib.hid hb1
  clear hb1 hch
  go_wp2_with fail
  go_ret
  exact ⟨_, rfl, HE.out, HB1.out⟩

set_option maxRecDepth 1000000 in
set_option maxHeartbeats 8000000 in
theorem clones_any {w : World} {vh vb : Value} {H : List Ed} {B : List Batch.Ch} (hH : Sl w vh H) (hB : Batch.Sl w vb B) (hl : H.length ≤ 100000) (hlb : B.length ≤ 100000) :
    Calls Tryz.prog 102 #[.agg #[vh, vb]] w fun e w' => ∃ vh' vb' m, e = .returned (.agg #[vh', vb']) ∧ Own w' w.heap.size 107 vh' H ∧ (∀ k, vh'.ownBlock = some k → k < m) ∧ w.heap.size ≤ m ∧ Batch.Own w' m 103 vb' B ∧ Below w.heap.size w w' := by
  have HHV := Lib.hid hH
  have HBV := Lib.hid hB
  obtain ⟨ao, cap, rfl, _⟩ := hH
  obtain ⟨ab, capb, rfl, _⟩ := hB
  obtain ⟨w0, hw0⟩ : ∃ w0, w0 = (w.alloc (.cells #[.slice ao H.length cap, .slice ab B.length capb] 60)).alloc (.cells #[.slice none 0 0, .slice none 0 0] 60) := ⟨_, rfl⟩
  have hb0 : Below w.heap.size w w0 := by rw [hw0]; exact ((Below.refl _ _).alloc (Nat.le_refl _) _).alloc (by simp) _
  have hs0 : w0.heap.size = w.heap.size + 1 + 1 := by rw [hw0]; simp
  have hx0 : w0.heap[w.heap.size]? = some (.cells #[.slice ao H.length cap, .slice ab B.length capb] 60 (0, 0)) := by
    rw [hw0, heap_alloc_old _ _ (by simp)]; exact heap_alloc_new w _
  have hy0 : w0.heap[w.heap.size + 1]? = some (.cells #[.slice none 0 0, .slice none 0 0] 60 (0, 0)) := by
    rw [hw0]; have := heap_alloc_new (w.alloc (.cells #[.slice ao H.length cap, .slice ab B.length capb] 60)) (.cells #[.slice none 0 0, .slice none 0 0] 60); simpa using this
  have HX := Lib.hid hx0
  have HY := Lib.hid hy0
  have HB0 := Lib.hid hb0
  have HS0 := Lib.hid hs0
  obtain ⟨x0, x1, _⟩ := pair_cells hx0
  have hlt0 : w.heap.size < w0.heap.size := by omega
  clear hx0 hy0
  go_enter Tryz.func102, Tryz.ntmps102
  go_upto_region 1 with fail
  rw [← hw0]
  clear hw0
  have hmn : ∀ W : World, Below w.heap.size w W → w.heap.size ≤ W.heap.size := fun W h => h.size
  go_region_held3 (fun w' => w'.cell? ⟨w.heap.size, 0, none⟩ = some (.slice ao H.length cap) ∧ w'.cell? ⟨w.heap.size, 1, none⟩ = some (.slice ab B.length capb))
    (first
      | go_keep
      | (go_split_ands
         first
           | (refine ⟨?_, ?_⟩ <;> (rw [hcb2.cell (by have := HS0.out; have := hcb.size; simp at *; omega)]; assumption))
           | (refine ⟨?_, ?_⟩ <;> (rw [hcb.cell (by have := HS0.out; simp at *; omega)]; assumption))))
    (first
      | (go_at_call 46; refine (cloneH_any ((HHV.out.below HB0.out).below (below_drewN (Below.refl _ _) 1)) hl).mono ?_; rintro e w1 ⟨v1, rfl, ho, hcb⟩; obtain ⟨a1, c1, rfl⟩ := formH ho)
      | (go_at_call 43; refine (Batch.cloneB_any ((HBV.out.below HB0.out).below ((below_drewN (Below.refl w0.heap.size w0) 1).trans hcb)) hlb).mono ?_; rintro e w2 ⟨v2, rfl, ho2, hcb2⟩; obtain ⟨a2, c2, rfl⟩ := formB ho2; obtain ⟨y0, y1, yf⟩ := pair_cells ((hcb2.block (w.heap.size + 1) (Nat.lt_of_lt_of_le (show w.heap.size + 1 < w0.heap.size by have := HS0.out; omega) hcb.size)).trans ((hcb.block (w.heap.size + 1) (show w.heap.size + 1 < w0.heap.size by have := HS0.out; omega)).trans HY.out)); have yf0 := yf 0; have yf1 := yf 1; clear yf))
  go_wp2_with fail
  have hw0w1 : Below w0.heap.size w0 w1 := (below_drewN (Below.refl w0.heap.size w0) 1).trans hcb
  have hw0w2 : Below w0.heap.size w0 w2 := hw0w1.trans (hcb2.mono hw0w1.size)
  have hlt1 : w.heap.size + 1 < w0.heap.size := by have := HS0.out; omega
  have hHs : w.heap.size ≤ w0.heap.size := by omega
  obtain ⟨r0, r1, _⟩ := pair_cells (heap_setCell_same _ (w.heap.size + 1) 1 _ _ (.slice a2 B.length c2) (heap_setCell_same w2 (w.heap.size + 1) 0 _ _ (.slice a1 H.length c1) ((hw0w2.block _ hlt1).trans HY.out)))
  refine bodyPost_ret (v := .agg #[.slice a1 H.length c1, .slice a2 B.length c2]) (by simp [results, Tryz.results102, go_sem, r0, r1]) rfl ⟨_, _, w1.heap.size, rfl, ?_, fun k e => (World.ownsRow.lt ho k e).2, by have := hw0w1.size; omega, ?_, ?_⟩
  · have h1 : Own w2 w0.heap.size 107 (.slice a1 H.length c1) H := ho.below hcb2
    have h2 := World.ownsRow.lt h1
    exact Own.mono (ownsRow_setCell_other (ownsRow_setCell_other h1 (fun e => by have h := (h2 _ e).1; dsimp only at h; omega) _) (fun e => by have h := (h2 _ e).1; dsimp only at h; omega) _) hHs
  · have h1 : Batch.Own w2 w1.heap.size 103 (.slice a2 B.length c2) B := ho2
    have h2 := World.ownsRow.lt h1
    have h3 := hw0w1.size
    exact ownsRow_setCell_other (ownsRow_setCell_other h1 (fun e => by have h := (h2 _ e).1; dsimp only at h; omega) _) (fun e => by have h := (h2 _ e).1; dsimp only at h; omega) _
  · exact ((HB0.out.trans (hw0w2.mono hHs)).setCell (p := ⟨w.heap.size + 1, 0, none⟩) (Nat.le_succ _) _).setCell (p := ⟨w.heap.size + 1, 1, none⟩) (Nat.le_succ _) _
end Go.Proofs.YtdllgeanmlmmfaaGreatDoor.Cl
