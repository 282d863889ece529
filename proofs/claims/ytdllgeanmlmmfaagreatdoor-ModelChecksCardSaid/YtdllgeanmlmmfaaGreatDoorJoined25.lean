/-
  PACKAGE fault's At, and the laws' own look whether an error is told at its places.
  PACKAGE marchlandlaw05: told.
  PACKAGE model: a thread holds another thing; it put off one more Batch.
  PACKAGE ring: Right, of whatever size.
-/
import Derived.Test.YtdllgeanmlmmfaaGreatDoorFaultText
import Derived.Test.YtdllgeanmlmmfaaGreatDoorJoined22
import Derived.Test.YtdllgeanmlmmfaaGreatDoorMdShow
import Derived.Test.YtdllgeanmlmmfaaGreatDoorJoined1
namespace Go.Proofs.YtdllgeanmlmmfaaGreatDoor.Fault
open Go.RowKit
set_option linter.unusedVariables false

theorem at_nil (s : ByteArray) (n : Int) (w : World) : Calls Tryz.prog 23 #[.nilIface, .string s, .int .i64 n] w fun e w' => e = .returned .nilIface ∧ w' = w := by
  go_enter Tryz.func23, Tryz.ntmps23
  go_wp2
  go_ret
  exact ⟨rfl, rfl⟩
abbrev placedO (v : Value) (s : ByteArray) (n : Int) : Obj := .cells #[v, .string s, .int .i64 n] 125
theorem at_some (u : TypeId) (x : Value) (s : ByteArray) (n : Int) (w : World) : Calls Tryz.prog 23 #[.iface u x, .string s, .int .i64 n] w fun e w' => e = .returned (placedV w.heap.size) ∧ w' = w.alloc (placedO (.iface u x) s n) := by
  go_enter Tryz.func23, Tryz.ntmps23
  go_wp2
  go_ret
  exact ⟨rfl, rfl⟩
theorem chain_cons {w : World} {v b : Value} {l : List Pl} (s : ByteArray) (n : Int) (h : Chain w v l b) : Chain (w.alloc (placedO v s n)) (placedV w.heap.size) ((s, n) :: l) b :=
  ⟨w.heap.size, v, rfl, by simp, by simp, by simp, h.below ((Below.refl _ _).alloc (Nat.le_refl _) _)⟩

/-- What the laws read of the library's variables. -/
structure LV (w : World) : Prop where
  tab : Stamp.Tab w
  typ : ErrType w
theorem LV.below {w w' : World} (h : LV w) (hb : Below w.heap.size w w') : LV w' :=
  ⟨Stamp.tab_below h.tab hb, (hb.cell (p := ⟨0, 0, none⟩) (Lib.lt_of_cell h.typ)).trans h.typ⟩
theorem text_errno {w : World} {E : Value} {l : List Pl} (k : Int) (hL : LV w) (hch : Chain w E l (errnoV k)) (hk0 : 0 ≤ k) (hk1 : k ≤ 14) (hl : l.length ≤ 12) (hs : ∀ x ∈ l, Small x) :
    Calls Tryz.prog 18 #[E] w fun e w' => e = .returned (.string ⟨(textL l k).toArray⟩) ∧ Below w.heap.size w w' :=
  text_chain k (.inl ⟨k, rfl⟩) hch hk0 hk1 (fun W hW => kind_errno k (hL.below hW).typ (hch.below hW)) hl hs hL.tab
set_option maxRecDepth 1000000 in
set_option maxHeartbeats 2000000 in
theorem text_nil (w : World) : Calls Tryz.prog 18 #[.nilIface] w fun e w' => e = .returned (.string { data := #[111, 107] }) ∧ Below w.heap.size w w' := by
  have HH := Lib.hid (has_new w)
  have HW0 := Lib.hid (show Below w.heap.size w (w.alloc (.cells #[.pointer none, .slice none 0 0] 111)) from (Below.refl _ _).alloc (Nat.le_refl _) _)
  go_enter Tryz.func18, Tryz.ntmps18
  go_wp2_with fail
  go_at_call 47
  refine (path_nil _).mono ?_
  rintro e w1 ⟨rfl, rfl⟩
  go_wp2_with fail
  refine wp_loop_rounds 1 ?_
  rw [rounds_succ]
  go_wp2_with fail
  go_at_call 10
  refine (kind_nil _).mono ?_
  rintro e w2 ⟨rfl, hb2⟩
  have HE2 := Lib.hid (HH.out.below hb2)
  have HW2 := Lib.hid (HW0.out.trans (hb2.mono HW0.out.size))
  clear hb2
  go_wp2_with fail
  go_at_call 50
  refine (error_any 0 (by decide) (by decide) _).mono ?_
  rintro e w3 ⟨rfl, hb3⟩
  have HE3 := Lib.hid (HE2.out.below hb3)
  have HW3 := Lib.hid (HW2.out.trans (hb3.mono HW2.out.size))
  clear hb3
  go_wp2_with fail
  go_at_call 48
  refine (write_any w.heap.size w.heap.size _ (wordS 0) _ HE3.out (by decide) HW3.out.size).mono ?_
  rintro e w4 ⟨rfl, hh4, hb4, _⟩
  have HE4 := Lib.hid hh4
  have HW4 := Lib.hid (HW3.out.trans hb4)
  clear hh4 hb4
  go_wp2_with fail
  go_at_call 51
  refine (Tryz.Builder_String_any w.heap.size w.heap.size _ _ HE4.out HW4.out.size).mono ?_
  rintro e w5 ⟨rfl, hb5⟩
  go_wp2_with fail
  go_ret
  exact ⟨rfl, HW4.out.trans hb5⟩

theorem toldText : ((⟨(textL [({ data := #[101, 100, 103, 101] }, 3), ({ data := #[116, 111] }, 9)] 2).toArray⟩ : ByteArray).toList == [101, 100, 103, 101, 32, 51, 58, 32, 116, 111, 32, 57, 58, 32, 112, 111, 114, 116]) = true := by
  rw [Lib.toList_data]
  simp [textL, placesL, placeL, Lib.itoa, Lib.decDigits, wordS, wordL]

theorem told_text : ∃ S : ByteArray, (S.toList == [101, 100, 103, 101, 32, 51, 58, 32, 116, 111, 32, 57, 58, 32, 112, 111, 114, 116]) = true ∧ ∀ (w : World) (E : Value), LV w → Chain w E [({ data := #[101, 100, 103, 101] }, 3), ({ data := #[116, 111] }, 9)] (errnoV 2) →
    Calls Tryz.prog 18 #[E] w fun e w' => e = .returned (.string S) ∧ Below w.heap.size w w' :=
  ⟨_, toldText, fun w E hL hch => text_errno 2 hL hch (by decide) (by decide) (by decide) (by
    intro x hx
    simp at hx
    rcases hx with rfl | rfl <;> exact ⟨by decide, by decide, by decide⟩)⟩

end Go.Proofs.YtdllgeanmlmmfaaGreatDoor.Fault
namespace Go.Proofs.YtdllgeanmlmmfaaGreatDoor.Gr
open Go.RowKit Go.Deep Go.Proofs.YtdllgeanmlmmfaaGreatDoor.Fault
set_option linter.unusedVariables false

def T1 : List Ed := [⟨0, 1, 0⟩, ⟨1, 0, 1⟩]
def T2 : List Ed := [⟨0, 1, 0⟩, ⟨1, 0, 0⟩]
theorem t1_wf : ∀ x ∈ T1, x.Wf := by
  intro x hx
  unfold T1 at hx
  simp at hx
  rcases hx with rfl | rfl <;> exact ⟨by decide, by decide, by decide, by decide, by decide, by decide⟩
theorem t2_wf : ∀ x ∈ T2, x.Wf := by
  intro x hx
  unfold T2 at hx
  simp at hx
  rcases hx with rfl | rfl <;> exact ⟨by decide, by decide, by decide, by decide, by decide, by decide⟩
theorem t1_fits : Fits T1 2 := by
  intro x hx
  unfold T1 at hx
  simp at hx
  rcases hx with rfl | rfl <;> exact ⟨by decide, by decide, by decide, by decide, by decide, by decide⟩
theorem zero_ok (n : Int) (h : 1 ≤ n) : InOk n [0] ([0] : List Int).length := InOk.snoc (l := []) (fun j p hj => absurd hj (by simp)) ⟨Int.le_refl _, by omega⟩ (by simp)
theorem t1_rise : ∀ e ∈ T1, e.f < e.t ∨ 1 ≤ e.a := by
  intro x hx
  unfold T1 at hx
  simp at hx
  rcases hx with rfl | rfl <;> decide
theorem t1_ok : GOk 2 T1 [0] :=
  ⟨by decide, by decide, by decide, t1_fits, chkV_ok (by decide) (by decide) (by decide) t1_fits (by simp) (by decide) (zero_ok _ (by decide)) (no_round (fun e he => (t1_fits e he).2.2.2.2.1) t1_rise)⟩
theorem t1_paths {M : Nat → Nat → Int} (h : LeastM T1 true 2 M) : M 1 0 = 1 ∧ M 0 1 = 0 := by
  have h10 := h 1 0 (by decide) (by decide)
  have h01 := h 0 1 (by decide) (by decide)
  have e0 : (⟨0, 1, 0⟩ : Ed) ∈ T1 := by unfold T1; simp
  have e1 : (⟨1, 0, 1⟩ : Ed) ∈ T1 := by unfold T1; simp
  have a1 := h10.2 [⟨1, 0, 1⟩] (Way.edge (z := true) e1)
  have a0 := h01.2 [⟨0, 1, 0⟩] (Way.edge (z := true) e0)
  have b1 := h10.1.1
  have b0 := h01.1.1
  simp only [cost] at a0 a1
  refine ⟨?_, by omega⟩
  by_cases hz : M 1 0 = 0
  · rcases h10.1.2 with e | ⟨es, hw, hc⟩
    · omega
    · have := chn_rises (fun e he => (t1_fits e he).2.2.2.2.1) t1_rise hw.1 (by omega)
      simp at this
      omega
  · omega
theorem t2_fits : Fits T2 2 := by
  intro x hx
  unfold T2 at hx
  simp at hx
  rcases hx with rfl | rfl <;> exact ⟨by decide, by decide, by decide, by decide, by decide, by decide⟩
theorem t2_round : Round T2 (0 : Nat) := by
  have e0 : (⟨0, 1, 0⟩ : Ed) ∈ T2 := by unfold T2; simp
  have e1 : (⟨1, 0, 0⟩ : Ed) ∈ T2 := by unfold T2; simp
  exact ⟨[⟨0, 1, 0⟩, ⟨1, 0, 0⟩], ⟨⟨e0, rfl, e1, rfl, rfl⟩, .inr (by simp)⟩, by simp [cost]⟩
theorem chkV_cyc {n : Nat} {E : List Ed} {I : List Int} {p : Nat} (n0 : 1 ≤ n) (n1 : n ≤ 64) (hl : E.length ≤ 256) (hf : Fits E n) (i0 : I ≠ []) (i1 : I.length ≤ 8) (hi : InOk n I I.length) (hp : p < n) (hr : Round E (p : Nat)) (hq : ∀ q : Nat, q < p → ¬ Round E (q : Nat)) : chkV (n : Int) E I = ([(portS, (p : Int))], 3) := by
  unfold chkV
  rw [if_neg (by omega), if_neg (by omega), if_neg (by rw [edgesV_ok (fun y hy => ⟨⟨(hf y hy).1, (hf y hy).2.1⟩, ⟨(hf y hy).2.2.1, (hf y hy).2.2.2.1⟩⟩)]; simp), if_neg (by have : I.length ≠ 0 := fun e => i0 (List.length_eq_zero_iff.1 e); omega), if_neg (by rw [inputsV_ok hi]; simp), Int.toNat_natCast, cycO_eq (.inl ⟨p, rfl, hp, hr, hq⟩)]
  rfl
theorem t2_chk : chkV (2 : Int) T2 [0] = ([(portS, 0)], 3) := chkV_cyc (n := 2) (p := 0) (by decide) (by decide) (by decide) t2_fits (by simp) (by decide) (zero_ok _ (by decide)) (by decide) t2_round (fun q hq => absurd hq (by omega))
theorem t3_chk : chkV 0 [] [] = ([], 2) := by unfold chkV; rw [if_pos (by decide)]
theorem t2_textS : ((⟨(textL [(portS, 0)] 3).toArray⟩ : ByteArray).toList == [112, 111, 114, 116, 32, 48, 58, 32, 99, 121, 99, 108, 101]) = true := by
  rw [Lib.toList_data]
  simp [textL, placesL, placeL, Lib.itoa, Lib.decDigits, wordS, wordL, portS]
theorem t2_text : ∃ S : ByteArray, (S.toList == [112, 111, 114, 116, 32, 48, 58, 32, 99, 121, 99, 108, 101]) = true ∧ ∀ (w : World) (E : Value), LV w → Chain w E [(portS, 0)] (errnoV 3) →
    Calls Tryz.prog 18 #[E] w fun e w' => e = .returned (.string S) ∧ Below w.heap.size w w' :=
  ⟨_, t2_textS, fun w E hL hch => text_errno 3 hL hch (by decide) (by decide) (by decide) (by
    intro x hx
    simp at hx
    rcases hx with rfl
    exact ⟨by decide, by decide, by decide⟩)⟩
theorem rd_new {w : World} {T : TypeId} (l : List Ed) (hl : l.length ≤ 1000) (hw : ∀ x ∈ l, x.Wf) : Rd (w.alloc (.cells (cellsL l).toArray T)) (.slice (some ⟨w.heap.size, 0, none⟩) l.length l.length) l := by
  refine ⟨_, _, rfl, Nat.le_refl _, by omega, hw, .inr ⟨w.heap.size, 0, rfl, fun i x hx => ?_⟩⟩
  have hc : ∀ c u, c < 3 → x.cells[c]? = some u → (w.alloc (.cells (cellsL l).toArray T)).cell? ⟨w.heap.size, 0 + i * 3 + c, none⟩ = some u := by
    intro c u hc hu
    rw [cell_of_row _ w.heap.size (0 + i * 3 + c) _ T (0, 0) (heap_alloc_new w _)]
    rw [Nat.zero_add]
    have := cellsL_at hx c hc
    simp only [List.getElem?_toArray]
    rw [this]
    exact hu
  exact ⟨hc 0 _ (by omega) rfl, hc 1 _ (by omega) rfl, hc 2 _ (by omega) rfl⟩
theorem rdi_new {w : World} {T : TypeId} : RdI (w.alloc (.cells #[.int .i64 0] T)) (.slice (some ⟨w.heap.size, 0, none⟩) 1 1) [0] :=
  (own1 (w := w) (base := 0) (T := T) 0 (Nat.zero_le _)).rd (by intro x hx; simp at hx; subst hx; decide)
theorem graph_new (w : World) {cs : Array Value} (l : List Ed) (n : Int) (k : Nat) (hc : cs = (cellsL l).toArray) (hk : k = l.length) (hl : l.length ≤ 1000) (hw : ∀ x ∈ l, x.Wf) {W : World}
    (hW : W = ((w.alloc (.cells cs 128)).alloc (.cells #[.int .i64 0] 3)).alloc (.cells #[.int .i64 n, .slice (some ⟨w.heap.size, 0, none⟩) k k, .slice (some ⟨w.heap.size + 1, 0, none⟩) 1 1] 33)) :
    GMemP W (.slice (some ⟨w.heap.size, 0, none⟩) k k) (.slice (some ⟨w.heap.size + 1, 0, none⟩) 1 1) l [0] ∧ Below w.heap.size w W ∧
      W.heap[w.heap.size + 1 + 1]? = some (.cells #[.int .i64 n, .slice (some ⟨w.heap.size, 0, none⟩) k k, .slice (some ⟨w.heap.size + 1, 0, none⟩) 1 1] 33 (0, 0)) := by
  subst hc hk hW
  have s1 : (w.alloc (.cells (cellsL l).toArray 128)).heap.size = w.heap.size + 1 := by simp
  have s2 : ((w.alloc (.cells (cellsL l).toArray 128)).alloc (.cells #[.int .i64 0] 3)).heap.size = w.heap.size + 1 + 1 := by simp
  have b1 : Below (w.heap.size + 1) (w.alloc (.cells (cellsL l).toArray 128)) ((w.alloc (.cells (cellsL l).toArray 128)).alloc (.cells #[.int .i64 0] 3)) := (Below.refl _ _).alloc (by rw [s1]; exact Nat.le_refl _) _
  have hi := rdi_new (w := w.alloc (.cells (cellsL l).toArray 128)) (T := 3)
  rw [s1] at hi
  refine ⟨⟨((rd_new l hl hw).below (by rw [s1]; exact b1)).below ((Below.refl _ _).alloc (Nat.le_refl _) _), hi.below ((Below.refl _ _).alloc (Nat.le_refl _) _)⟩, (((Below.refl _ _).alloc (Nat.le_refl _) _).alloc (by simp) _).alloc (by simp; omega) _, ?_⟩
  have h := heap_alloc_new ((w.alloc (.cells (cellsL l).toArray 128)).alloc (.cells #[.int .i64 0] 3)) (.cells #[.int .i64 n, .slice (some ⟨w.heap.size, 0, none⟩) l.length l.length, .slice (some ⟨w.heap.size + 1, 0, none⟩) 1 1] 33)
  rwa [s2] at h
end Go.Proofs.YtdllgeanmlmmfaaGreatDoor.Gr
namespace Go.Proofs.YtdllgeanmlmmfaaGreatDoor.Md
open Go.RowKit Gr Cl
set_option linter.unusedVariables false
set_option linter.unusedSimpArgs false
section
variable {τ τ' : Nat → Nat} {w w1 w2 : World} {b i g : Nat} {c : Mc} {tv : List Tv} {s : Ms} {t : Tv} {x : Th} {q' : Sx} {z : List Batch.Ch}
theorem MdAt.setOwn (h : MdAt τ w b c tv s) (hx : s.th[i]? = some x) (hth : c.th = some ⟨g, 0, none⟩) (ht : tv[i]? = some t) {sh sb : Sx} {H' : List Ed} {B' : List Batch.Ch} (hh : Pers τ w (fun w => Sl w sh.val H')) (hb : Pers τ w (fun w => Batch.Sl w sb.val B')) (hw1 : w1 = (w.setCell ⟨g, i * 4, none⟩ sh.val).setCell ⟨g, i * 4 + 1, none⟩ sb.val) :
    MdAt τ w1 b c (tv.set i { t with h := sh, b := sb }) { s with th := s.th.set i { x with H := H', B := B' } } ∧ StepM τ τ w w1 := by
  have tg := h.tt _ hth
  have tb := h.tb
  dsimp only at tg
  have hil := (List.getElem?_eq_some_iff.1 ht).1
  have hrow := h.row
  rw [hth] at hrow
  have hT := h.thr i t x ht hx
  have st : StepM τ τ w w1 := by rw [hw1]; exact (StepM.set (by omega) (by omega) _).trans (StepM.set (by omega) (by omega) _)
  have hgb : g ≠ b := fun e => by rw [e, tb] at tg; omega
  have hoth : ∀ k, k ≠ g → w1.heap[k]? = w.heap[k]? := fun k h1 => by rw [hw1]; exact (heap_setCell_other _ _ _ _ h1).trans (heap_setCell_other _ _ _ _ h1)
  have hne : ∀ k, 4 ≤ τ k → w1.heap[k]? = w.heap[k]? := fun k h4 => hoth k (fun e => by rw [e] at h4; omega)
  have hr1 := th_set (k := 0) (u := sh) hrow ht (by decide) (t' := { t with h := sh }) rfl
  have hr2 := th_set (k := 1) (u := sb) (i := i) hr1 (t := { t with h := sh }) (List.getElem?_set_self hil) (by decide) (t' := { t with h := sh, b := sb }) rfl
  rw [List.set_set] at hr2
  refine ⟨h.upd (x' := { x with H := H', B := B' }) st (fun k hk => by rw [hw1]; simpa using h.tz k hk) ((hoth b (Ne.symm hgb)).trans h.mc) rfl rfl rfl (by rw [hth, hw1]; exact hr2) hil (fun k hk h4 _ _ => hne k h4) ⟨hh.size st, hb.size st, hT.off.step (by omega) st (fun k hk h5 => hne k (by omega)), hT.ring.step (by omega) st (fun k hk h5 => hne k (by omega))⟩ rfl (h.paths.size st) (h.tab.size st) (h.pool.size st) (h.staged.size st) (h.folded.size st) h.pp (h.shown.size st) h.rm h.cl, st⟩
theorem MdAt.pushed (h : MdAt τ w b c tv s) (hx : s.th[i]? = some x) (hth : c.th = some ⟨g, 0, none⟩) (ht : tv[i]? = some t) (hp : QP τ τ' w w1 (4 + 2 * i)) (hq : QAt τ' w1 (4 + 2 * i) q' (x.off ++ [z])) (hw2 : w2 = w1.setCell ⟨g, i * 4 + 2, none⟩ q'.val) :
    MdI τ' w2 b { s with th := s.th.set i { x with off := x.off ++ [z] } } ∧ StepM τ τ' w w2 ∧ w2.cell? ⟨b, 3, none⟩ = w.cell? ⟨b, 3, none⟩ := by
  have tg := h.tt _ hth
  have tb := h.tb
  dsimp only at tg
  have hil := (List.getElem?_eq_some_iff.1 ht).1
  have hrow := h.row
  rw [hth] at hrow
  have hgl : g < w.heap.size := (own_has hrow (g := g) rfl).2
  have hbl := h.mc.lt
  have hT := h.thr i t x ht hx
  have st1 := hp.st
  have tg1 : τ' g = 2 := (st1.ext g hgl).trans tg
  have st2 : StepM τ' τ' w1 w2 := by rw [hw2]; exact StepM.set (by omega) (by omega) _
  have st := st1.trans st2
  have hgb : g ≠ b := fun e => by rw [e, tb] at tg; omega
  have hoth : ∀ k, k < w.heap.size → k ≠ g → τ k ≠ 4 + 2 * i → w2.heap[k]? = w.heap[k]? := fun k hk h1 h2 => by rw [hw2]; exact (heap_setCell_other _ _ _ _ h1).trans (hp.oth k hk h2)
  have hr1 : Rw.Own thK w1 0 95 (.slice (some ⟨g, 0, none⟩) c.n c.cth) tv := own_blk hrow fun k hk => by simp [Value.ownBlock] at hk; subst hk; exact hp.oth g hgl (by omega)
  have hr2 := th_set (k := 2) (u := q') hr1 ht (by decide) (t' := { t with o := q' }) rfl
  refine ⟨⟨c, tv.set i { t with o := q' }, h.upd (x' := { x with off := x.off ++ [z] }) st (fun k hk => by rw [hw2]; simpa using hp.tz k hk) ((hoth b hbl (Ne.symm hgb) (by omega)).trans h.mc) rfl rfl rfl (by rw [hth, hw2]; exact hr2) hil (fun k hk h4 h5 _ => hoth k hk (fun e => by rw [e] at h4; omega) h5) ⟨hT.hs.size st, hT.bs.size st, ?_, ?_⟩ rfl (h.paths.size st) (h.tab.size st) (h.pool.size st) (h.staged.size st) (h.folded.size st) h.pp (h.shown.size st) h.rm h.cl⟩, st, World.cell?_of_block (w := w) (hoth b hbl (Ne.symm hgb) (by omega))⟩
  · exact hq.step (by omega) st2 (fun k hk h1 => by rw [hw2]; exact heap_setCell_other _ _ _ _ (fun e => by dsimp only at e; rw [e] at h1; omega))
  · exact (hT.ring.step (by omega) st (fun k hk h1 => hoth k hk (fun e => by rw [e] at h1; omega) (by omega)))
end
/-- What a change of what a thread holds comes to. -/
structure RcM where
  hs : List Ed
  bs : List Batch.Ch
  ch : List Batch.Ch
  k : Int
def CNe (R : RcM) (W : World) (e : Ending) (w' : World) : Prop := ∃ a1 n1 c1 a2 n2 c2 a3 n3 c3 u x l, e = .returned (.tuple #[.agg #[.slice a1 n1 c1, .slice a2 n2 c2], .slice a3 n3 c3, .iface u x]) ∧ ErrIs w' (.iface u x) (l, R.k) ∧ Below W.heap.size W w'
def CNo (R : RcM) (W : World) (e : Ending) (w' : World) : Prop := ∃ a1 n1 c1 a2 n2 c2 a3 c3, e = .returned (.tuple #[.agg #[.slice a1 n1 c1, .slice a2 n2 c2], .slice a3 R.ch.length c3, .nilIface]) ∧ Own w' W.heap.size 107 (.slice a1 n1 c1) R.hs ∧ Batch.Own w' W.heap.size 103 (.slice a2 n2 c2) R.bs ∧ Batch.Own w' W.heap.size 103 (.slice a3 R.ch.length c3) R.ch ∧ Below W.heap.size W w'
def chV (s : Ms) (i : Nat) (x : Th) (R : RcM) (id : Int) : (Int × Int) × Ms :=
  if R.k ≠ 0 then ((0, R.k), s) else ((id, 0), { s with th := s.th.set i ⟨R.hs, R.bs, if R.ch = [] then x.off else x.off ++ [R.ch], x.ring⟩ })
theorem cno_of {R : RcM} {W w' : World} {vh vb v : Value} (h1 : Own w' W.heap.size 107 vh R.hs) (h2 : Batch.Own w' W.heap.size 103 vb R.bs) (h3 : Batch.Own w' W.heap.size 103 v R.ch) (hb : Below W.heap.size W w') : CNo R W (.returned (.tuple #[.agg #[vh, vb], v, .nilIface])) w' := by
  obtain ⟨a1, c1, rfl⟩ : ∃ a c, vh = .slice a R.hs.length c := by
    rcases h1.form with ⟨e, rfl⟩ | ⟨g, c, rfl, _⟩
    · exact ⟨none, 0, by rw [e]; rfl⟩
    · exact ⟨_, _, rfl⟩
  obtain ⟨a2, c2, rfl⟩ := formB h2
  obtain ⟨a3, c3, rfl⟩ := formB h3
  exact ⟨a1, _, c1, a2, _, c2, a3, c3, rfl, h1, h2, h3, hb⟩
end Go.Proofs.YtdllgeanmlmmfaaGreatDoor.Md
namespace Go.Proofs.YtdllgeanmlmmfaaGreatDoor.Md
open Go.RowKit
set_option linter.unusedVariables false

def ringB (R : Int) : Bool := decide (R = 1) || (decide (R = 2) || (decide (R = 4) || (decide (R = 8) || (decide (R = 16) || (decide (R = 32) || decide (R = 64))))))
theorem ringB_lo {R : Int} (h : R < 1) : ringB R = false := by simp [ringB]; omega
theorem ringB_hi {R : Int} (h : 64 < R) : ringB R = false := by simp [ringB]; omega
set_option maxRecDepth 1000000 in
set_option maxHeartbeats 16000000 in
theorem mdRing_any (R : Int) (w : World) : Calls Tryz.prog 24 #[.int .i64 R] w fun e w' => e = .returned (.bool (ringB R)) ∧ w' = w := by
  by_cases h1 : (1 : Int) ≤ R
  · by_cases h2 : R ≤ (64 : Int)
    · rcases (show R = 1 ∨ R = 2 ∨ R = 3 ∨ R = 4 ∨ R = 5 ∨ R = 6 ∨ R = 7 ∨ R = 8 ∨ R = 9 ∨ R = 10 ∨ R = 11 ∨ R = 12 ∨ R = 13 ∨ R = 14 ∨ R = 15 ∨ R = 16 ∨ R = 17 ∨ R = 18 ∨ R = 19 ∨ R = 20 ∨ R = 21 ∨ R = 22 ∨ R = 23 ∨ R = 24 ∨ R = 25 ∨ R = 26 ∨ R = 27 ∨ R = 28 ∨ R = 29 ∨ R = 30 ∨ R = 31 ∨ R = 32 ∨ R = 33 ∨ R = 34 ∨ R = 35 ∨ R = 36 ∨ R = 37 ∨ R = 38 ∨ R = 39 ∨ R = 40 ∨ R = 41 ∨ R = 42 ∨ R = 43 ∨ R = 44 ∨ R = 45 ∨ R = 46 ∨ R = 47 ∨ R = 48 ∨ R = 49 ∨ R = 50 ∨ R = 51 ∨ R = 52 ∨ R = 53 ∨ R = 54 ∨ R = 55 ∨ R = 56 ∨ R = 57 ∨ R = 58 ∨ R = 59 ∨ R = 60 ∨ R = 61 ∨ R = 62 ∨ R = 63 ∨ R = 64 by omega) with rfl | rfl | rfl | rfl | rfl | rfl | rfl | rfl | rfl | rfl | rfl | rfl | rfl | rfl | rfl | rfl | rfl | rfl | rfl | rfl | rfl | rfl | rfl | rfl | rfl | rfl | rfl | rfl | rfl | rfl | rfl | rfl | rfl | rfl | rfl | rfl | rfl | rfl | rfl | rfl | rfl | rfl | rfl | rfl | rfl | rfl | rfl | rfl | rfl | rfl | rfl | rfl | rfl | rfl | rfl | rfl | rfl | rfl | rfl | rfl | rfl | rfl | rfl | rfl
      all_goals
        go_enter Tryz.func24, Tryz.ntmps24
        go_wp2_with fail
        go_ret
        exact ⟨rfl, rfl⟩
    · have d1 : decide ((1 : Int) ≤ R) = true := decide_eq_true h1
      have d2 : decide (R ≤ (64 : Int)) = false := decide_eq_false h2
      have HR := Lib.hid (ringB_hi (R := R) (by omega))
      clear h1 h2
      go_enter Tryz.func24, Tryz.ntmps24
      go_wp2_with fail
      go_ret
      exact ⟨by rw [HR.out]; rfl, rfl⟩
  · have d1 : decide ((1 : Int) ≤ R) = false := decide_eq_false h1
    have HR := Lib.hid (ringB_lo (R := R) (by omega))
    clear h1
    go_enter Tryz.func24, Tryz.ntmps24
    go_wp2_with fail
    go_ret
    exact ⟨by rw [HR.out]; rfl, rfl⟩
end Go.Proofs.YtdllgeanmlmmfaaGreatDoor.Md
