/-
  PACKAGE clock: there, sortOf, numbered.
-/
import Derived.Test.YtmggnalobfihnaaCkNums
import Derived.Test.YtmggnalobfihnaaMemNew
import Derived.Test.YtmggnalobfihnaaJoined1
import Derived.Deep.RegionHeldLaw
namespace Go.Proofs.Ytmggnalobfihnaa.Ck
open Go.RowKit Rw Mm Go.Maps Pk
set_option linter.unusedVariables false

def evV (e : Ev) : Value := .agg #[.int .i64 e.w, .int .i64 e.k, .int .i64 e.a, .bool e.ok]
theorem there_yes (e : Ev) (h : Th e) (w : World) : Calls Try.prog 54 #[.agg #[.int .i64 e.w, .int .i64 e.k, .int .i64 e.a, .bool e.ok]] w fun r w' => r = .returned (.bool true) ∧ Below w.heap.size w w' := by
  obtain ⟨h0, h1⟩ := h
  go_enter Try.func54, Try.ntmps54
  go_wp2_with fail
  go_ret
  exact ⟨rfl, (Below.refl _ _).alloc (Nat.le_refl _) _⟩
theorem there_no (e : Ev) (h : ¬ Th e) (w : World) : Calls Try.prog 54 #[.agg #[.int .i64 e.w, .int .i64 e.k, .int .i64 e.a, .bool e.ok]] w fun r w' => r = .returned (.bool false) ∧ Below w.heap.size w w' := by
  by_cases h0 : 0 ≤ e.k
  · have h1 : ¬ e.k ≤ 7 := fun q => h ⟨h0, q⟩
    clear h
    go_enter Try.func54, Try.ntmps54
    go_wp2_with fail
    go_ret
    exact ⟨rfl, (Below.refl _ _).alloc (Nat.le_refl _) _⟩
  · clear h
    go_enter Try.func54, Try.ntmps54
    go_wp2_with fail
    go_ret
    exact ⟨rfl, (Below.refl _ _).alloc (Nat.le_refl _) _⟩
theorem sortOf_any (k : Int) (h : 0 ≤ k ∧ k ≤ 7) (w : World) : Calls Try.prog 57 #[.int .i64 k] w fun r w' => r = .returned (.int .i64 (srt k)) ∧ w = w' := by
  obtain ⟨h0, h1⟩ := h
  have hs : srt k = min (k / 2) 2 := rfl
  have HS := Lib.hid hs
  clear hs
  go_enter Try.func57, Try.ntmps57
  go_wp2_with fail
  go_ret
  exact ⟨by rw [HS.out]; first | rfl | (congr 2; omega), rfl⟩

/-! ### numbered -/
theorem own_rebase {α : Type} {S : Kd α} {w : World} {base b' : Nat} {T : TypeId} {g n c : Nat} {l : List α} (h : Own S w base T (.slice (some ⟨g, 0, none⟩) n c) l) (hb : b' ≤ g) : Own S w b' T (.slice (some ⟨g, 0, none⟩) n c) l := by
  refine ⟨h.1, ?_⟩
  rcases h.2 with ⟨h2, _⟩ | ⟨g', cap, cur, hv, hg, rest⟩
  · simp at h2
  · simp only [Value.slice.injEq, Option.some.injEq, Addr.mk.injEq] at hv
    obtain ⟨⟨rfl, _, _⟩, rfl, rfl⟩ := hv
    exact .inr ⟨g, c, cur, rfl, hb, rest⟩
theorem own_ev {w : World} {base g n c : Nat} {M : List Ev} (h : Own evK w base 98 (.slice (some ⟨g, 0, none⟩) n c) M) {i : Nat} (hi : i < M.length) (y : Ev) :
    Own evK ((((w.setCell ⟨g, i * 4, none⟩ (.int .i64 y.w)).setCell ⟨g, i * 4 + 1, none⟩ (.int .i64 y.k)).setCell ⟨g, i * 4 + 2, none⟩ (.int .i64 y.a)).setCell ⟨g, i * 4 + 3, none⟩ (.bool y.ok)) base 98 (.slice (some ⟨g, 0, none⟩) n c) (M.set i y) := by
  have h1 := row_setCells (evK.cells y) (i * 4) w _ h (by show i * 4 + 4 ≤ M.length * 4; omega)
  have hx : M[i]? = some M[i] := List.getElem?_eq_getElem hi
  have hf := flat_set (S := evK) (y := y) hx
  unfold Own
  rw [List.length_set, hf]
  have e : i * evK.k + (evK.cells y).length = (i + 1) * evK.k := by show i * 4 + 4 = (i + 1) * 4; omega
  rw [← e]
  exact h1
theorem own_blockq {α : Type} {S : Kd α} {w w' : World} {base : Nat} {T : TypeId} {g n c : Nat} {l : List α} (h : Own S w base T (.slice (some ⟨g, 0, none⟩) n c) l) (hb : w'.heap[g]? = w.heap[g]?) : Own S w' base T (.slice (some ⟨g, 0, none⟩) n c) l :=
  own_of_block h (fun g' hg => by simp [Value.ownBlock] at hg; subst hg; exact hb)
structure NumS (l : List Ev) (n0 b1 b2 g i : Nat) (K : List Int) (T : List (Int × Int)) (M : List Ev) (w0 w : World) : Prop where
  np : NumP l i K T M
  n1 : Nums 3 keyN w b1 i K
  n2 : Nums 117 keyT w b2 i T
  ow : Own evK w 0 98 (.slice (some ⟨g, 0, none⟩) l.length l.length) M
  bl : Below n0 w0 w
  d1 : n0 ≤ b1 ∧ n0 ≤ b2 ∧ n0 ≤ g
  d2 : b1 ≠ b2 ∧ b1 ≠ g ∧ b2 ≠ g
section
variable {l : List Ev} {n0 b1 b2 g i : Nat} {K : List Int} {T : List (Int × Int)} {M : List Ev} {w0 w w' : World}
theorem NumS.lt (h : NumS l n0 b1 b2 g i K T M w0 w) : b1 < w.heap.size ∧ b2 < w.heap.size ∧ g < w.heap.size := by
  refine ⟨h.n1.lt, h.n2.lt, ?_⟩
  exact own_block_lt h.ow rfl
theorem NumS.below (h : NumS l n0 b1 b2 g i K T M w0 w) (hn : n0 ≤ w.heap.size) (hb : Below w.heap.size w w') : NumS l n0 b1 b2 g i K T M w0 w' := by
  obtain ⟨l1, l2, l3⟩ := h.lt
  exact ⟨h.np, h.n1.of_block (hb.block _ l1), h.n2.of_block (hb.block _ l2), h.ow.below hb, h.bl.trans (hb.mono hn), h.d1, h.d2⟩
end
/-- Behind the call that numbers the Who, ahead of the store. -/
structure NumH (l : List Ev) (n0 b1 b2 g i : Nat) (n1 n2 : Nat) (K' : List Int) (T' : List (Int × Int)) (M : List Ev) (w0 w : World) : Prop where
  n1 : Nums 3 keyN w b1 n1 K'
  n2 : Nums 117 keyT w b2 n2 T'
  ow : Own evK w 0 98 (.slice (some ⟨g, 0, none⟩) l.length l.length) M
  bl : Below n0 w0 w
  d1 : n0 ≤ b1 ∧ n0 ≤ b2 ∧ n0 ≤ g
  d2 : b1 ≠ b2 ∧ b1 ≠ g ∧ b2 ≠ g
  nl : n0 ≤ w.heap.size
section
variable {l : List Ev} {n0 b1 b2 g i n1 n2 : Nat} {K K' : List Int} {T T' : List (Int × Int)} {M : List Ev} {w0 w w' : World}
theorem NumH.of (h : NumS l n0 b1 b2 g i K T M w0 w) (hn : n0 ≤ w.heap.size) : NumH l n0 b1 b2 g i i i K T M w0 w := ⟨h.n1, h.n2, h.ow, h.bl, h.d1, h.d2, hn⟩
theorem NumH.below (h : NumH l n0 b1 b2 g i n1 n2 K T M w0 w) (hb : Below w.heap.size w w') : NumH l n0 b1 b2 g i n1 n2 K T M w0 w' :=
  ⟨h.n1.of_block (hb.block _ h.n1.lt), h.n2.of_block (hb.block _ h.n2.lt), h.ow.below hb, h.bl.trans (hb.mono h.nl), h.d1, h.d2, Nat.le_trans h.nl hb.size⟩
theorem NumH.first (h : NumH l n0 b1 b2 g i n1 n2 K T M w0 w) {x : Int} {e : Ending} (hq : NumQ 3 keyN w b1 n1 K x e w') : NumH l n0 b1 b2 g i (n1 + 1) n2 (ins K x) T M w0 w' := by
  obtain ⟨_, q2, q3⟩ := hq
  have hg : g < w.heap.size := own_block_lt h.ow rfl
  exact ⟨q2, h.n2.of_block (q3.2.2 _ h.n2.lt (fun e => h.d2.1 e.symm)), own_blockq h.ow (q3.2.2 _ hg (fun e => h.d2.2.1 e.symm)), h.bl.trans (q3.below h.nl h.d1.1), h.d1, h.d2, Nat.le_trans h.nl q3.1⟩
theorem NumH.second (h : NumH l n0 b1 b2 g i n1 n2 K T M w0 w) {x : Int × Int} {e : Ending} (hq : NumQ 117 keyT w b2 n2 T x e w') : NumH l n0 b1 b2 g i n1 (n2 + 1) K (ins T x) M w0 w' := by
  obtain ⟨_, q2, q3⟩ := hq
  have hg : g < w.heap.size := own_block_lt h.ow rfl
  exact ⟨h.n1.of_block (q3.2.2 _ h.n1.lt h.d2.1), q2, own_blockq h.ow (q3.2.2 _ hg (fun e => h.d2.2.2 e.symm)), h.bl.trans (q3.below h.nl h.d1.2.1), h.d1, h.d2, Nat.le_trans h.nl q3.1⟩
theorem NumH.store (h : NumH l n0 b1 b2 g i n1 n2 K T M w0 w) (hi : i < M.length) (y : Ev) (hn1 : n1 ≤ i + 1) (hn2 : n2 ≤ i + 1) (hp : NumP l (i + 1) K T (M.set i y)) :
    NumS l n0 b1 b2 g (i + 1) K T (M.set i y) w0 ((((w.setCell ⟨g, i * 4, none⟩ (.int .i64 y.w)).setCell ⟨g, i * 4 + 1, none⟩ (.int .i64 y.k)).setCell ⟨g, i * 4 + 2, none⟩ (.int .i64 y.a)).setCell ⟨g, i * 4 + 3, none⟩ (.bool y.ok)) := by
  have hb : ∀ (j : Nat), j ≠ g → ((((w.setCell ⟨g, i * 4, none⟩ (.int .i64 y.w)).setCell ⟨g, i * 4 + 1, none⟩ (.int .i64 y.k)).setCell ⟨g, i * 4 + 2, none⟩ (.int .i64 y.a)).setCell ⟨g, i * 4 + 3, none⟩ (.bool y.ok)).heap[j]? = w.heap[j]? := fun j hj => by
    rw [Below.heap_setCell _ _ _ _ hj, Below.heap_setCell _ _ _ _ hj, Below.heap_setCell _ _ _ _ hj, Below.heap_setCell _ _ _ _ hj]
  exact ⟨hp, (h.n1.of_block (hb _ h.d2.2.1)).more hn1, (h.n2.of_block (hb _ h.d2.2.2)).more hn2, own_ev h.ow hi y, (((h.bl.setCell h.d1.2.2 _).setCell h.d1.2.2 _).setCell h.d1.2.2 _).setCell h.d1.2.2 _, h.d1, h.d2⟩
end
theorem heap3 (w : World) (x1 x2 x3 : Obj) : (((w.alloc x1).alloc x2).alloc x3).heap[w.heap.size]? = some x1 ∧ (((w.alloc x1).alloc x2).alloc x3).heap[w.heap.size + 1]? = some x2 ∧ (((w.alloc x1).alloc x2).alloc x3).heap[w.heap.size + 1 + 1]? = some x3 := by
  refine ⟨?_, ?_, ?_⟩
  · rw [heap_alloc_old _ _ (by simp; omega), heap_alloc_old _ _ (by simp)]; exact heap_alloc_new w _
  · rw [heap_alloc_old _ _ (by simp)]
    have := heap_alloc_new (w.alloc x1) x2
    rw [World.size_alloc] at this; exact this
  · have := heap_alloc_new ((w.alloc x1).alloc x2) x3
    rw [World.size_alloc, World.size_alloc] at this; exact this
theorem evIn_new0 {w : World} {b : Nat} {ew ek ea : Int} {eo : Bool} {T : TypeId} (h : w.heap[b]? = some (.cells #[.int .i64 ew, .int .i64 ek, .int .i64 ea, .bool eo] T (0, 0))) : w.cell? ⟨b, 0, none⟩ = some (.int .i64 ew) ∧ w.cell? ⟨b, 1, none⟩ = some (.int .i64 ek) ∧ w.cell? ⟨b, 2, none⟩ = some (.int .i64 ea) ∧ w.cell? ⟨b, 3, none⟩ = some (.bool eo) := by
  simp [World.cell?, h]
theorem evIn_blk {w w' : World} {b : Nat} {v0 v1 v2 v3 : Value} (hb : w'.heap[b]? = w.heap[b]?) (h : w.cell? ⟨b, 0, none⟩ = some v0 ∧ w.cell? ⟨b, 1, none⟩ = some v1 ∧ w.cell? ⟨b, 2, none⟩ = some v2 ∧ w.cell? ⟨b, 3, none⟩ = some v3) : w'.cell? ⟨b, 0, none⟩ = some v0 ∧ w'.cell? ⟨b, 1, none⟩ = some v1 ∧ w'.cell? ⟨b, 2, none⟩ = some v2 ∧ w'.cell? ⟨b, 3, none⟩ = some v3 := by
  obtain ⟨h0, h1, h2, h3⟩ := h
  have e : ∀ o, w'.cell? ⟨b, o, none⟩ = w.cell? ⟨b, o, none⟩ := fun o => World.cell?_of_block (w := w) hb
  exact ⟨(e _).trans h0, (e _).trans h1, (e _).trans h2, (e _).trans h3⟩
theorem keep4 {w : World} {g b o0 o1 o2 o3 : Nat} {u0 u1 u2 u3 v0 v1 v2 v3 : Value} (hg : g ≠ b) (h : w.cell? ⟨b, 0, none⟩ = some v0 ∧ w.cell? ⟨b, 1, none⟩ = some v1 ∧ w.cell? ⟨b, 2, none⟩ = some v2 ∧ w.cell? ⟨b, 3, none⟩ = some v3) :
    ((((w.setCell ⟨g, o0, none⟩ u0).setCell ⟨g, o1, none⟩ u1).setCell ⟨g, o2, none⟩ u2).setCell ⟨g, o3, none⟩ u3).cell? ⟨b, 0, none⟩ = some v0 ∧ ((((w.setCell ⟨g, o0, none⟩ u0).setCell ⟨g, o1, none⟩ u1).setCell ⟨g, o2, none⟩ u2).setCell ⟨g, o3, none⟩ u3).cell? ⟨b, 1, none⟩ = some v1 ∧ ((((w.setCell ⟨g, o0, none⟩ u0).setCell ⟨g, o1, none⟩ u1).setCell ⟨g, o2, none⟩ u2).setCell ⟨g, o3, none⟩ u3).cell? ⟨b, 2, none⟩ = some v2 ∧ ((((w.setCell ⟨g, o0, none⟩ u0).setCell ⟨g, o1, none⟩ u1).setCell ⟨g, o2, none⟩ u2).setCell ⟨g, o3, none⟩ u3).cell? ⟨b, 3, none⟩ = some v3 := by
  have e : ∀ o, ((((w.setCell ⟨g, o0, none⟩ u0).setCell ⟨g, o1, none⟩ u1).setCell ⟨g, o2, none⟩ u2).setCell ⟨g, o3, none⟩ u3).cell? ⟨b, o, none⟩ = w.cell? ⟨b, o, none⟩ := fun o => by
    rw [World.cell?_setCell_far _ _ _ _ hg, World.cell?_setCell_far _ _ _ _ hg, World.cell?_setCell_far _ _ _ _ hg, World.cell?_setCell_far _ _ _ _ hg]
  obtain ⟨h0, h1, h2, h3⟩ := h
  exact ⟨(e _).trans h0, (e _).trans h1, (e _).trans h2, (e _).trans h3⟩
def NumdP (l : List Ev) (n0 : Nat) (w0 : World) (e : Ending) (w' : World) : Prop := ∃ g K T M, e = .returned (.tuple #[.slice (some ⟨g, 0, none⟩) l.length l.length, .int .i64 (K.length : Int), .int .i64 (T.length : Int)]) ∧ NumP l l.length K T M ∧ Own evK w' n0 98 (.slice (some ⟨g, 0, none⟩) l.length l.length) M ∧ Below n0 w0 w'
set_option maxRecDepth 1000000 in
set_option maxHeartbeats 16000000 in
theorem numbered_any {w : World} {v : Value} {l : List Ev} (hv : Rr evK w v l) (hl : l.length ≤ 20000) :
    Calls Try.prog 39 #[v] w (NumdP l w.heap.size w) := by
  obtain ⟨o1, m1, n1⟩ := mk_eq (S := evK) (by decide) 54 98 _ ⟨0, 0, 0, false⟩ 32 Try.underlying54 infoEv rfl l.length (by omega) (by omega)
  have HV := Lib.hid hv
  have HL := Lib.hid hl
  obtain ⟨ao, cap, rfl, hv1, hv2⟩ := hv.form
  have N1 := Lib.hid n1
  have hmm := @run_makeMap Try.prog
  clear hv n1 hl hv1
  go_enter Try.func39, Try.ntmps39
  go_upto_region 3 with fail
  clear hmm
  obtain ⟨W0, hW0⟩ : ∃ W0, W0 = ((w.alloc (.map #[] 0)).alloc (.map #[] 0)).alloc o1 := ⟨_, rfl⟩
  rw [← hW0]
  have H0 : NumS l w.heap.size w.heap.size (w.heap.size + 1) (w.heap.size + 1 + 1) 0 [] [] (List.replicate l.length ⟨0, 0, 0, false⟩) w W0 := by
    obtain ⟨q1, q2, q3⟩ := heap3 w (.map #[] 0) (.map #[] 0) o1
    rw [← hW0] at q1 q2 q3
    exact ⟨numP_start _ _ (by simp), nums_made q1, nums_made q2, N1.out _ _ q3, by rw [hW0]; exact ((((Below.refl _ _).alloc (Nat.le_refl _) _).alloc (by simp) _).alloc (by simp; omega) _), ⟨by omega, by omega, by omega⟩, by omega, by omega, by omega⟩
  have HS0 := Lib.hid H0
  have HSZ0 : Hid (w.heap.size ≤ W0.heap.size) := Lib.hid (by have := H0.bl.size; exact this)
  clear H0 hW0 m1
  go_wp2_with fail
  go_loopg [16] l.length (fun k t wr => ∃ (i : Nat) (K : List Int) (T : List (Int × Int)) (M : List Ev), i + k = l.length ∧ t = .int .i64 (i : Int) ∧ Hid (NumS l w.heap.size w.heap.size (w.heap.size + 1) (w.heap.size + 1 + 1) i K T M w wr) ∧ Hid (w.heap.size ≤ wr.heap.size))
  case atStart => exact ⟨0, _, _, _, by omega, rfl, HS0, HSZ0⟩
  case round =>
    obtain ⟨i, K, T, M, hik, rfl, HS, HSZ⟩ := hrel
    clear HS0 HSZ0
    have HIK := Lib.hid hik
    have hi0 : (0 : Int) ≤ (i : Int) := Int.natCast_nonneg _
    by_cases hlt : i < l.length
    · have hi1 : (i : Int) < (l.length : Int) := by omega
      have hi9 : (i : Int) ≤ 20000 := by have := HL.out; omega
      have HLT := Lib.hid hlt
      obtain ⟨⟨ew, ek, ea, eo⟩, hx⟩ : ∃ x, l[i]? = some x := ⟨_, List.getElem?_eq_getElem hlt⟩
      have hwf := HV.out.wf _ (List.mem_of_getElem? hx)
      obtain ⟨iw, ikk, ia⟩ : I64 ew ∧ I64 ek ∧ I64 ea := hwf
      have HIW := Lib.hid iw
      have HIA := Lib.hid ia
      obtain ⟨b, off, rfl, hbl, qx⟩ := HV.out.at hx
      have qy := qx.below HS.out.bl hbl
      have c0 := qy 0 _ (by decide) rfl
      have c1 := qy 1 _ (by decide) rfl
      have c2 := qy 2 _ (by decide) rfl
      have c3 := qy 3 _ (by decide) rfl
      simp only [show evK.k = 4 from rfl, Nat.add_zero] at c0 c1 c2 c3
      obtain ⟨W1, hW1⟩ : ∃ W1, W1 = wr.alloc (.cells #[.int .i64 ew, .int .i64 ek, .int .i64 ea, .bool eo] 98) := ⟨_, rfl⟩
      have hbw : Below wr.heap.size wr W1 := by rw [hW1]; exact (Below.refl _ _).alloc (Nat.le_refl _) _
      have hst : W1.heap[wr.heap.size]? = some (.cells #[.int .i64 ew, .int .i64 ek, .int .i64 ea, .bool eo] 98 (0, 0)) := by rw [hW1]; exact heap_alloc_new wr _
      obtain ⟨l1, l2, l3⟩ := HS.out.lt
      have HLT3 := Lib.hid (And.intro l1 (And.intro l2 l3))
      have HST := Lib.hid hst
      have HH1 := Lib.hid ((NumH.of HS.out HSZ.out).below hbw)
      have HNP := Lib.hid HS.out.np
      have HW1 := Lib.hid hW1
      have HX := Lib.hid hx
      clear hik hlt hx qx qy hbw hst hW1 iw ikk ia l1 l2 l3 hbl
      by_cases te : Th ⟨ew, ek, ea, eo⟩
      · have HTE := Lib.hid te
        clear te
        go_wp2_with fail
        go_at_call 54
        rw [← HW1.out]
        refine (there_yes ⟨ew, ek, ea, eo⟩ HTE.out _).mono ?_
        rintro r w2 ⟨rfl, hb2⟩
        have hh2 := HH1.out.below (hb2.trans (Below.refl _ _).drew)
        have hst2 := (hb2.block _ (Array.getElem?_eq_some_iff.1 HST.out).1).trans HST.out
        have HH := Lib.hid hh2
        have HST2 := Lib.hid hst2
        have hs : w2.drew.cell? ⟨wr.heap.size, 0, none⟩ = some (.int .i64 ew) ∧ w2.drew.cell? ⟨wr.heap.size, 1, none⟩ = some (.int .i64 ek) ∧ w2.drew.cell? ⟨wr.heap.size, 2, none⟩ = some (.int .i64 ea) ∧ w2.drew.cell? ⟨wr.heap.size, 3, none⟩ = some (.bool eo) := evIn_new0 hst2
        have HL2 : Hid (wr.heap.size < w2.drew.heap.size) := Lib.hid (Array.getElem?_eq_some_iff.1 hst2).1
        have hsk : srt ek = srt ek := rfl
        have hk07 : 0 ≤ ek ∧ ek ≤ 7 := HTE.out
        have HSI : Hid (I64 (srt ek)) := Lib.hid (by unfold srt; exact ⟨by omega, by omega⟩)
        have HK7 := Lib.hid hk07
        clear hb2 hh2 hst2 hsk hk07 HH1 HST HW1 HTE c0 c1 c2 c3
        go_upto_region 8 with fail
        refine wp_region_held_drew (S := (fun w' => w'.cell? ⟨wr.heap.size, 0, none⟩ = some (.int .i64 ew) ∧ w'.cell? ⟨wr.heap.size, 1, none⟩ = some (.int .i64 ek) ∧ w'.cell? ⟨wr.heap.size, 2, none⟩ = some (.int .i64 ea) ∧ w'.cell? ⟨wr.heap.size, 3, none⟩ = some (.bool eo))) (by kernel_rfl) ?_ (fun hHeld => ?_)
        · ((try dsimp only); exact hs)
        refine wpAnyH_take (i := 0) (v := ?_) rfl (by kernel_rfl) (by kernel_rfl) (by kernel_rfl) (fun _ _ _ h => h) (Or.inl ⟨by rfl, ?_⟩) (by assumption) ?_
        rotate_left 1
        · (intro w hSw; (try dsimp only at hSw); first | (go_simp; done) | (go_simp; with_reducible rfl))
        try simp only [Act.put, List.setIfInBounds_toArray, List.set_cons_zero, List.set_cons_succ, List.getElem_toArray, List.getElem_cons_zero]
        refine wpAnyH_take (i := 1) (v := ?_) rfl (by kernel_rfl) (by kernel_rfl) (by kernel_rfl) (fun _ _ _ h => h) (Or.inl ⟨by rfl, ?_⟩) (by assumption) ?_
        rotate_left 1
        · (intro w hSw; (try dsimp only at hSw); first | (go_simp; done) | (go_simp; with_reducible rfl))
        try simp only [Act.put, List.setIfInBounds_toArray, List.set_cons_zero, List.set_cons_succ, List.getElem_toArray, List.getElem_cons_zero, List.getElem_cons_succ]
        refine wpAnyH_take (i := 2) (v := ?_) rfl (by kernel_rfl) (by kernel_rfl) (by kernel_rfl) (fun _ _ _ h => h) (Or.inl ⟨by rfl, ?_⟩) (by assumption) ?_
        rotate_left 1
        · (intro w hSw; (try dsimp only at hSw); first | (go_simp; done) | (go_simp; with_reducible rfl))
        try simp only [Act.put, List.setIfInBounds_toArray, List.set_cons_zero, List.set_cons_succ, List.getElem_toArray, List.getElem_cons_zero, List.getElem_cons_succ]
        refine wpAnyH_take (i := 3) (v := ?_) rfl (by kernel_rfl) (by kernel_rfl) (by kernel_rfl) (fun _ _ _ h => h) (Or.inl ⟨by rfl, ?_⟩) (by assumption) ?_
        rotate_left 1
        · (intro w hSw; (try dsimp only at hSw); first | (go_simp; done) | (go_simp; with_reducible rfl))
        try simp only [Act.put, List.setIfInBounds_toArray, List.set_cons_zero, List.set_cons_succ, List.getElem_toArray, List.getElem_cons_zero, List.getElem_cons_succ]
        refine wpAnyH_take (i := 4) (v := ?_) rfl (by kernel_rfl) (by kernel_rfl) (by kernel_rfl) (fun _ _ _ h => h) (Or.inl ⟨by rfl, ?_⟩) (by assumption) ?_
        rotate_left 1
        · (intro w hSw; (try dsimp only at hSw); first | (go_simp; done) | (go_simp; with_reducible rfl))
        try simp only [Act.put, List.setIfInBounds_toArray, List.set_cons_zero, List.set_cons_succ, List.getElem_toArray, List.getElem_cons_zero, List.getElem_cons_succ]
        refine wpAnyH_take (i := 6) (v := ?_) rfl (by kernel_rfl) (by kernel_rfl) (by kernel_rfl) (fun _ _ _ h => h) (Or.inl ⟨by rfl, ?_⟩) (by assumption) ?_
        rotate_left 1
        · (intro w hSw; (try dsimp only at hSw); first | (go_simp; done) | (go_simp; with_reducible rfl))
        try simp only [Act.put, List.setIfInBounds_toArray, List.set_cons_zero, List.set_cons_succ, List.getElem_toArray, List.getElem_cons_zero, List.getElem_cons_succ]
        refine wpAnyH_take (i := 7) (v := ?_) rfl (by kernel_rfl) (by kernel_rfl) (by kernel_rfl) (fun _ _ _ h => h) (Or.inl ⟨by rfl, ?_⟩) (by assumption) ?_
        rotate_left 1
        · (intro w hSw; (try dsimp only at hSw); first | (go_simp; done) | (go_simp; with_reducible rfl))
        try simp only [Act.put, List.setIfInBounds_toArray, List.set_cons_zero, List.set_cons_succ, List.getElem_toArray, List.getElem_cons_zero, List.getElem_cons_succ]
        refine wpAnyH_take (i := 8) (v := ?_) rfl (by kernel_rfl) (by kernel_rfl) (by kernel_rfl) (fun _ _ _ h => h) (Or.inl ⟨by rfl, ?_⟩) (by assumption) ?_
        rotate_left 1
        · (intro w hSw; (try dsimp only at hSw); first | (go_simp; done) | (go_simp; with_reducible rfl))
        try simp only [Act.put, List.setIfInBounds_toArray, List.set_cons_zero, List.set_cons_succ, List.getElem_toArray, List.getElem_cons_zero, List.getElem_cons_succ]
        refine wpAnyH_take (i := 9) (v := ?_) rfl (by kernel_rfl) (by kernel_rfl) (by kernel_rfl) (fun _ _ _ h => h) (Or.inl ⟨by rfl, ?_⟩) (by assumption) ?_
        rotate_left 1
        · (intro w hSw; (try dsimp only at hSw); first | (go_simp; done) | (go_simp; with_reducible rfl))
        try simp only [Act.put, List.setIfInBounds_toArray, List.set_cons_zero, List.set_cons_succ, List.getElem_toArray, List.getElem_cons_zero, List.getElem_cons_succ]
        refine wpAnyH_take (i := 10) (v := ?_) rfl (by kernel_rfl) (by kernel_rfl) (by kernel_rfl) (fun _ _ _ h => h) (Or.inl ⟨by rfl, ?_⟩) (by assumption) ?_
        rotate_left 1
        · (intro w hSw; (try dsimp only at hSw); first | (go_simp; done) | (go_simp; with_reducible rfl))
        try simp only [Act.put, List.setIfInBounds_toArray, List.set_cons_zero, List.set_cons_succ, List.getElem_toArray, List.getElem_cons_zero, List.getElem_cons_succ]
        refine wpAnyH_take (i := 12) (v := ?_) rfl (by kernel_rfl) (by kernel_rfl) (by kernel_rfl) (fun _ _ _ h => h) (Or.inl ⟨by rfl, ?_⟩) (by assumption) ?_
        rotate_left 1
        · (intro w hSw; (try dsimp only at hSw); first | (go_simp; done) | (go_simp; with_reducible rfl))
        try simp only [Act.put, List.setIfInBounds_toArray, List.set_cons_zero, List.set_cons_succ, List.getElem_toArray, List.getElem_cons_zero, List.getElem_cons_succ]
        refine wpAnyH_take (i := 13) (v := ?_) rfl (by kernel_rfl) (by kernel_rfl) (by kernel_rfl) (fun _ _ _ h => h) (Or.inl ⟨by rfl, ?_⟩) (by assumption) ?_
        rotate_left 1
        · (intro w hSw; (try dsimp only at hSw); first | (go_simp; done) | (go_simp; with_reducible rfl))
        try simp only [Act.put, List.setIfInBounds_toArray, List.set_cons_zero, List.set_cons_succ, List.getElem_toArray, List.getElem_cons_zero, List.getElem_cons_succ]
        refine wpAnyH_take (i := 16) (v := ?_) rfl (by kernel_rfl) (by kernel_rfl) (by kernel_rfl) (fun _ _ _ h => h) (Or.inl ⟨by rfl, ?_⟩) (by assumption) ?_
        rotate_left 1
        · (intro w hSw; (try dsimp only at hSw); first | (go_simp; done) | (go_simp; with_reducible rfl))
        try simp only [Act.put, List.setIfInBounds_toArray, List.set_cons_zero, List.set_cons_succ, List.getElem_toArray, List.getElem_cons_zero, List.getElem_cons_succ]
        refine wpAnyH_take (i := 17) (v := ?_) rfl (by kernel_rfl) (by kernel_rfl) (by kernel_rfl) (fun _ _ _ h => h) (Or.inl ⟨by rfl, ?_⟩) (by assumption) ?_
        rotate_left 1
        · (intro w hSw; (try dsimp only at hSw); first | (go_simp; done) | (go_simp; with_reducible rfl))
        try simp only [Act.put, List.setIfInBounds_toArray, List.set_cons_zero, List.set_cons_succ, List.getElem_toArray, List.getElem_cons_zero, List.getElem_cons_succ]
        refine wpAnyH_ready (rs := [5]) (by kernel_rfl) (by simp) ?_
        refine AllReadyH.cons rfl (fun K hK => ?_) AllReadyH.nil
        go_simp
        go_at_call 55
        refine (numI_any HH.out.n1 (by have := HL.out; have := HLT.out; omega) ew HIW.out).mono ?_
        rintro r w4 hq
        obtain ⟨rfl, _⟩ := id hq
        have hturn := hq.2.2
        have hnb : wr.heap.size ≠ w.heap.size := by have := HLT3.out.1; omega
        have hs4 := (hturn.2.2 _ HL2.out hnb)
        replace hs := evIn_blk hs4 hs
        replace HL2 : Hid (wr.heap.size < w4.heap.size) := Lib.hid (Nat.lt_of_lt_of_le HL2.out hturn.1)
        replace HH := Lib.hid (HH.out.first hq)
        clear hq hturn hnb hs4
        try go_wp2_with fail
        refine hK.out _ _ ?_ (fun hHeld => ?_)
        · ((try dsimp only); exact hs)
        clear hK K
        try simp only [Act.put, List.setIfInBounds_toArray, List.set_cons_zero, List.set_cons_succ, List.getElem_toArray, List.getElem_cons_zero, List.getElem_cons_succ]
        refine wpAnyH_ready (rs := [11]) (by kernel_rfl) (by simp) ?_
        refine AllReadyH.cons rfl (fun K hK => ?_) AllReadyH.nil
        go_simp
        go_at_call 57
        refine (sortOf_any ek HK7.out _).mono ?_
        rintro r w5 ⟨rfl, rfl⟩
        try go_wp2_with fail
        refine hK.out _ _ ?_ (fun hHeld => ?_)
        · ((try dsimp only); exact hs)
        clear hK K
        try simp only [Act.put, List.setIfInBounds_toArray, List.set_cons_zero, List.set_cons_succ, List.getElem_toArray, List.getElem_cons_zero, List.getElem_cons_succ]
        refine wpAnyH_take (i := 14) (v := ?_) rfl (by kernel_rfl) (by kernel_rfl) (by kernel_rfl) (fun _ _ _ h => h) (Or.inl ⟨by rfl, ?_⟩) (by assumption) ?_
        rotate_left 1
        · (intro w hSw; (try dsimp only at hSw); first | (go_simp; done) | (go_simp; with_reducible rfl))
        try simp only [Act.put, List.setIfInBounds_toArray, List.set_cons_zero, List.set_cons_succ, List.getElem_toArray, List.getElem_cons_zero, List.getElem_cons_succ]
        refine wpAnyH_ready (rs := [15]) (by kernel_rfl) (by simp) ?_
        refine AllReadyH.cons rfl (fun K hK => ?_) AllReadyH.nil
        go_simp
        go_at_call 56
        refine (numT_any HH.out.n2 (by have := HL.out; have := HLT.out; omega) (srt ek, ea) HSI.out HIA.out).mono ?_
        rintro r w6 hq
        obtain ⟨rfl, _⟩ := id hq
        have hturn := hq.2.2
        have hnb : wr.heap.size ≠ w.heap.size + 1 := by have := HLT3.out.2.1; omega
        have hs4 := (hturn.2.2 _ HL2.out hnb)
        replace hs := evIn_blk hs4 hs
        replace HH := Lib.hid (HH.out.second hq)
        have HTH : Hid (Th ⟨ew, ek, ea, eo⟩) := Lib.hid HK7.out
        have hml : i < M.length := by rw [HNP.out.len]; exact HLT.out
        obtain ⟨⟨mw, mk, ma, mo⟩, hmx⟩ : ∃ x, M[i]? = some x := ⟨_, List.getElem?_eq_getElem hml⟩
        have qm := HH.out.ow.at hmx
        have k0 := qm 0 _ (by decide) rfl
        have k1 := qm 1 _ (by decide) rfl
        have k2 := qm 2 _ (by decide) rfl
        have k3 := qm 3 _ (by decide) rfl
        have f0 := HH.out.ow.free (i * 4)
        have f1 := HH.out.ow.free (i * 4 + 1)
        have f2 := HH.out.ow.free (i * 4 + 2)
        have f3 := HH.out.ow.free (i * 4 + 3)
        simp only [show evK.k = 4 from rfl, Nat.add_zero] at k0 k1 k2 k3
        have hgne : wr.heap.size ≠ w.heap.size + 1 + 1 := by have := HLT3.out.2.2; omega
        have hgne' := Ne.symm hgne
        clear hq hturn hnb hs4 hml hmx qm
        try go_wp2_with fail
        refine hK.out _ _ ?_ (fun hHeld => ?_)
        · ((try dsimp only); exact hs)
        clear hK K
        try simp only [Act.put, List.setIfInBounds_toArray, List.set_cons_zero, List.set_cons_succ, List.getElem_toArray, List.getElem_cons_zero, List.getElem_cons_succ]
        refine wpAnyH_take (i := 18) (v := ?_) rfl (by kernel_rfl) (by kernel_rfl) (by kernel_rfl) (fun _ _ _ h => h) (Or.inl ⟨by rfl, ?_⟩) (by assumption) ?_
        rotate_left 1
        · (intro w hSw; (try dsimp only at hSw); first | (go_simp; done) | (go_simp; with_reducible rfl))
        try simp only [Act.put, List.setIfInBounds_toArray, List.set_cons_zero, List.set_cons_succ, List.getElem_toArray, List.getElem_cons_zero, List.getElem_cons_succ]
        refine wpAnyH_take (i := 19) (v := ?_) rfl (by kernel_rfl) (by kernel_rfl) (by kernel_rfl) (fun _ _ _ h => h) (Or.inl ⟨by rfl, ?_⟩) (by assumption) ?_
        rotate_left 1
        · (intro w hSw; (try dsimp only at hSw); first | (go_simp; done) | (go_simp; with_reducible rfl))
        try simp only [Act.put, List.setIfInBounds_toArray, List.set_cons_zero, List.set_cons_succ, List.getElem_toArray, List.getElem_cons_zero, List.getElem_cons_succ]
        refine wpAnyH_ready (rs := [20]) (by kernel_rfl) (by simp) ?_
        refine AllReadyH.cons rfl (fun K hK => ?_) AllReadyH.nil
        go_simp
        skip
        try go_wp2_with fail
        refine hK.out _ _ ?_ (fun hHeld => ?_)
        · ((try dsimp only); exact keep4 hgne' hs)
        clear hK K
        try simp only [Act.put, List.setIfInBounds_toArray, List.set_cons_zero, List.set_cons_succ, List.getElem_toArray, List.getElem_cons_zero, List.getElem_cons_succ]
        refine wpAnyH_done (by kernel_rfl) ?_ _
        have hml : i < M.length := by rw [HNP.out.len]; exact HLT.out
        have HFIN := Lib.hid (HH.out.store hml ⟨(idx (ins K ew) ew : Nat), ek, (idx (ins T (srt ek, ea)) (srt ek, ea) : Nat), eo⟩ (Nat.le_refl _) (Nat.le_refl _) (numP_yes HNP.out HX.out HTH.out))
        have HSZ9 := Lib.hid (show w.heap.size ≤ ((((w6.setCell ⟨w.heap.size + 1 + 1, i * 4, none⟩ (.int .i64 (idx (ins K ew) ew : Nat))).setCell ⟨w.heap.size + 1 + 1, i * 4 + 1, none⟩ (.int .i64 ek)).setCell ⟨w.heap.size + 1 + 1, i * 4 + 2, none⟩ (.int .i64 (idx (ins T (srt ek, ea)) (srt ek, ea) : Nat))).setCell ⟨w.heap.size + 1 + 1, i * 4 + 3, none⟩ (.bool eo)).heap.size by simp only [size_setCell]; exact HH.out.nl)
        go_wp2_with fail
        go_roundg (gk - 1)
        case measure => have := HIK.out; have := HLT.out; omega
        case rel => exact ⟨i + 1, _, _, _, by have := HIK.out; have := HLT.out; omega, by go_num, HFIN, HSZ9⟩
      · have HTE := Lib.hid te
        clear te
        go_wp2_with fail
        go_at_call 54
        rw [← HW1.out]
        refine (there_no ⟨ew, ek, ea, eo⟩ HTE.out _).mono ?_
        rintro r w2 ⟨rfl, hb2⟩
        have hh2 := HH1.out.below hb2
        have HH := Lib.hid hh2
        have hml : i < M.length := by rw [HNP.out.len]; exact HLT.out
        obtain ⟨⟨mw, mk, ma, mo⟩, hmx⟩ : ∃ x, M[i]? = some x := ⟨_, List.getElem?_eq_getElem hml⟩
        have qm := hh2.ow.at hmx
        have k0 := qm 0 _ (by decide) rfl
        have k1 := qm 1 _ (by decide) rfl
        have k2 := qm 2 _ (by decide) rfl
        have k3 := qm 3 _ (by decide) rfl
        have f0 := hh2.ow.free (i * 4)
        have f1 := hh2.ow.free (i * 4 + 1)
        have f2 := hh2.ow.free (i * 4 + 2)
        have f3 := hh2.ow.free (i * 4 + 3)
        simp only [show evK.k = 4 from rfl, Nat.add_zero] at k0 k1 k2 k3
        have HFIN := Lib.hid (hh2.store hml ⟨-1, -1, -1, false⟩ (Nat.le_succ _) (Nat.le_succ _) (numP_no HNP.out HX.out HTE.out))
        have HSZ9 := Lib.hid (show w.heap.size ≤ ((((w2.setCell ⟨w.heap.size + 1 + 1, i * 4, none⟩ (.int .i64 (-1))).setCell ⟨w.heap.size + 1 + 1, i * 4 + 1, none⟩ (.int .i64 (-1))).setCell ⟨w.heap.size + 1 + 1, i * 4 + 2, none⟩ (.int .i64 (-1))).setCell ⟨w.heap.size + 1 + 1, i * 4 + 3, none⟩ (.bool false)).heap.size by simp only [size_setCell]; exact hh2.nl)
        clear hb2 hh2 hml hmx qm HH1 HST HW1 HTE c0 c1 c2 c3
        go_wp2_with fail
        go_roundg (gk - 1)
        case measure => have := HIK.out; have := HLT.out; omega
        case rel => exact ⟨i + 1, _, _, _, by have := HIK.out; have := HLT.out; omega, by go_num, HFIN, HSZ9⟩
    · have hi1 : ¬ (i : Int) < (l.length : Int) := by omega
      have hie : i = l.length := by omega
      have HF : Hid (NumS l w.heap.size w.heap.size (w.heap.size + 1) (w.heap.size + 1 + 1) l.length K T M w wr) := Lib.hid (by rw [← hie]; exact HS.out)
      have hlK : (Builtin.len_ #[MI] = Builtin.len_ #[MI]) := rfl
      obtain ⟨D1, ho1, hs1, _⟩ := HF.out.n1
      obtain ⟨D2, ho2, hs2, _⟩ := HF.out.n2
      have hn1 : ∀ ty, (Builtin.len_ #[MI] ty #[.map (some w.heap.size)]).run Try.prog wr = .ok (.int .i64 (K.length : Int)) wr := fun ty => by rw [← hs1]; exact ho1.len Try.underlying111 ty
      have hn2 : ∀ ty, (Builtin.len_ #[MTh] ty #[.map (some (w.heap.size + 1))]).run Try.prog wr = .ok (.int .i64 (T.length : Int)) wr := fun ty => by rw [← hs2]; exact ho2.len Try.underlying112 ty
      clear hik hlt hie HS hlK ho1 hs1 ho2 hs2
      go_wp2_with fail
      go_ret3
      exact ⟨_, K, T, M, rfl, HF.out.np, own_rebase HF.out.ow (by omega), HF.out.bl⟩
end Go.Proofs.Ytmggnalobfihnaa.Ck
