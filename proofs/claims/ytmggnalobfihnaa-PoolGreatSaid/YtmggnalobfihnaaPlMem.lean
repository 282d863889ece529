/-
  PACKAGE pool: how a Pool and an act lie there; Over, Mark, Ok, none, takesEffect.
-/
import Derived.Test.YtmggnalobfihnaaJoined8
import Derived.Test.YtmggnalobfihnaaPlCat
import Derived.Test.YtmggnalobfihnaaCkNext
import Derived.Laws.Rows
import Derived.Deep.CutBlock
import Derived.BigRegion
namespace Go.Proofs.Ytmggnalobfihnaa.Pl
open Go.RowKit Rw Pk Go.Maps Mm
set_option linter.unusedVariables false
structure Pi where
  p : Nat
  wd : Int
  bo : Int
  la : Int
  n : Int
structure Pa where
  s : Nat
  who : Int
  dr : Bool
  sv : Value
  bx : Nat → Value
  dv : Value
  tk : Value
  rd : Int
  ok : Bool
  mk' : Int
def PiAt (w : World) (g : Nat) (S : Pi) : Prop := w.heap[g]? = some (.cells #[.pointer (some ⟨S.p, 0, none⟩), .int .i64 S.wd, .int .i64 S.bo, .int .i64 S.la, .int .i64 S.n] 73 (0, 0))
def PaAt (w : World) (g : Nat) (A : Pa) : Prop := w.heap[g]? = some (.cells #[.pointer (some ⟨A.s, 0, none⟩), .int .i64 A.who, .bool A.dr, A.sv, A.bx 0, A.bx 1, A.bx 2, A.bx 3, A.bx 4, A.bx 5, A.bx 6, A.bx 7, A.dv, A.tk, .int .u64 A.rd, .bool A.ok, .int .i64 A.mk'] 71 (0, 0))
/-- A box of it is another one. -/
def Pa.box (A : Pa) (i : Nat) (v : Value) : Pa := { A with bx := fun j => if j = i then v else A.bx j }
section
variable {w w' : World} {g : Nat} {S : Pi} {A : Pa}
theorem PiAt.cells (h : PiAt w g S) :
    w.cell? ⟨g, 0, none⟩ = some (.pointer (some ⟨S.p, 0, none⟩)) ∧ w.cell? ⟨g, 1, none⟩ = some (.int .i64 S.wd) ∧ w.cell? ⟨g, 2, none⟩ = some (.int .i64 S.bo) ∧ w.cell? ⟨g, 3, none⟩ = some (.int .i64 S.la) ∧ w.cell? ⟨g, 4, none⟩ = some (.int .i64 S.n) := by
  unfold PiAt at h
  simp [World.cell?, h]
theorem PaAt.cells (h : PaAt w g A) :
    w.cell? ⟨g, 0, none⟩ = some (.pointer (some ⟨A.s, 0, none⟩)) ∧ w.cell? ⟨g, 1, none⟩ = some (.int .i64 A.who) ∧ w.cell? ⟨g, 2, none⟩ = some (.bool A.dr) ∧ w.cell? ⟨g, 3, none⟩ = some A.sv ∧ w.cell? ⟨g, 12, none⟩ = some A.dv ∧ w.cell? ⟨g, 13, none⟩ = some A.tk ∧ w.cell? ⟨g, 14, none⟩ = some (.int .u64 A.rd) ∧ w.cell? ⟨g, 15, none⟩ = some (.bool A.ok) ∧ w.cell? ⟨g, 16, none⟩ = some (.int .i64 A.mk') ∧ ∀ o, w.frozen? ⟨g, o, none⟩ = false := by
  unfold PaAt at h
  simp [World.cell?, World.frozen?, h]
theorem PaAt.boxes (h : PaAt w g A) : w.cell? ⟨g, 4, none⟩ = some (A.bx 0) ∧ w.cell? ⟨g, 5, none⟩ = some (A.bx 1) ∧ w.cell? ⟨g, 6, none⟩ = some (A.bx 2) ∧ w.cell? ⟨g, 7, none⟩ = some (A.bx 3) ∧ w.cell? ⟨g, 8, none⟩ = some (A.bx 4) ∧ w.cell? ⟨g, 9, none⟩ = some (A.bx 5) ∧ w.cell? ⟨g, 10, none⟩ = some (A.bx 6) ∧ w.cell? ⟨g, 11, none⟩ = some (A.bx 7) := by
  unfold PaAt at h
  simp [World.cell?, h]
theorem PaAt.boxAt (h : PaAt w g A) {i : Nat} (hi : i < 8) : w.cell? ⟨g, 4 + i, none⟩ = some (A.bx i) := by
  obtain ⟨h0, h1, h2, h3, h4, h5, h6, h7⟩ := h.boxes
  match i, hi with
  | 0, _ => exact h0
  | 1, _ => exact h1
  | 2, _ => exact h2
  | 3, _ => exact h3
  | 4, _ => exact h4
  | 5, _ => exact h5
  | 6, _ => exact h6
  | 7, _ => exact h7
  | i + 8, hi => omega
theorem PiAt.lt (h : PiAt w g S) : g < w.heap.size := (Array.getElem?_eq_some_iff.1 h).1
theorem PaAt.lt (h : PaAt w g A) : g < w.heap.size := (Array.getElem?_eq_some_iff.1 h).1
theorem PiAt.of_block (h : PiAt w g S) (e : w'.heap[g]? = w.heap[g]?) : PiAt w' g S := e.trans h
theorem PaAt.of_block (h : PaAt w g A) (e : w'.heap[g]? = w.heap[g]?) : PaAt w' g A := e.trans h
theorem PaAt.set3 (h : PaAt w g A) (x : Value) : PaAt (w.setCell ⟨g, 3, none⟩ x) g { A with sv := x } := by
  unfold PaAt at *; exact heap_setCell_same w g 3 _ _ _ h
theorem PaAt.set12 (h : PaAt w g A) (x : Value) : PaAt (w.setCell ⟨g, 12, none⟩ x) g { A with dv := x } := by
  unfold PaAt at *; exact heap_setCell_same w g 12 _ _ _ h
theorem PaAt.set13 (h : PaAt w g A) (x : Value) : PaAt (w.setCell ⟨g, 13, none⟩ x) g { A with tk := x } := by
  unfold PaAt at *; exact heap_setCell_same w g 13 _ _ _ h
theorem PaAt.set14 (h : PaAt w g A) (x : Int) : PaAt (w.setCell ⟨g, 14, none⟩ (.int .u64 x)) g { A with rd := x } := by
  unfold PaAt at *; exact heap_setCell_same w g 14 _ _ _ h
theorem PaAt.set15 (h : PaAt w g A) (x : Bool) : PaAt (w.setCell ⟨g, 15, none⟩ (.bool x)) g { A with ok := x } := by
  unfold PaAt at *; exact heap_setCell_same w g 15 _ _ _ h
theorem PaAt.set16 (h : PaAt w g A) (x : Int) : PaAt (w.setCell ⟨g, 16, none⟩ (.int .i64 x)) g { A with mk' := x } := by
  unfold PaAt at *; exact heap_setCell_same w g 16 _ _ _ h
theorem PaAt.setBox (h : PaAt w g A) {i : Nat} (hi : i < 8) (x : Value) : PaAt (w.setCell ⟨g, 4 + i, none⟩ x) g (A.box i x) := by
  unfold PaAt at *
  match i, hi with
  | 0, _ => exact heap_setCell_same w g 4 _ _ _ h
  | 1, _ => exact heap_setCell_same w g 5 _ _ _ h
  | 2, _ => exact heap_setCell_same w g 6 _ _ _ h
  | 3, _ => exact heap_setCell_same w g 7 _ _ _ h
  | 4, _ => exact heap_setCell_same w g 8 _ _ _ h
  | 5, _ => exact heap_setCell_same w g 9 _ _ _ h
  | 6, _ => exact heap_setCell_same w g 10 _ _ _ h
  | 7, _ => exact heap_setCell_same w g 11 _ _ _ h
  | i + 8, hi => omega
/-! ### what only looks -/
set_option maxRecDepth 1000000 in
set_option maxHeartbeats 8000000 in
theorem plover_any (h : PaAt w g A) {D : List (Int × Int)} (hd : Rr accK w A.dv D) :
    Calls Try.prog 33 #[.pointer (some ⟨g, 0, none⟩)] w fun e w' => e = .returned (.bool (decide (D = []))) ∧ w = w' := by
  obtain ⟨_, _, _, _, c12, _⟩ := h.cells
  obtain ⟨ao, cap, hv, _, hc⟩ := hd.form
  rw [hv] at c12
  clear h hd hv
  cases D with
  | nil =>
    go_enter Try.func33, Try.ntmps33
    go_wp2_with fail
    go_ret
    exact ⟨rfl, rfl⟩
  | cons x D =>
    have hne : ((D.length : Int) + 1 == 0) = false := by rw [beq_eq_false_iff_ne]; omega
    have hne2 : ¬ ((D.length : Int) + 1 = 0) := by omega
    go_enter Try.func33, Try.ntmps33
    go_wp2_with fail
    go_ret
    exact ⟨by simp, rfl⟩
set_option maxRecDepth 1000000 in
set_option maxHeartbeats 8000000 in
theorem plover_nil (w : World) :
    Calls Try.prog 33 #[.pointer none] w fun e w' => e = .returned (.bool true) ∧ w = w' := by
  go_enter Try.func33, Try.ntmps33
  go_wp2_with fail
  go_ret
  exact ⟨rfl, rfl⟩
set_option maxRecDepth 1000000 in
set_option maxHeartbeats 8000000 in
theorem plmark_any (h : PaAt w g A) :
    Calls Try.prog 11 #[.pointer (some ⟨g, 0, none⟩)] w fun e w' => e = .returned (.int .i64 A.mk') ∧ w = w' := by
  obtain ⟨_, _, _, _, _, _, _, _, c16, _⟩ := h.cells
  clear h
  go_enter Try.func11, Try.ntmps11
  go_wp2_with fail
  go_ret
  exact ⟨rfl, rfl⟩
set_option maxRecDepth 1000000 in
set_option maxHeartbeats 8000000 in
theorem plok_any (h : PaAt w g A) {D : List (Int × Int)} (hd : Rr accK w A.dv D) :
    Calls Try.prog 17 #[.pointer (some ⟨g, 0, none⟩)] w fun e w' => e = .returned (.bool (A.ok && decide (D = []))) ∧ w = w' := by
  have HO := Lib.hid (plover_any h hd)
  obtain ⟨_, _, _, _, _, _, _, c15, _⟩ := h.cells
  clear h hd
  rcases Bool.eq_false_or_eq_true A.ok with hq | hq
  · rw [hq] at c15 ⊢
    go_enter Try.func17, Try.ntmps17
    go_wp2_with fail
    go_at_call 33
    refine HO.out.mono ?_
    rintro e w2 ⟨rfl, rfl⟩
    go_wp2_with fail
    go_ret
    exact ⟨by simp, rfl⟩
  · rw [hq] at c15 ⊢
    go_enter Try.func17, Try.ntmps17
    go_wp2_with fail
    go_ret
    exact ⟨by simp, rfl⟩
set_option maxRecDepth 1000000 in
set_option maxHeartbeats 8000000 in
theorem plround_any (h : PaAt w g A) :
    Calls Try.prog 16 #[.pointer (some ⟨g, 0, none⟩)] w fun e w' => e = .returned (.int .u64 (if A.mk' = 0 then 0 else A.rd)) ∧ w = w' := by
  have HM := Lib.hid (plmark_any h)
  obtain ⟨_, _, _, _, _, _, c14, _⟩ := h.cells
  clear h
  by_cases hm : A.mk' = 0
  · rw [if_pos hm]
    rw [hm] at HM
    go_enter Try.func16, Try.ntmps16
    go_wp2_with fail
    go_at_call 11
    refine HM.out.mono ?_
    rintro e w2 ⟨rfl, rfl⟩
    go_wp2_with fail
    go_ret
    exact ⟨rfl, rfl⟩
  · rw [if_neg hm]
    have hm2 : (A.mk' == 0) = false := by rw [beq_eq_false_iff_ne]; exact hm
    go_enter Try.func16, Try.ntmps16
    go_wp2_with fail
    go_at_call 11
    refine HM.out.mono ?_
    rintro e w2 ⟨rfl, rfl⟩
    go_wp2_with fail
    go_ret
    exact ⟨rfl, rfl⟩
set_option maxRecDepth 1000000 in
set_option maxHeartbeats 8000000 in
theorem plnone_any (h : PiAt w g S) :
    Calls Try.prog 29 #[.pointer (some ⟨g, 0, none⟩)] w fun e w' => e = .returned (.bool false) ∧ w = w' := by
  obtain ⟨c0, _⟩ := h.cells
  clear h
  go_enter Try.func29, Try.ntmps29
  go_wp2_with fail
  go_ret
  exact ⟨rfl, rfl⟩
/-- Does it take effect now? -/
def teP (ok : Bool) : List (Int × Int) → Bool
  | [] => true
  | x :: _ => ok && decide (x.1 = 5)
set_option maxRecDepth 1000000 in
set_option maxHeartbeats 8000000 in
theorem plte_any (h : PaAt w g A) {D : List (Int × Int)} (hd : Rr accK w A.dv D) :
    Calls Try.prog 36 #[.pointer (some ⟨g, 0, none⟩)] w fun e w' => e = .returned (.bool (teP A.ok D)) ∧ w = w' := by
  obtain ⟨_, _, _, _, c12, _, _, c15, _⟩ := h.cells
  cases D with
  | nil =>
    obtain ⟨ao, cap, hv, _, hc⟩ := hd.form
    rw [hv] at c12
    clear h hd hv
    go_enter Try.func36, Try.ntmps36
    go_wp2_with fail
    go_ret
    exact ⟨rfl, rfl⟩
  | cons x D =>
    obtain ⟨ao, cap, hv, _, hc⟩ := hd.form
    rw [hv] at c12 hd
    obtain ⟨b, off, rfl, hb, hx⟩ := hd.at (i := 0) (x := x) rfl
    have d0 := hx 0 _ (by decide) rfl
    simp only [Nat.zero_mul, Nat.add_zero] at d0
    have hne : ((D.length : Int) + 1 == 0) = false := by rw [beq_eq_false_iff_ne]; omega
    have hpos : (0 : Int) < (D.length : Int) + 1 := by omega
    clear h hd hv hx
    rcases Bool.eq_false_or_eq_true A.ok with hq | hq
    · rw [hq] at c15 ⊢
      by_cases h5 : x.1 = 5
      · have HT : teP true (x :: D) = true := by simp [teP, h5]
        rw [HT]
        rw [h5] at d0
        clear HT
        go_enter Try.func36, Try.ntmps36
        go_wp2_with fail
        go_ret
        exact ⟨rfl, rfl⟩
      · have h5' : (x.1 == 5) = false := by rw [beq_eq_false_iff_ne]; exact h5
        have HT : teP true (x :: D) = false := by simp [teP, h5]
        rw [HT]
        clear HT
        go_enter Try.func36, Try.ntmps36
        go_wp2_with fail
        go_ret
        exact ⟨rfl, rfl⟩
    · rw [hq] at c15 ⊢
      have HT : teP false (x :: D) = false := rfl
      rw [HT]
      clear HT
      go_enter Try.func36, Try.ntmps36
      go_wp2_with fail
      go_ret
      exact ⟨rfl, rfl⟩
end
/-! ### an act and its Pool beside their Mem -/
/-- The blocks of what an act has. -/
def Blk (A : Pa) (g : Nat) : Prop := A.sv.ownBlock = some g ∨ A.dv.ownBlock = some g ∨ A.tk.ownBlock = some g ∨ ∃ i, i < 8 ∧ (A.bx i).ownBlock = some g
structure Pg (n : Nat) (w0 wr : World) (fs zs : List Nat) (a s : Nat) (S : Pi) (A : Pa) (P : List Int) (D : List (Int × Int)) (B : Nat → List Batch.Ch) (T : List Batch.Ch) (M : Mm.St) (w : World) : Prop where
  mz : Mm.MemZ n w0 zs S.p M w
  pi : PiAt w s S
  pa : PaAt w a A
  am : a ∈ zs
  sm : s ∈ zs
  na : n ≤ a
  ne : a ≠ s
  as' : A.s = s
  po : Rr intK w A.sv P
  tod : Rr accK w A.dv D
  bx : ∀ i, i < 8 → Batch.Sl w (A.bx i) (B i)
  tk : Batch.Sl w A.tk T
  bl : ∀ g, Blk A g → g ∈ zs ∧ g ≠ a
  fz : ∀ j ∈ fs, j ∈ zs
  fr : ∀ j ∈ fs, j ≠ a → w.heap[j]? = wr.heap[j]?
  sz : wr.heap.size ≤ w.heap.size
section
variable {w w' W : World} {S : Pi} {A A' : Pa} {n a s X : Nat} {w0 wr : World} {fs zs : List Nat} {P : List Int} {D D' : List (Int × Int)} {B B' : Nat → List Batch.Ch} {T T' : List Batch.Ch} {M M' : Mm.St}
theorem Pg.call (h : Pg n w0 wr fs zs a s S A P D B T M w) (hm : Mm.MemZ n w0 zs S.p M' w') (hk : Mm.KeepB n zs w w') : Pg n w0 wr fs zs a s S A P D B T M' w' :=
  ⟨hm, h.pi.of_block (hk.2 _ (.inr h.sm)), h.pa.of_block (hk.2 _ (.inr h.am)), h.am, h.sm, h.na, h.ne, h.as', blk_rr h.po hk.1 (fun g hg => hk.2 g (.inr (h.bl g (.inl hg)).1)), blk_rr h.tod hk.1 (fun g hg => hk.2 g (.inr (h.bl g (.inr (.inl hg))).1)), fun i hi => blk_sl (h.bx i hi) (fun g hg => hk.2 g (.inr (h.bl g (.inr (.inr (.inr ⟨i, hi, hg⟩)))).1)), blk_sl h.tk (fun g hg => hk.2 g (.inr (h.bl g (.inr (.inr (.inl hg)))).1)), h.bl, h.fz, fun j hj hja => (hk.2 j (.inr (h.fz j hj))).trans (h.fr j hj hja), Nat.le_trans h.sz hk.1⟩
theorem Pg.below (h : Pg n w0 wr fs zs a s S A P D B T M w) (hb : Below w.heap.size w w') : Pg n w0 wr fs zs a s S A P D B T M w' := h.call (h.mz.below hb) (h.mz.keep hb)
/-- What was made meanwhile is nobody's. -/
theorem Pg.all (h : Pg n w0 wr fs zs a s S A P D B T M w) (hb : Below w.heap.size w w') : Pg n w0 wr fs (List.range' w.heap.size (w'.heap.size - w.heap.size) ++ zs) a s S A P D B T M w' := by
  have h1 := h.below hb
  exact ⟨blk_all h.mz hb, h1.pi, h1.pa, blk_old a h.am, blk_old s h.sm, h.na, h.ne, h.as', h1.po, h1.tod, h1.bx, h1.tk, fun g hg => ⟨blk_old g (h.bl g hg).1, (h.bl g hg).2⟩, fun j hj => blk_old j (h.fz j hj), h1.fr, h1.sz⟩
/-- A store to the act. -/
theorem Pg.set (h : Pg n w0 wr fs zs a s S A P D B T M w) (o : Nat) (u : Value) (hA : PaAt (w.setCell ⟨a, o, none⟩ u) a A') (hs : A'.s = A.s) (hsv : A'.sv = A.sv)
    (hd : Rr accK w A'.dv D') (hbx : ∀ i, i < 8 → Batch.Sl w (A'.bx i) (B' i)) (ht : Batch.Sl w A'.tk T') (hbl : ∀ g, Blk A' g → g ∈ zs ∧ g ≠ a) : Pg n w0 wr fs zs a s S A' P D' B' T' M (w.setCell ⟨a, o, none⟩ u) := by
  have hz : w.heap.size ≤ (w.setCell ⟨a, o, none⟩ u).heap.size := Nat.le_of_eq (Mm.size_setCell _ _ _).symm
  have hk : ∀ j, j ≠ a → (w.setCell ⟨a, o, none⟩ u).heap[j]? = w.heap[j]? := fun j hj => Below.heap_setCell _ _ _ _ hj
  refine ⟨h.mz.store h.am h.na o u, h.pi.of_block (hk s (Ne.symm h.ne)), hA, h.am, h.sm, h.na, h.ne, hs.trans h.as', ?_, blk_rr hd hz (fun g hg => hk g (hbl g (.inr (.inl hg))).2), fun i hi => blk_sl (hbx i hi) (fun g hg => hk g (hbl g (.inr (.inr (.inr ⟨i, hi, hg⟩)))).2), blk_sl ht (fun g hg => hk g (hbl g (.inr (.inr (.inl hg)))).2), hbl, h.fz, fun j hj hja => (hk j hja).trans (h.fr j hj hja), Nat.le_trans h.sz hz⟩
  rw [hsv]
  exact blk_rr h.po hz (fun g hg => hk g (h.bl g (.inl hg)).2)
theorem Pg.setRd (h : Pg n w0 wr fs zs a s S A P D B T M w) (x : Int) : Pg n w0 wr fs zs a s S { A with rd := x } P D B T M (w.setCell ⟨a, 14, none⟩ (.int .u64 x)) := h.set 14 _ (h.pa.set14 x) rfl rfl h.tod h.bx h.tk h.bl
theorem Pg.setMk (h : Pg n w0 wr fs zs a s S A P D B T M w) (x : Int) : Pg n w0 wr fs zs a s S { A with mk' := x } P D B T M (w.setCell ⟨a, 16, none⟩ (.int .i64 x)) := h.set 16 _ (h.pa.set16 x) rfl rfl h.tod h.bx h.tk h.bl
theorem Pg.setOk (h : Pg n w0 wr fs zs a s S A P D B T M w) (x : Bool) : Pg n w0 wr fs zs a s S { A with ok := x } P D B T M (w.setCell ⟨a, 15, none⟩ (.bool x)) := h.set 15 _ (h.pa.set15 x) rfl rfl h.tod h.bx h.tk h.bl
/-- .. what is to be done: of a block of its own, or new. -/
theorem Pg.setD (h : Pg n w0 wr fs zs a s S A P D B T M w) {v : Value} (hd : Rr accK w v D') (hv : ∀ g, v.ownBlock = some g → g ∈ zs ∧ g ≠ a) : Pg n w0 wr fs zs a s S { A with dv := v } P D' B T M (w.setCell ⟨a, 12, none⟩ v) :=
  h.set 12 _ (h.pa.set12 v) rfl rfl hd h.bx h.tk (fun g hg => by
    rcases hg with hg | hg | hg | hg
    · exact h.bl g (.inl hg)
    · exact hv g hg
    · exact h.bl g (.inr (.inr (.inl hg)))
    · exact h.bl g (.inr (.inr (.inr hg))))
theorem Pg.setT (h : Pg n w0 wr fs zs a s S A P D B T M w) {v : Value} (ht : Batch.Sl w v T') (hv : ∀ g, v.ownBlock = some g → g ∈ zs ∧ g ≠ a) : Pg n w0 wr fs zs a s S { A with tk := v } P D B T' M (w.setCell ⟨a, 13, none⟩ v) :=
  h.set 13 _ (h.pa.set13 v) rfl rfl h.tod h.bx ht (fun g hg => by
    rcases hg with hg | hg | hg | hg
    · exact h.bl g (.inl hg)
    · exact h.bl g (.inr (.inl hg))
    · exact hv g hg
    · exact h.bl g (.inr (.inr (.inr hg))))
/-- A box of lists is another one. -/
def boxB (B : Nat → List Batch.Ch) (i : Nat) (l : List Batch.Ch) : Nat → List Batch.Ch := fun j => if j = i then l else B j
theorem Pg.setB (h : Pg n w0 wr fs zs a s S A P D B T M w) {i : Nat} (hi : i < 8) {v : Value} {l : List Batch.Ch} (hl : Batch.Sl w v l) (hv : ∀ g, v.ownBlock = some g → g ∈ zs ∧ g ≠ a) : Pg n w0 wr fs zs a s S (A.box i v) P D (boxB B i l) T M (w.setCell ⟨a, 4 + i, none⟩ v) :=
  h.set (4 + i) _ (h.pa.setBox hi v) rfl rfl h.tod (fun j hj => by
    unfold boxB Pa.box
    by_cases e : j = i
    · simp only [if_pos e]; exact hl
    · simp only [if_neg e]; exact h.bx j hj) h.tk (fun g hg => by
    rcases hg with hg | hg | hg | ⟨j, hj, hg⟩
    · exact h.bl g (.inl hg)
    · exact h.bl g (.inr (.inl hg))
    · exact h.bl g (.inr (.inr (.inl hg)))
    · unfold Pa.box at hg
      by_cases e : j = i
      · simp only [if_pos e] at hg; exact hv g hg
      · simp only [if_neg e] at hg; exact h.bl g (.inr (.inr (.inr ⟨j, hj, hg⟩))))
/-- One block more that is kept. -/
theorem Pg.over (h : Pg n w0 wr fs zs a s S A P D B T M w) (hb : Below w.heap.size w W) (hX : w.heap.size ≤ X) (hX' : X < W.heap.size) :
    ∃ zs', (∀ j ∈ zs, j ∈ zs') ∧ (∀ j ∈ zs', j ∈ zs ∨ w.heap.size ≤ j) ∧ Pg n w0 W (X :: fs) zs' a s S A P D B T M W := by
  have h1 := h.all hb
  refine ⟨_, blk_old, blk_inv, h1.mz, h1.pi, h1.pa, h1.am, h1.sm, h1.na, h1.ne, h1.as', h1.po, h1.tod, h1.bx, h1.tk, h1.bl, fun j hj => ?_, fun _ _ _ => rfl, Nat.le_refl _⟩
  rcases List.mem_cons.1 hj with rfl | hj
  · exact blk_mem hX hX'
  · exact h1.fz j hj
/-- .. and not any more. -/
theorem Pg.under (h : Pg n w0 W (X :: fs) zs a s S A P D B T M w) (hf : ∀ j ∈ fs, j ≠ a → W.heap[j]? = wr.heap[j]?) (hz : wr.heap.size ≤ W.heap.size) : Pg n w0 wr fs zs a s S A P D B T M w :=
  ⟨h.mz, h.pi, h.pa, h.am, h.sm, h.na, h.ne, h.as', h.po, h.tod, h.bx, h.tk, h.bl, fun j hj => h.fz j (List.mem_cons_of_mem _ hj), fun j hj hja => (h.fr j (List.mem_cons_of_mem _ hj) hja).trans (hf j hj hja), Nat.le_trans hz h.sz⟩
/-- What is kept, in its block. -/
theorem Pg.kept (h : Pg n w0 W (X :: fs) zs a s S A P D B T M w) (hX : X ≠ a) (o : Nat) : w.cell? ⟨X, o, none⟩ = W.cell? ⟨X, o, none⟩ :=
  World.cell?_of_block (w := W) (a := ⟨X, o, none⟩) (h.fr X (List.mem_cons_self ..) hX)
theorem acc_tail {b off cap : Nat} {x : Int × Int} (h : Rr accK w (.slice (some ⟨b, off, none⟩) (D.length + 1) cap) (x :: D)) : Rr accK w (.slice (some ⟨b, off + 2, none⟩) D.length (cap - 1)) D := by
  obtain ⟨ao', cap', hv, h1, h2, h3, h4⟩ := h
  simp only [Value.slice.injEq] at hv
  obtain ⟨rfl, _, rfl⟩ := hv
  refine ⟨_, _, rfl, .inr ?_, by simp at h2; omega, by omega, fun y hy => h4 y (List.mem_cons_of_mem _ hy)⟩
  rcases h1 with h1 | ⟨b', off', hb, he, h1⟩
  · cases h1
  · simp only [Option.some.injEq, Addr.mk.injEq] at he
    obtain ⟨rfl, rfl, _⟩ := he
    refine ⟨_, _, hb, rfl, fun i y hy => ?_⟩
    have := h1 (i + 1) y (by simpa using hy)
    have e : off + (i + 1) * accK.k = off + 2 + i * accK.k := by rw [show accK.k = 2 from rfl]; omega
    rwa [e] at this
theorem acc_nil {b off : Nat} : Rr accK w (.slice (some ⟨b, off, none⟩) 0 0) [] := ⟨_, _, rfl, .inl rfl, by simp, by simp, by simp⟩
end
end Go.Proofs.Ytmggnalobfihnaa.Pl
