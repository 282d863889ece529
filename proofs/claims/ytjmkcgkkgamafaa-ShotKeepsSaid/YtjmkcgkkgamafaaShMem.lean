/-
  PACKAGE shot: how a Shot and an act lie there; Over, Mark, Vain, none, lacks, takesEffect; copies of lists of numbers.
-/
import Derived.Test.YtjmkcgkkgamafaaMemZ
import Derived.Test.YtjmkcgkkgamafaaShCat
import Derived.Test.YtjmkcgkkgamafaaCkNext
import Derived.Test.YtjmkcgkkgamafaaRgPushs
import Derived.Laws.Rows
import Derived.Deep.CutBlock
import Derived.BigRegion
namespace Go.Proofs.Ytjmkcgkkgamafaa.Sh
open Go.RowKit Rw Pk Go.Maps Mm
set_option linter.unusedVariables false
theorem rr_block {α : Type} {S : Kd α} {w w' : World} {v : Value} {l : List α} (h : Rr S w v l) (hz : w.heap.size ≤ w'.heap.size) (hs : ∀ g, v.ownBlock = some g → w'.heap[g]? = w.heap[g]?) : Rr S w' v l := by
  obtain ⟨ao, cap, rfl, h1, h2⟩ := h
  refine ⟨ao, cap, rfl, ?_, h2⟩
  rcases h1 with h1 | ⟨b, off, hb, rfl, h1⟩
  · exact .inl h1
  · exact .inr ⟨b, off, by omega, rfl, fun i x hx c u hc hu => (World.cell?_of_block (w := w) (hs b rfl)).trans (h1 i x hx c u hc hu)⟩
theorem own_block {w w' : World} {base : Nat} {T : TypeId} {size n : Nat} {v : Value} {xs : List Value} (h : w.ownsRow base T size v n xs) (hs : ∀ g, v.ownBlock = some g → w'.heap[g]? = w.heap[g]?) : w'.ownsRow base T size v n xs := by
  refine ⟨h.1, ?_⟩
  rcases h.2 with h2 | ⟨g, cap, cur, rfl, hb, hg, rest⟩
  · exact .inl h2
  · exact .inr ⟨g, cap, cur, rfl, hb, (hs g rfl).trans hg, rest⟩
theorem own_to0 {w : World} {base : Nat} {T : TypeId} {size n : Nat} {v : Value} {xs : List Value} (h : w.ownsRow base T size v n xs) : w.ownsRow 0 T size v n xs := by
  refine ⟨h.1, ?_⟩
  rcases h.2 with h2 | ⟨g, cap, cur, rfl, hg, rest⟩
  · exact .inl h2
  · exact .inr ⟨g, cap, cur, rfl, Nat.zero_le _, rest⟩
theorem infoU8 : (Try.prog.info? 53).map (fun i => (i.zero, i.size, i.bytes)) = some (some (.int .u64 0), u64K.k, 8) := by kernel_rfl
theorem cloneI_any {w : World} {v : Value} {l : List Int} (h : Rr intK w v l) (h0 : l ≠ []) (hl : l.length ≤ 100000) :
    Calls Try.prog 90 #[v] w fun e w' => ∃ v', e = .returned v' ∧ Own intK w' w.heap.size 3 v' l ∧ Below w.heap.size w w' := by
  obtain ⟨ao, cap, rfl, h1, h2, h3, h4⟩ := h
  obtain ⟨i0, hi, hz0, hz1, hz2⟩ := info_partsP Ck.infoI8
  rcases h1 with h1 | ⟨b, off, hb, rfl, h1⟩
  · exact absurd h1 h0
  · have hs : Sl intK w (.slice (some ⟨b, off, none⟩) l.length cap) l := ⟨_, _, rfl, .inr ⟨b, off, hb, rfl, h1⟩, h2, h3, h4⟩
    exact (AnyE.slices_Clone Try.cloneI i0 (.int .i64 0) 1 8 hi hz0 hz1 hz2 rfl (by decide) Try.sizeOf3 b off l.length cap (intK.flat l) w (flat_length l) (by unfold maxLen; omega) (by omega) (hs.cells (by decide)) (flat_one l)).mono
      fun e w' ⟨v', he, ho, _, hb⟩ => ⟨v', he, ho, hb⟩
theorem cloneU_any {w : World} {v : Value} {l : List Int} (h : Rr u64K w v l) (h0 : l ≠ []) (hl : l.length ≤ 100000) :
    Calls Try.prog 92 #[v] w fun e w' => ∃ v', e = .returned v' ∧ Own u64K w' w.heap.size 53 v' l ∧ Below w.heap.size w w' := by
  obtain ⟨ao, cap, rfl, h1, h2, h3, h4⟩ := h
  obtain ⟨i0, hi, hz0, hz1, hz2⟩ := info_partsP infoU8
  rcases h1 with h1 | ⟨b, off, hb, rfl, h1⟩
  · exact absurd h1 h0
  · have hs : Sl u64K w (.slice (some ⟨b, off, none⟩) l.length cap) l := ⟨_, _, rfl, .inr ⟨b, off, hb, rfl, h1⟩, h2, h3, h4⟩
    exact (AnyE.slices_Clone Try.cloneU i0 (.int .u64 0) 1 8 hi hz0 hz1 hz2 rfl (by decide) Try.sizeOf53 b off l.length cap (u64K.flat l) w (flat_length l) (by unfold maxLen; omega) (by omega) (hs.cells (by decide)) (flat_one l)).mono
      fun e w' ⟨v', he, ho, _, hb⟩ => ⟨v', he, ho, hb⟩
structure Si where
  p : Nat
  wd : Int
  la : Int
  np : Int
  tr : Int
structure Sa where
  s : Nat
  who : Int
  pub : Bool
  pv : Value
  tv : Value
  dv : Value
  ver : Int
  vain : Int
  mk' : Int
def SiAt (w : World) (g : Nat) (S : Si) : Prop := w.heap[g]? = some (.cells #[.pointer (some ⟨S.p, 0, none⟩), .int .i64 S.wd, .int .i64 S.la, .int .i64 S.np, .int .i64 S.tr] 162 (0, 0))
def SaAt (w : World) (g : Nat) (A : Sa) : Prop := w.heap[g]? = some (.cells #[.pointer (some ⟨A.s, 0, none⟩), .int .i64 A.who, .bool A.pub, A.pv, A.tv, A.dv, .int .u64 A.ver, .int .i64 A.vain, .int .i64 A.mk'] 159 (0, 0))
section
variable {w w' : World} {g : Nat} {S : Si} {A : Sa}
theorem SiAt.cells (h : SiAt w g S) :
    w.cell? ⟨g, 0, none⟩ = some (.pointer (some ⟨S.p, 0, none⟩)) ∧ w.cell? ⟨g, 1, none⟩ = some (.int .i64 S.wd) ∧ w.cell? ⟨g, 2, none⟩ = some (.int .i64 S.la) ∧ w.cell? ⟨g, 3, none⟩ = some (.int .i64 S.np) ∧ w.cell? ⟨g, 4, none⟩ = some (.int .i64 S.tr) := by
  unfold SiAt at h
  simp [World.cell?, h]
theorem SaAt.cells (h : SaAt w g A) :
    w.cell? ⟨g, 0, none⟩ = some (.pointer (some ⟨A.s, 0, none⟩)) ∧ w.cell? ⟨g, 1, none⟩ = some (.int .i64 A.who) ∧ w.cell? ⟨g, 2, none⟩ = some (.bool A.pub) ∧ w.cell? ⟨g, 3, none⟩ = some A.pv ∧ w.cell? ⟨g, 4, none⟩ = some A.tv ∧ w.cell? ⟨g, 5, none⟩ = some A.dv ∧ w.cell? ⟨g, 6, none⟩ = some (.int .u64 A.ver) ∧ w.cell? ⟨g, 7, none⟩ = some (.int .i64 A.vain) ∧ w.cell? ⟨g, 8, none⟩ = some (.int .i64 A.mk') ∧ ∀ o, w.frozen? ⟨g, o, none⟩ = false := by
  unfold SaAt at h
  simp [World.cell?, World.frozen?, h]
theorem SiAt.lt (h : SiAt w g S) : g < w.heap.size := (Array.getElem?_eq_some_iff.1 h).1
theorem SaAt.lt (h : SaAt w g A) : g < w.heap.size := (Array.getElem?_eq_some_iff.1 h).1
theorem SiAt.of_block (h : SiAt w g S) (e : w'.heap[g]? = w.heap[g]?) : SiAt w' g S := e.trans h
theorem SaAt.of_block (h : SaAt w g A) (e : w'.heap[g]? = w.heap[g]?) : SaAt w' g A := e.trans h
theorem SaAt.set4 (h : SaAt w g A) (v : Value) : SaAt (w.setCell ⟨g, 4, none⟩ v) g { A with tv := v } := by
  unfold SaAt at *; exact heap_setCell_same w g 4 _ _ _ h
theorem SaAt.set5 (h : SaAt w g A) (v : Value) : SaAt (w.setCell ⟨g, 5, none⟩ v) g { A with dv := v } := by
  unfold SaAt at *; exact heap_setCell_same w g 5 _ _ _ h
theorem SaAt.set6 (h : SaAt w g A) (x : Int) : SaAt (w.setCell ⟨g, 6, none⟩ (.int .u64 x)) g { A with ver := x } := by
  unfold SaAt at *; exact heap_setCell_same w g 6 _ _ _ h
theorem SaAt.set8 (h : SaAt w g A) (x : Int) : SaAt (w.setCell ⟨g, 8, none⟩ (.int .i64 x)) g { A with mk' := x } := by
  unfold SaAt at *; exact heap_setCell_same w g 8 _ _ _ h
/-! ### what only looks -/
set_option maxRecDepth 1000000 in
set_option maxHeartbeats 8000000 in
theorem shover_any (h : SaAt w g A) {D : List (Int × Int)} (hd : Rr accK w A.dv D) :
    Calls Try.prog 52 #[.pointer (some ⟨g, 0, none⟩)] w fun e w' => e = .returned (.bool (decide (D = []))) ∧ w = w' := by
  obtain ⟨c0, _, _, _, _, c5, _⟩ := h.cells
  obtain ⟨ao, cap, hv, _, hc⟩ := hd.form
  rw [hv] at c5
  clear h hd hv
  cases D with
  | nil =>
    go_enter Try.func52, Try.ntmps52
    go_wp2_with fail
    go_ret
    exact ⟨rfl, rfl⟩
  | cons x D =>
    have hne : ((D.length : Int) + 1 == 0) = false := by rw [beq_eq_false_iff_ne]; omega
    have hne2 : ¬ ((D.length : Int) + 1 = 0) := by omega
    go_enter Try.func52, Try.ntmps52
    go_wp2_with fail
    go_ret
    exact ⟨by simp, rfl⟩
set_option maxRecDepth 1000000 in
set_option maxHeartbeats 8000000 in
theorem shmark_any (h : SaAt w g A) :
    Calls Try.prog 53 #[.pointer (some ⟨g, 0, none⟩)] w fun e w' => e = .returned (.int .i64 A.mk') ∧ w = w' := by
  obtain ⟨_, _, _, _, _, _, _, _, c8, _⟩ := h.cells
  clear h
  go_enter Try.func53, Try.ntmps53
  go_wp2_with fail
  go_ret
  exact ⟨rfl, rfl⟩
set_option maxRecDepth 1000000 in
set_option maxHeartbeats 8000000 in
theorem shvain_any (h : SaAt w g A) :
    Calls Try.prog 58 #[.pointer (some ⟨g, 0, none⟩)] w fun e w' => e = .returned (.int .i64 A.vain) ∧ w = w' := by
  obtain ⟨_, _, _, _, _, _, _, c7, _⟩ := h.cells
  clear h
  go_enter Try.func58, Try.ntmps58
  go_wp2_with fail
  go_ret
  exact ⟨rfl, rfl⟩
set_option maxRecDepth 1000000 in
set_option maxHeartbeats 8000000 in
theorem shnone_any (h : SiAt w g S) :
    Calls Try.prog 87 #[.pointer (some ⟨g, 0, none⟩)] w fun e w' => e = .returned (.bool false) ∧ w = w' := by
  obtain ⟨c0, _⟩ := h.cells
  clear h
  go_enter Try.func87, Try.ntmps87
  go_wp2_with fail
  go_ret
  exact ⟨rfl, rfl⟩
set_option maxRecDepth 1000000 in
set_option maxHeartbeats 8000000 in
theorem shlacks_any (h : SiAt w g S) {x : Int} (h0 : 0 ≤ x) (h1 : x < S.np) :
    Calls Try.prog 89 #[.pointer (some ⟨g, 0, none⟩), .int .i64 x] w fun e w' => e = .returned (.bool false) ∧ w = w' := by
  obtain ⟨_, _, _, c3, _⟩ := h.cells
  have h2 : ¬ x < 0 := by omega
  have h3 : ¬ S.np ≤ x := by omega
  clear h h0 h1
  go_enter Try.func89, Try.ntmps89
  go_wp2_with fail
  go_ret
  exact ⟨rfl, rfl⟩
/-- Does it take effect now? -/
def teB : List (Int × Int) → Bool
  | [] => true
  | x :: _ => decide (x.1 = 5)
set_option maxRecDepth 1000000 in
set_option maxHeartbeats 8000000 in
theorem shte_any (h : SaAt w g A) {D : List (Int × Int)} (hd : Rr accK w A.dv D) :
    Calls Try.prog 121 #[.pointer (some ⟨g, 0, none⟩)] w fun e w' => e = .returned (.bool (teB D)) ∧ w = w' := by
  obtain ⟨c0, _, _, _, _, c5, _⟩ := h.cells
  cases D with
  | nil =>
    obtain ⟨ao, cap, hv, _, hc⟩ := hd.form
    rw [hv] at c5
    clear h hd hv
    go_enter Try.func121, Try.ntmps121
    go_wp2_with fail
    go_ret
    exact ⟨rfl, rfl⟩
  | cons x D =>
    obtain ⟨ao, cap, hv, _, hc⟩ := hd.form
    rw [hv] at c5 hd
    obtain ⟨b, off, rfl, hb, hx⟩ := hd.at (i := 0) (x := x) rfl
    have d0 := hx 0 _ (by decide) rfl
    simp only [Nat.zero_mul, Nat.add_zero] at d0
    have hne : ((D.length : Int) + 1 == 0) = false := by rw [beq_eq_false_iff_ne]; omega
    have hpos : (0 : Int) < (D.length : Int) + 1 := by omega
    clear h hd hv hx
    by_cases h5 : x.1 = 5
    · have h5' : (x.1 == 5) = true := by simp [h5]
      have HT : teB (x :: D) = true := decide_eq_true h5
      rw [HT]
      rw [h5] at d0
      clear HT h5'
      go_enter Try.func121, Try.ntmps121
      go_wp2_with fail
      go_ret
      exact ⟨rfl, rfl⟩
    · have h5' : (x.1 == 5) = false := by rw [beq_eq_false_iff_ne]; exact h5
      have HT : teB (x :: D) = false := decide_eq_false h5
      rw [HT]
      clear HT
      go_enter Try.func121, Try.ntmps121
      go_wp2_with fail
      go_ret
      exact ⟨rfl, rfl⟩
/-! ### an act and its Shot beside their Mem -/
structure Sg (n : Nat) (w0 wr : World) (fs zs : List Nat) (a s : Nat) (S : Si) (A : Sa) (P T : List Int) (D : List (Int × Int)) (M : Mm.St) (w : World) : Prop where
  mz : Mm.MemZ n w0 zs S.p M w
  si : SiAt w s S
  sa : SaAt w a A
  am : a ∈ zs
  sm : s ∈ zs
  na : n ≤ a
  ns : n ≤ s
  ne : a ≠ s
  as' : A.s = s
  po : Rr intK w A.pv P
  tod : Rr accK w A.dv D
  ti : Own u64K w 0 53 A.tv T
  pb : ∀ g, A.pv.ownBlock = some g → g ∈ zs ∧ g ≠ a
  db : ∀ g, A.dv.ownBlock = some g → g ∈ zs ∧ g ≠ a
  tb : ∀ g, A.tv.ownBlock = some g → g ∈ zs ∧ n ≤ g ∧ g ≠ a ∧ g ≠ s ∧ g ∉ fs ∧ A.pv.ownBlock ≠ some g ∧ A.dv.ownBlock ≠ some g
  fz : ∀ j ∈ fs, j ∈ zs
  af : a ∉ fs
  fr : ∀ j ∈ fs, w.heap[j]? = wr.heap[j]?
  sz : wr.heap.size ≤ w.heap.size
variable {n a s : Nat} {w0 wr : World} {fs zs : List Nat} {P T : List Int} {D D' : List (Int × Int)} {M M' : Mm.St}
theorem Sg.call (h : Sg n w0 wr fs zs a s S A P T D M w) (hm : Mm.MemZ n w0 zs S.p M' w') (hk : Mm.KeepB n zs w w') : Sg n w0 wr fs zs a s S A P T D M' w' :=
  ⟨hm, h.si.of_block (hk.2 _ (.inr h.sm)), h.sa.of_block (hk.2 _ (.inr h.am)), h.am, h.sm, h.na, h.ns, h.ne, h.as', rr_block h.po hk.1 (fun g hg => hk.2 g (.inr (h.pb g hg).1)), rr_block h.tod hk.1 (fun g hg => hk.2 g (.inr (h.db g hg).1)), own_block h.ti (fun g hg => hk.2 g (.inr (h.tb g hg).1)), h.pb, h.db, h.tb, h.fz, h.af, fun j hj => (hk.2 j (.inr (h.fz j hj))).trans (h.fr j hj), Nat.le_trans h.sz hk.1⟩
theorem Sg.below (h : Sg n w0 wr fs zs a s S A P T D M w) (hb : Below w.heap.size w w') : Sg n w0 wr fs zs a s S A P T D M w' := h.call (h.mz.below hb) (h.mz.keep hb)
/-- A store to one of the act's numbers. -/
theorem Sg.setA (h : Sg n w0 wr fs zs a s S A P T D M w) (o : Nat) (u : Value) {A' : Sa} (hA : SaAt (w.setCell ⟨a, o, none⟩ u) a A') (hs : A'.s = A.s) (h1 : A'.pv = A.pv) (h2 : A'.tv = A.tv) (h3 : A'.dv = A.dv) : Sg n w0 wr fs zs a s S A' P T D M (w.setCell ⟨a, o, none⟩ u) := by
  have hz : w.heap.size ≤ (w.setCell ⟨a, o, none⟩ u).heap.size := Nat.le_of_eq (Mm.size_setCell _ _ _).symm
  refine ⟨h.mz.store h.am h.na o u, h.si.of_block (Below.heap_setCell _ _ _ _ (Ne.symm h.ne)), hA, h.am, h.sm, h.na, h.ns, h.ne, hs.trans h.as', ?_, ?_, ?_, by rw [h1]; exact h.pb, by rw [h3]; exact h.db, by rw [h1, h2, h3]; exact h.tb, h.fz, h.af, fun j hj => (Below.heap_setCell _ _ _ _ (fun (e : j = a) => h.af (e ▸ hj))).trans (h.fr j hj), Nat.le_trans h.sz hz⟩
  · rw [h1]; exact rr_block h.po hz (fun g hg => Below.heap_setCell _ _ _ _ (h.pb g hg).2)
  · rw [h3]; exact rr_block h.tod hz (fun g hg => Below.heap_setCell _ _ _ _ (h.db g hg).2)
  · rw [h2]; exact own_block h.ti (fun g hg => Below.heap_setCell _ _ _ _ (h.tb g hg).2.2.1)
/-- .. to what it has to do: of the same block. -/
theorem Sg.setD (h : Sg n w0 wr fs zs a s S A P T D M w) {v : Value} (hd : Rr accK w v D') (hv : v.ownBlock = A.dv.ownBlock) : Sg n w0 wr fs zs a s S { A with dv := v } P T D' M (w.setCell ⟨a, 5, none⟩ v) := by
  have hz : w.heap.size ≤ (w.setCell ⟨a, 5, none⟩ v).heap.size := Nat.le_of_eq (Mm.size_setCell _ _ _).symm
  refine ⟨h.mz.store h.am h.na 5 v, h.si.of_block (Below.heap_setCell _ _ _ _ (Ne.symm h.ne)), h.sa.set5 v, h.am, h.sm, h.na, h.ns, h.ne, h.as', ?_, ?_, ?_, h.pb, fun g hg => h.db g (hv ▸ hg), fun g hg => ?_, h.fz, h.af, fun j hj => (Below.heap_setCell _ _ _ _ (fun (e : j = a) => h.af (e ▸ hj))).trans (h.fr j hj), Nat.le_trans h.sz hz⟩
  · exact rr_block h.po hz (fun g hg => Below.heap_setCell _ _ _ _ (h.pb g hg).2)
  · exact rr_block hd hz (fun g hg => Below.heap_setCell _ _ _ _ (h.db g (hv ▸ hg)).2)
  · exact own_block h.ti (fun g hg => Below.heap_setCell _ _ _ _ (h.tb g hg).2.2.1)
  · obtain ⟨q1, q2, q3, q4, q5, q6, q7⟩ := h.tb g hg
    exact ⟨q1, q2, q3, q4, q5, q6, by show v.ownBlock ≠ some g; rw [hv]; exact q7⟩
theorem zs_lt {p : Nat} (h : MemZ n w0 zs p M w) : ∀ j ∈ zs, j < w.heap.size := by obtain ⟨_, _, _, h3, _⟩ := h; exact h3
theorem memz_grown {p : Nat} {w1 : World} {row : Option Nat} (h : MemZ n w0 zs p M w) (hg : w.grownBy w1 row) (hr : ∀ g, row = some g → g ∈ zs ∧ n ≤ g) : MemZ n w0 (List.range' w.heap.size (w1.heap.size - w.heap.size) ++ zs) p M w1 := by
  obtain ⟨τ, ⟨V, h1⟩, h2, h3, h4, h5⟩ := h
  have hz : ∀ g, w.heap.size ≤ g → τ g = 0 := by
    intro g hg
    by_cases e : τ g = 0
    · exact e
    · have := h1.tz g e; omega
  have hs := hg.size
  refine ⟨τ, ⟨V, h1.keep ⟨hs, fun i hi h0 _ => hg.block i hi (fun e => h0 (h2 i (.inr (hr i e.symm).1)))⟩ (fun _ _ => rfl) (fun i hi => by have := h1.tz i hi; omega)⟩, fun j hj => ?_, fun j hj => ?_, Nat.le_trans h4 hs, h5.grown hg h4 (fun k e => (hr k e).2)⟩
  · rcases hj with hj | hj
    · exact h2 j (.inl hj)
    · rcases List.mem_append.1 hj with hj | hj
      · exact hz j (by simp [List.mem_range'] at hj; omega)
      · exact h2 j (.inr hj)
  · rcases List.mem_append.1 hj with hj | hj
    · simp [List.mem_range'] at hj; omega
    · have := h3 j hj; omega
/-- .. to what it has read: one more. -/
theorem Sg.setT (h : Sg n w0 wr fs zs a s S A P T D M w) {w1 : World} {v : Value} {T' : List Int} (hg : w.grownBy w1 A.tv.ownBlock) (ht : Own u64K w1 0 53 v T') (hv : ∀ g, v.ownBlock = some g → A.tv.ownBlock = some g ∨ w.heap.size ≤ g) :
    ∃ zs', (∀ j ∈ zs, j ∈ zs') ∧ (∀ j ∈ zs', j ∈ zs ∨ w.heap.size ≤ j) ∧ Sg n w0 wr fs zs' a s S { A with tv := v } P T' D M (w1.setCell ⟨a, 4, none⟩ v) := by
  have hlt := zs_lt h.mz
  have hnl := h.mz.nl
  have hz : w.heap.size ≤ (w1.setCell ⟨a, 4, none⟩ v).heap.size := by rw [Mm.size_setCell]; exact hg.size
  have hk : ∀ j ∈ zs, A.tv.ownBlock ≠ some j → j ≠ a → (w1.setCell ⟨a, 4, none⟩ v).heap[j]? = w.heap[j]? := fun j hj hn hja => (Below.heap_setCell _ _ _ _ hja).trans (hg.block j (hlt j hj) (fun e => hn e.symm))
  have hva : ∀ g, v.ownBlock = some g → g ≠ a := fun g hg => (hv g hg).elim (fun e => (h.tb g e).2.2.1) (fun e => by have := h.sa.lt; omega)
  have hm := memz_grown h.mz hg (fun g e => ⟨(h.tb g e).1, (h.tb g e).2.1⟩)
  have hone : ∀ j ∈ zs, j ∈ List.range' w.heap.size (w1.heap.size - w.heap.size) ++ zs := Rg.all_old
  have hta : A.tv.ownBlock ≠ some a := fun e => (h.tb a e).2.2.1 rfl
  refine ⟨_, hone, Rg.all_inv, hm.store (hone a h.am) h.na 4 v, h.si.of_block (hk s h.sm (fun e => (h.tb s e).2.2.2.1 rfl) (Ne.symm h.ne)), (h.sa.of_block (hg.block a (hlt a h.am) (fun e => hta e.symm))).set4 v, hone a h.am, hone s h.sm, h.na, h.ns, h.ne, h.as', rr_block h.po hz (fun g hgg => hk g (h.pb g hgg).1 (fun e => (h.tb g e).2.2.2.2.2.1 hgg) (h.pb g hgg).2), rr_block h.tod hz (fun g hgg => hk g (h.db g hgg).1 (fun e => (h.tb g e).2.2.2.2.2.2 hgg) (h.db g hgg).2), own_block ht (fun g hgg => Below.heap_setCell _ _ _ _ (hva g hgg)), fun g hgg => ⟨hone g (h.pb g hgg).1, (h.pb g hgg).2⟩, fun g hgg => ⟨hone g (h.db g hgg).1, (h.db g hgg).2⟩, fun g hgg => ?_, fun j hj => hone j (h.fz j hj), h.af, fun j hj => (hk j (h.fz j hj) (fun e => (h.tb j e).2.2.2.2.1 hj) (fun (e : j = a) => h.af (e ▸ hj))).trans (h.fr j hj), Nat.le_trans h.sz hz⟩
  rcases hv g hgg with e | e
  · obtain ⟨q1, q2, q3, q4, q5, q6, q7⟩ := h.tb g e
    exact ⟨hone g q1, q2, q3, q4, q5, q6, q7⟩
  · have hg1 : g < w1.heap.size := (World.ownsRow.lt ht g hgg).2
    exact ⟨Rg.all_mem e hg1, by omega, hva g hgg, fun e' => by have := hlt s h.sm; omega, fun hf => by have := hlt g (h.fz g hf); omega, fun e' => by have := hlt g (h.pb g e').1; omega, fun e' => by have := hlt g (h.db g e').1; omega⟩
end
end Go.Proofs.Ytjmkcgkkgamafaa.Sh
