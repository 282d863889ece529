/-
  PACKAGE claim: counts: by what all that is held is another one.
  PACKAGE claim: compare; the library's sort at a Batch.
-/
import Derived.Test.YtdllgeanmlmmfaaGreatDoorJoined8
import Derived.Test.YtdllgeanmlmmfaaGreatDoorBatchMerge
import Derived.Test.YtdllgeanmlmmfaaGreatDoorJoined5
namespace Go.Proofs.YtdllgeanmlmmfaaGreatDoor.Cl
open Go.RowKit Gr
set_option linter.unusedVariables false

theorem ch_new (w : World) (p t d : Int) (T : TypeId) (hw : (⟨p, t, d⟩ : Batch.Ch).Wf) : Batch.Sl (w.alloc (.cells #[.int .i64 p, .int .u64 t, .int .i64 d] T)) (.slice (some ⟨w.heap.size, 0, none⟩) 1 1) [⟨p, t, d⟩] := by
  have h := heap_alloc_new w (.cells #[.int .i64 p, .int .u64 t, .int .i64 d] T)
  refine ⟨_, _, rfl, .inr ⟨w.heap.size, 0, rfl, fun i x hx => ?_⟩, Nat.le_refl _, by decide, fun x hx => by simp at hx; subst hx; exact hw⟩
  cases i with
  | succ k => simp at hx
  | zero =>
    simp at hx
    subst hx
    obtain ⟨c0, c1, c2, _⟩ := trip_cells h
    exact ⟨c0, c1, c2⟩
theorem dB (d : Int) (h : d = 1 ∨ d = -1) : -9223372036854775808 ≤ d ∧ d ≤ 9223372036854775807 := by omega
theorem one_sorted (x : Batch.Ch) : Batch.Sorted [x] := by unfold Batch.Sorted; simp
theorem nil_sorted : Batch.Sorted [] := List.Pairwise.nil

set_option maxRecDepth 1000000 in
set_option maxHeartbeats 8000000 in
theorem counts_open {w : World} {x : Ed} (t : Int) (hw : x.Wf) (ht0 : 0 ≤ t) (ht1 : t ≤ 18446744073709551615) :
    Calls Tryz.prog 103 #[.int .i64 0, x.agg, .int .u64 t] w fun e w' => ∃ v, e = .returned v ∧ Batch.Own w' w.heap.size 103 v (Batch.sumsR ([⟨x.t, t, 1⟩] ++ [])) ∧ Below w.heap.size w w' := by
  have HA := Lib.hid (fun W => ch_new W x.t t 1 103 ⟨hw.t0, hw.t1, ht0, ht1, (dB 1 (.inl rfl)).1, (dB 1 (.inl rfl)).2⟩)
  obtain ⟨xf, xt, xa⟩ := x
  clear hw
  have hb0 : Below w.heap.size w (w.alloc (.cells #[.int .i64 xf, .int .i64 xt, .int .u64 xa] 107)) := (Below.refl _ _).alloc (Nat.le_refl _) _
  have HB0 := Lib.hid hb0
  clear hb0
  go_enter Tryz.func103, Tryz.ntmps103
  go_wp2_with fail
  go_at_call 41
  obtain ⟨w1, hw1⟩ : ∃ w1, w1 = (w.alloc (.cells #[.int .i64 xf, .int .i64 xt, .int .u64 xa] 107)).alloc (.cells #[.int .i64 xt, .int .u64 t, .int .i64 1] 103) := ⟨_, rfl⟩
  rw [← hw1]
  have HA1 := Lib.hid (HA.out (w.alloc (.cells #[.int .i64 xf, .int .i64 xt, .int .u64 xa] 107)))
  rw [← hw1] at HA1
  have HB1 := Lib.hid (show Below w.heap.size w w1 by rw [hw1]; exact HB0.out.alloc (by simp) _)
  clear hw1
  refine (Batch.merge_any (by simpa using HA1.out) (Batch.Sl.nil w1) (one_sorted _) nil_sorted (by simp)).mono ?_
  rintro e w2 ⟨v2, rfl, ho, hb⟩
  have HO := Lib.hid (ho.mono HB1.out.size)
  have HB2 := Lib.hid (HB1.out.trans (hb.mono HB1.out.size))
  clear ho hb
  go_wp2_with fail
  go_ret
  exact ⟨_, rfl, HO.out, HB2.out⟩

set_option maxRecDepth 1000000 in
set_option maxHeartbeats 8000000 in
theorem counts_close {w : World} {x : Ed} (t : Int) (hw : x.Wf) :
    Calls Tryz.prog 103 #[.int .i64 2, x.agg, .int .u64 t] w fun e w' => ∃ v, e = .returned v ∧ Batch.Own w' w.heap.size 103 v (Batch.sumsR ([] ++ [⟨x.t, x.a, -1⟩])) ∧ Below w.heap.size w w' := by
  have HA := Lib.hid (fun W => ch_new W x.t x.a (-1) 103 ⟨hw.t0, hw.t1, hw.a0, hw.a1, (dB (-1) (.inr rfl)).1, (dB (-1) (.inr rfl)).2⟩)
  obtain ⟨xf, xt, xa⟩ := x
  clear hw
  have hb0 : Below w.heap.size w (w.alloc (.cells #[.int .i64 xf, .int .i64 xt, .int .u64 xa] 107)) := (Below.refl _ _).alloc (Nat.le_refl _) _
  have HB0 := Lib.hid hb0
  clear hb0
  go_enter Tryz.func103, Tryz.ntmps103
  go_wp2_with fail
  go_at_call 41
  obtain ⟨w1, hw1⟩ : ∃ w1, w1 = (w.alloc (.cells #[.int .i64 xf, .int .i64 xt, .int .u64 xa] 107)).alloc (.cells #[.int .i64 xt, .int .u64 xa, .int .i64 (-1)] 103) := ⟨_, rfl⟩
  rw [← hw1]
  have HA1 := Lib.hid (HA.out (w.alloc (.cells #[.int .i64 xf, .int .i64 xt, .int .u64 xa] 107)))
  rw [← hw1] at HA1
  have HB1 := Lib.hid (show Below w.heap.size w w1 by rw [hw1]; exact HB0.out.alloc (by simp) _)
  clear hw1
  refine (Batch.merge_any (Batch.Sl.nil w1) (by simpa using HA1.out) nil_sorted (one_sorted _) (by simp)).mono ?_
  rintro e w2 ⟨v2, rfl, ho, hb⟩
  have HO := Lib.hid (ho.mono HB1.out.size)
  have HB2 := Lib.hid (HB1.out.trans (hb.mono HB1.out.size))
  clear ho hb
  go_wp2_with fail
  go_ret
  exact ⟨_, rfl, HO.out, HB2.out⟩

set_option maxRecDepth 1000000 in
set_option maxHeartbeats 8000000 in
theorem counts_adv {w : World} {x : Ed} (t : Int) (hw : x.Wf) (ht0 : 0 ≤ t) (ht1 : t ≤ 18446744073709551615) :
    Calls Tryz.prog 103 #[.int .i64 1, x.agg, .int .u64 t] w fun e w' => ∃ v, e = .returned v ∧ Batch.Own w' w.heap.size 103 v (Batch.sumsR ([⟨x.t, t, 1⟩] ++ [⟨x.t, x.a, -1⟩])) ∧ Below w.heap.size w w' := by
  have HA := Lib.hid (fun W => ch_new W x.t t 1 103 ⟨hw.t0, hw.t1, ht0, ht1, (dB 1 (.inl rfl)).1, (dB 1 (.inl rfl)).2⟩)
  have HC := Lib.hid (fun W => ch_new W x.t x.a (-1) 103 ⟨hw.t0, hw.t1, hw.a0, hw.a1, (dB (-1) (.inr rfl)).1, (dB (-1) (.inr rfl)).2⟩)
  obtain ⟨xf, xt, xa⟩ := x
  clear hw
  have hb0 : Below w.heap.size w (w.alloc (.cells #[.int .i64 xf, .int .i64 xt, .int .u64 xa] 107)) := (Below.refl _ _).alloc (Nat.le_refl _) _
  have HB0 := Lib.hid hb0
  clear hb0
  go_enter Tryz.func103, Tryz.ntmps103
  go_wp2_with fail
  go_at_call 41
  obtain ⟨w0, hw0⟩ : ∃ w0, w0 = (w.alloc (.cells #[.int .i64 xf, .int .i64 xt, .int .u64 xa] 107)).alloc (.cells #[.int .i64 xt, .int .u64 t, .int .i64 1] 103) := ⟨_, rfl⟩
  obtain ⟨w1, hw1⟩ : ∃ w1, w1 = w0.alloc (.cells #[.int .i64 xt, .int .u64 xa, .int .i64 (-1)] 103) := ⟨_, rfl⟩
  have hs0 : w0.heap.size = w.heap.size + 1 + 1 := by rw [hw0]; simp
  have HA1 := Lib.hid (HA.out (w.alloc (.cells #[.int .i64 xf, .int .i64 xt, .int .u64 xa] 107)))
  have HC1 := Lib.hid (HC.out w0)
  have hbw0 : Below w.heap.size w w0 := by rw [hw0]; exact HB0.out.alloc (by simp) _
  rw [← hw0] at HA1 ⊢
  rw [← hw1] at HC1 ⊢
  have hbw1 : Below w0.heap.size w0 w1 := by rw [hw1]; exact (Below.refl _ _).alloc (Nat.le_refl _) _
  have HB1 := Lib.hid (hbw0.trans (hbw1.mono hbw0.size))
  have HA2 := Lib.hid (HA1.out.below hbw1)
  rw [hs0] at HC1
  clear hw0 hw1 hbw0 hbw1 hs0
  refine (Batch.merge_any (by simpa using HA2.out) HC1.out (one_sorted _) (one_sorted _) (by simp)).mono ?_
  rintro e w2 ⟨v2, rfl, ho, hb⟩
  have HO := Lib.hid (ho.mono HB1.out.size)
  have HB2 := Lib.hid (HB1.out.trans (hb.mono HB1.out.size))
  clear ho hb
  go_wp2_with fail
  go_ret
  exact ⟨_, rfl, HO.out, HB2.out⟩
end Go.Proofs.YtdllgeanmlmmfaaGreatDoor.Cl
namespace Go.Proofs.YtdllgeanmlmmfaaGreatDoor.Cl
open Go.RowKit Go.Sort Go.Shelf Go.Lib Batch
set_option linter.unusedVariables false

set_option maxRecDepth 100000 in
set_option maxHeartbeats 2000000 in
theorem compareC_any (x y : Ch) (w : World) : Calls Tryz.prog 79 #[x.agg, y.agg] w fun e w' => e = .returned (.int .i64 (ordI x y)) ∧ ∃ q os, w' = grow (w.drewN q) os := by
  obtain ⟨p, t, d⟩ := x
  obtain ⟨p', t', d'⟩ := y
  have hr := Lib.hid (show ordI ⟨p, t, d⟩ ⟨p', t', d'⟩ = orI (cmpI p p') (cmpI t t') from rfl)
  go_enter Tryz.func79, Tryz.ntmps79
  go_wp2_with fail
  go_region_held3 (fun w' => w'.cell? ⟨w.heap.size, 0, none⟩ = some (.int .i64 p) ∧ w'.cell? ⟨w.heap.size, 1, none⟩ = some (.int .u64 t) ∧ w'.cell? ⟨w.heap.size + 1, 0, none⟩ = some (.int .i64 p') ∧ w'.cell? ⟨w.heap.size + 1, 1, none⟩ = some (.int .u64 t'))
    (go_keep)
    (first
      | (go_at_call 113; refine (cmpInt_any _ _ _).mono ?_; rintro e w' ⟨rfl, rfl⟩)
      | (go_at_call 114; refine (cmpU_any _ _ _).mono ?_; rintro e w' ⟨rfl, rfl⟩)
      | (go_at_call 112; refine (or_any' (cmpI p p') (cmpI t t') (w.heap.size + 1 + 1) _ (new2 _ _ _ _ _ _)).mono ?_; rintro e w' ⟨rfl, rfl⟩))
  go_wp2_with fail
  go_ret
  exact ⟨by rw [hr.out]; rfl, grow3 _ _ _ _⟩
theorem compareC_below (x y : Ch) (w : World) : Calls Tryz.prog 79 #[x.agg, y.agg] w fun e w' => e = .returned (.int .i64 (ordI x y)) ∧ Below w.heap.size w w' :=
  (compareC_any x y w).mono fun e w' ⟨he, q, os, hw⟩ => ⟨he, by
    subst hw
    refine ⟨rfl, rfl, rfl, ?_, fun k hk => ?_⟩
    · show (w.drewN q).heap.size ≤ _
      simp [grow]
    · exact Go.Sort.heap_grow_old _ _ (by simpa using hk)⟩
theorem cmpLaysC (blk off size : Nat) (w : World) : CmpLays Tryz.prog 79 #[] Ch.cells 3 ordI blk off size w :=
  fun _ _ _ _ x y => compareC_any x y _
theorem ins_nil (f : Value) (w : World) : Calls Tryz.prog 133 #[.slice none 0 0, .int .i64 0, .int .i64 0, f] w fun e w' => e = .returned (.tuple #[]) ∧ w = w' := by
  go_enter Tryz.func133, Tryz.ntmps133
  go_wp2
  refine wp_loop_rounds 1 ?_
  rw [rounds_succ]
  go_wp2
  go_end0
  exact ⟨rfl, rfl⟩
set_option maxRecDepth 1000000 in
set_option maxHeartbeats 4000000 in
theorem pdq_nil (k : Int) (f : Value) (w : World) : Calls Tryz.prog 110 #[.slice none 0 0, .int .i64 0, .int .i64 0, .int .i64 k, f] w fun e w' => e = .returned (.tuple #[]) ∧ w = w' := by
  go_enter Tryz.func110, Tryz.ntmps110
  go_wp2
  refine wp_loop_rounds 1 ?_
  rw [rounds_succ]
  go_wp2_with (go_at_call 133; refine (ins_nil f _).mono ?_; rintro e w' ⟨rfl, rfl⟩)
  first
    | (go_ret; exact ⟨rfl, rfl⟩)
    | exact bodyPost_ret (v := .tuple #[]) (by simp [results, Tryz.results110, go_sem]) rfl ⟨rfl, rfl⟩
theorem bitsLen (n : Nat) (hn : n < 4611686018427387904) (w : World) : Calls Tryz.prog 111 #[.int .u64 (n : Int)] w fun e w' => e = .returned (.int .i64 (Lib.bitLen n : Nat)) ∧ w' = w := by
  have h := Any.bits_Len (SlLaysF0.n15.bits (P := Tryz.prog) (ρ := Tryz.sortCh_ren) { Tryz.sortCh with }) (n : Int) w (by omega) (by omega)
  rwa [Int.toNat_natCast] at h
set_option maxRecDepth 1000000 in
set_option maxHeartbeats 4000000 in
theorem sortB_any {w : World} {B : Nat} {T : TypeId} {v : Value} {l : List Ch} (h : Own w B T v l) (hB : B ≤ w.heap.size) (hl : l.length ≤ 100000) :
    Calls Tryz.prog 78 #[v, .func (.func 79) #[] #[]] w fun e w' => e = .returned (.tuple #[]) ∧ ∃ l' : List Ch, l'.Perm l ∧ Sorted l' ∧ Own w' B T v l' ∧ Below B w w' := by
  rcases h.form with ⟨rfl, rfl⟩ | ⟨g, cap, rfl, hb, hlt, _, _⟩
  · have hbl := bitsLen 0 (by decide)
    have hb0 : Lib.bitLen 0 = 0 := by rfl
    rw [hb0] at hbl
    have HH := Lib.hid h
    clear h hl
    go_enter Tryz.func78, Tryz.ntmps78
    go_wp2_with (first | (go_at_call 111; refine (hbl _).mono ?_; rintro e w' ⟨rfl, rfl⟩) | (go_at_call 110; refine (pdq_nil _ _ _).mono ?_; rintro e w' ⟨rfl, rfl⟩))
    go_end0
    exact ⟨rfl, [], List.Perm.refl _, List.Pairwise.nil, HH.out, Below.refl _ _⟩
  · have eg : ∀ args w, (callFunc 79 args).run Tryz.prog w = .ok (.enter 79 args) w := enters_of Tryz.func79 (by kernel_rfl) rfl
    have hsz : l.toArray.size = l.length := by simp
    have hlim : Lib.bitLen l.length < 4611686018427387904 := Nat.lt_of_le_of_lt (Lib.bitLen_le l.length 62 (by omega) (by omega)) (by omega)
    have hp := AnyQ.pdqsortCmpFunc_all (P := Tryz.prog) (ρ := Tryz.sortCh_ren) { Tryz.sortCh with } 3 Tryz.isAgg103 Tryz.sizeOf103 Ch.cells ordI 79 #[] swoOrd g 0 cap l.toArray w eg (cmpLaysC g 0 l.toArray.size w) ⟨fun _ => rfl, fun x v hv => by simp [Ch.cells] at hv; rcases hv with rfl | rfl | rfl <;> rfl, own_holds h, hlt⟩ (l.length + 1) 0 l.length (Lib.bitLen l.length) l.toArray w (by omega) rfl (SWK.start (own_holds h)) (Nat.zero_le _) (by rw [hsz]; exact Nat.le_refl _) (by rw [hsz]; omega) hlim (Or.inl rfl)
    rw [hsz] at hp
    have hbl := bitsLen l.length (by omega)
    have wr : IntKind.u64.wrap (l.length : Int) = l.length := by simp [IntKind.wrap, IntKind.bits, IntKind.signed]; omega
    have HH := Lib.hid h
    have HP := Lib.hid hp
    have HSo := Lib.hid (pdq_sorts (ltOf ordI) swoOrd l.toArray 0 l.toArray.size (Lib.bitLen l.length) true true (Nat.zero_le _) (Nat.le_refl _) (Or.inl rfl))
    have hbb : B ≤ g := hb
    clear h hp hb hlt hlim eg
    go_enter Tryz.func78, Tryz.ntmps78
    go_wp2_with (first | (go_at_call 111; refine (hbl _).mono ?_; rintro e w' ⟨rfl, rfl⟩) | (go_at_call 110; refine HP.out.mono ?_; rintro e w' ⟨rfl, n, os, rfl⟩))
    go_end0
    have hs := HSo.out
    rw [hsz] at hs
    generalize pdq (ltOf ordI) l.toArray 0 l.length (Lib.bitLen l.length) true true = d' at hs
    have hd : d'.size = l.length := by have := hs.1.1; rw [hsz] at this; exact this
    refine ⟨rfl, d'.toList, ?_, ?_, sort_own HH.out n d' os hd, sort_below hbb n d' os hB⟩
    · have := hs.1.2.2
      rw [← hsz, Array.extract_size, hsz, ← hd, Array.extract_size] at this
      simpa using this
    · have h2 := hs.2
      rw [← hd] at h2
      exact sorted_of h2
end Go.Proofs.YtdllgeanmlmmfaaGreatDoor.Cl
