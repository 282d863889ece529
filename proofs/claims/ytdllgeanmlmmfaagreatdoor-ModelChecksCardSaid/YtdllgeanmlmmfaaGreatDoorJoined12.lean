/-
  PACKAGE claim: counts: by what all that is held is another one.
  PACKAGE claim: compare; the library's sort at a Batch.
  PACKAGE claim, PLAIN MATHEMATICS: what may be changed by what is held.
-/
import Derived.Test.YtdllgeanmlmmfaaGreatDoorJoined11
import Derived.Test.YtdllgeanmlmmfaaGreatDoorJoined7
import Derived.Test.YtdllgeanmlmmfaaGreatDoorJoined6
import Derived.Test.YtdllgeanmlmmfaaGreatDoorClMath
import Derived.Test.YtdllgeanmlmmfaaGreatDoorJoined10
namespace Go.Proofs.YtdllgeanmlmmfaaGreatDoor.Cl
open Go.RowKit Gr
set_option linter.unusedVariables false

theorem ch_new (w : World) (p t d : Int) (T : TypeId) (hw : (⟨p, t, d⟩ : Batch.Ch).Wf) : Batch.Sl (w.alloc (.cells #[.int .i64 p, .int .u64 t, .int .i64 d] T)) (.slice (some ⟨w.heap.size, 0, none⟩) 1 1) [⟨p, t, d⟩] := by
  have h := heap_alloc_new w (.cells #[.int .i64 p, .int .u64 t, .int .i64 d] T)
  refine ⟨_, _, rfl, .inr ⟨w.heap.size, 0, rfl, fun i x hx => ?_⟩, Nat.le_refl _, by decide, fun x hx => by simp at hx; subst hx; exact hw⟩
  cases i with
  | succ k => simp at hx
  | zero =>
    simp at hx
    subst hx
    obtain ⟨c0, c1, c2, _⟩ := trip_cells h
    exact ⟨c0, c1, c2⟩
theorem dB (d : Int) (h : d = 1 ∨ d = -1) : -9223372036854775808 ≤ d ∧ d ≤ 9223372036854775807 := by omega
theorem one_sorted (x : Batch.Ch) : Batch.Sorted [x] := by unfold Batch.Sorted; simp
theorem nil_sorted : Batch.Sorted [] := List.Pairwise.nil

set_option maxRecDepth 1000000 in
set_option maxHeartbeats 8000000 in
theorem counts_open {w : World} {x : Ed} (t : Int) (hw : x.Wf) (ht0 : 0 ≤ t) (ht1 : t ≤ 18446744073709551615) :
    Calls Tryz.prog 103 #[.int .i64 0, x.agg, .int .u64 t] w fun e w' => ∃ v, e = .returned v ∧ Batch.Own w' w.heap.size 103 v (Batch.sumsR ([⟨x.t, t, 1⟩] ++ [])) ∧ Below w.heap.size w w' := by
  have HA := Lib.hid (fun W => ch_new W x.t t 1 103 ⟨hw.t0, hw.t1, ht0, ht1, (dB 1 (.inl rfl)).1, (dB 1 (.inl rfl)).2⟩)
  obtain ⟨xf, xt, xa⟩ := x
  clear hw
  have hb0 : Below w.heap.size w (w.alloc (.cells #[.int .i64 xf, .int .i64 xt, .int .u64 xa] 107)) := (Below.refl _ _).alloc (Nat.le_refl _) _
  have HB0 := Lib.hid hb0
  clear hb0
  go_enter Tryz.func103, Tryz.ntmps103
  go_wp2_with fail
  go_at_call 41
  obtain ⟨w1, hw1⟩ : ∃ w1, w1 = (w.alloc (.cells #[.int .i64 xf, .int .i64 xt, .int .u64 xa] 107)).alloc (.cells #[.int .i64 xt, .int .u64 t, .int .i64 1] 103) := ⟨_, rfl⟩
  rw [← hw1]
  have HA1 := Lib.hid (HA.out (w.alloc (.cells #[.int .i64 xf, .int .i64 xt, .int .u64 xa] 107)))
  rw [← hw1] at HA1
  have HB1 := Lib.hid (show Below w.heap.size w w1 by rw [hw1]; exact HB0.out.alloc (by simp) _)
  clear hw1
  refine (Batch.merge_any (by simpa using HA1.out) (Batch.Sl.nil w1) (one_sorted _) nil_sorted (by simp)).mono ?_
  rintro e w2 ⟨v2, rfl, ho, hb⟩
  have HO := Lib.hid (ho.mono HB1.out.size)
  have HB2 := Lib.hid (HB1.out.trans (hb.mono HB1.out.size))
  clear ho hb
  go_wp2_with fail
  go_ret
  exact ⟨_, rfl, HO.out, HB2.out⟩

set_option maxRecDepth 1000000 in
set_option maxHeartbeats 8000000 in
theorem counts_close {w : World} {x : Ed} (t : Int) (hw : x.Wf) :
    Calls Tryz.prog 103 #[.int .i64 2, x.agg, .int .u64 t] w fun e w' => ∃ v, e = .returned v ∧ Batch.Own w' w.heap.size 103 v (Batch.sumsR ([] ++ [⟨x.t, x.a, -1⟩])) ∧ Below w.heap.size w w' := by
  have HA := Lib.hid (fun W => ch_new W x.t x.a (-1) 103 ⟨hw.t0, hw.t1, hw.a0, hw.a1, (dB (-1) (.inr rfl)).1, (dB (-1) (.inr rfl)).2⟩)
  obtain ⟨xf, xt, xa⟩ := x
  clear hw
  have hb0 : Below w.heap.size w (w.alloc (.cells #[.int .i64 xf, .int .i64 xt, .int .u64 xa] 107)) := (Below.refl _ _).alloc (Nat.le_refl _) _
  have HB0 := Lib.hid hb0
  clear hb0
  go_enter Tryz.func103, Tryz.ntmps103
  go_wp2_with fail
  go_at_call 41
  obtain ⟨w1, hw1⟩ : ∃ w1, w1 = (w.alloc (.cells #[.int .i64 xf, .int .i64 xt, .int .u64 xa] 107)).alloc (.cells #[.int .i64 xt, .int .u64 xa, .int .i64 (-1)] 103) := ⟨_, rfl⟩
  rw [← hw1]
  have HA1 := Lib.hid (HA.out (w.alloc (.cells #[.int .i64 xf, .int .i64 xt, .int .u64 xa] 107)))
  rw [← hw1] at HA1
  have HB1 := Lib.hid (show Below w.heap.size w w1 by rw [hw1]; exact HB0.out.alloc (by simp) _)
  clear hw1
  refine (Batch.merge_any (Batch.Sl.nil w1) (by simpa using HA1.out) nil_sorted (one_sorted _) (by simp)).mono ?_
  rintro e w2 ⟨v2, rfl, ho, hb⟩
  have HO := Lib.hid (ho.mono HB1.out.size)
  have HB2 := Lib.hid (HB1.out.trans (hb.mono HB1.out.size))
  clear ho hb
  go_wp2_with fail
  go_ret
  exact ⟨_, rfl, HO.out, HB2.out⟩

set_option maxRecDepth 1000000 in
set_option maxHeartbeats 8000000 in
theorem counts_adv {w : World} {x : Ed} (t : Int) (hw : x.Wf) (ht0 : 0 ≤ t) (ht1 : t ≤ 18446744073709551615) :
    Calls Tryz.prog 103 #[.int .i64 1, x.agg, .int .u64 t] w fun e w' => ∃ v, e = .returned v ∧ Batch.Own w' w.heap.size 103 v (Batch.sumsR ([⟨x.t, t, 1⟩] ++ [⟨x.t, x.a, -1⟩])) ∧ Below w.heap.size w w' := by
  have HA := Lib.hid (fun W => ch_new W x.t t 1 103 ⟨hw.t0, hw.t1, ht0, ht1, (dB 1 (.inl rfl)).1, (dB 1 (.inl rfl)).2⟩)
  have HC := Lib.hid (fun W => ch_new W x.t x.a (-1) 103 ⟨hw.t0, hw.t1, hw.a0, hw.a1, (dB (-1) (.inr rfl)).1, (dB (-1) (.inr rfl)).2⟩)
  obtain ⟨xf, xt, xa⟩ := x
  clear hw
  have hb0 : Below w.heap.size w (w.alloc (.cells #[.int .i64 xf, .int .i64 xt, .int .u64 xa] 107)) := (Below.refl _ _).alloc (Nat.le_refl _) _
  have HB0 := Lib.hid hb0
  clear hb0
  go_enter Tryz.func103, Tryz.ntmps103
  go_wp2_with fail
  go_at_call 41
  obtain ⟨w0, hw0⟩ : ∃ w0, w0 = (w.alloc (.cells #[.int .i64 xf, .int .i64 xt, .int .u64 xa] 107)).alloc (.cells #[.int .i64 xt, .int .u64 t, .int .i64 1] 103) := ⟨_, rfl⟩
  obtain ⟨w1, hw1⟩ : ∃ w1, w1 = w0.alloc (.cells #[.int .i64 xt, .int .u64 xa, .int .i64 (-1)] 103) := ⟨_, rfl⟩
  have hs0 : w0.heap.size = w.heap.size + 1 + 1 := by rw [hw0]; simp
  have HA1 := Lib.hid (HA.out (w.alloc (.cells #[.int .i64 xf, .int .i64 xt, .int .u64 xa] 107)))
  have HC1 := Lib.hid (HC.out w0)
  have hbw0 : Below w.heap.size w w0 := by rw [hw0]; exact HB0.out.alloc (by simp) _
  rw [← hw0] at HA1 ⊢
  rw [← hw1] at HC1 ⊢
  have hbw1 : Below w0.heap.size w0 w1 := by rw [hw1]; exact (Below.refl _ _).alloc (Nat.le_refl _) _
  have HB1 := Lib.hid (hbw0.trans (hbw1.mono hbw0.size))
  have HA2 := Lib.hid (HA1.out.below hbw1)
  rw [hs0] at HC1
  clear hw0 hw1 hbw0 hbw1 hs0
  refine (Batch.merge_any (by simpa using HA2.out) HC1.out (one_sorted _) (one_sorted _) (by simp)).mono ?_
  rintro e w2 ⟨v2, rfl, ho, hb⟩
  have HO := Lib.hid (ho.mono HB1.out.size)
  have HB2 := Lib.hid (HB1.out.trans (hb.mono HB1.out.size))
  clear ho hb
  go_wp2_with fail
  go_ret
  exact ⟨_, rfl, HO.out, HB2.out⟩
end Go.Proofs.YtdllgeanmlmmfaaGreatDoor.Cl
namespace Go.Proofs.YtdllgeanmlmmfaaGreatDoor.Cl
open Go.RowKit Go.Sort Go.Shelf Go.Lib Batch
set_option linter.unusedVariables false

set_option maxRecDepth 100000 in
set_option maxHeartbeats 2000000 in
theorem compareC_any (x y : Ch) (w : World) : Calls Tryz.prog 79 #[x.agg, y.agg] w fun e w' => e = .returned (.int .i64 (ordI x y)) ∧ ∃ q os, w' = grow (w.drewN q) os := by
  obtain ⟨p, t, d⟩ := x
  obtain ⟨p', t', d'⟩ := y
  have hr := Lib.hid (show ordI ⟨p, t, d⟩ ⟨p', t', d'⟩ = orI (cmpI p p') (cmpI t t') from rfl)
  go_enter Tryz.func79, Tryz.ntmps79
  go_wp2_with fail
  go_region_held3 (fun w' => w'.cell? ⟨w.heap.size, 0, none⟩ = some (.int .i64 p) ∧ w'.cell? ⟨w.heap.size, 1, none⟩ = some (.int .u64 t) ∧ w'.cell? ⟨w.heap.size + 1, 0, none⟩ = some (.int .i64 p') ∧ w'.cell? ⟨w.heap.size + 1, 1, none⟩ = some (.int .u64 t'))
    (go_keep)
    (first
      | (go_at_call 113; refine (cmpInt_any _ _ _).mono ?_; rintro e w' ⟨rfl, rfl⟩)
      | (go_at_call 114; refine (cmpU_any _ _ _).mono ?_; rintro e w' ⟨rfl, rfl⟩)
      | (go_at_call 112; refine (or_any' (cmpI p p') (cmpI t t') (w.heap.size + 1 + 1) _ (new2 _ _ _ _ _ _)).mono ?_; rintro e w' ⟨rfl, rfl⟩))
  go_wp2_with fail
  go_ret
  exact ⟨by rw [hr.out]; rfl, grow3 _ _ _ _⟩
theorem compareC_below (x y : Ch) (w : World) : Calls Tryz.prog 79 #[x.agg, y.agg] w fun e w' => e = .returned (.int .i64 (ordI x y)) ∧ Below w.heap.size w w' :=
  (compareC_any x y w).mono fun e w' ⟨he, q, os, hw⟩ => ⟨he, by
    subst hw
    refine ⟨rfl, rfl, rfl, ?_, fun k hk => ?_⟩
    · show (w.drewN q).heap.size ≤ _
      simp [grow]
    · exact Go.Sort.heap_grow_old _ _ (by simpa using hk)⟩
theorem cmpLaysC (blk off size : Nat) (w : World) : CmpLays Tryz.prog 79 #[] Ch.cells 3 ordI blk off size w :=
  fun _ _ _ _ x y => compareC_any x y _
theorem ins_nil (f : Value) (w : World) : Calls Tryz.prog 133 #[.slice none 0 0, .int .i64 0, .int .i64 0, f] w fun e w' => e = .returned (.tuple #[]) ∧ w = w' := by
  go_enter Tryz.func133, Tryz.ntmps133
  go_wp2
  refine wp_loop_rounds 1 ?_
  rw [rounds_succ]
  go_wp2
  go_end0
  exact ⟨rfl, rfl⟩
set_option maxRecDepth 1000000 in
set_option maxHeartbeats 4000000 in
theorem pdq_nil (k : Int) (f : Value) (w : World) : Calls Tryz.prog 110 #[.slice none 0 0, .int .i64 0, .int .i64 0, .int .i64 k, f] w fun e w' => e = .returned (.tuple #[]) ∧ w = w' := by
  go_enter Tryz.func110, Tryz.ntmps110
  go_wp2
  refine wp_loop_rounds 1 ?_
  rw [rounds_succ]
  go_wp2_with (go_at_call 133; refine (ins_nil f _).mono ?_; rintro e w' ⟨rfl, rfl⟩)
  first
    | (go_ret; exact ⟨rfl, rfl⟩)
    | exact bodyPost_ret (v := .tuple #[]) (by simp [results, Tryz.results110, go_sem]) rfl ⟨rfl, rfl⟩
theorem bitsLen (n : Nat) (hn : n < 4611686018427387904) (w : World) : Calls Tryz.prog 111 #[.int .u64 (n : Int)] w fun e w' => e = .returned (.int .i64 (Lib.bitLen n : Nat)) ∧ w' = w := by
  have h := Any.bits_Len (SlLaysF0.n15.bits (P := Tryz.prog) (ρ := Tryz.sortCh_ren) { Tryz.sortCh with }) (n : Int) w (by omega) (by omega)
  rwa [Int.toNat_natCast] at h
set_option maxRecDepth 1000000 in
set_option maxHeartbeats 4000000 in
theorem sortB_any {w : World} {B : Nat} {T : TypeId} {v : Value} {l : List Ch} (h : Own w B T v l) (hB : B ≤ w.heap.size) (hl : l.length ≤ 100000) :
    Calls Tryz.prog 78 #[v, .func (.func 79) #[] #[]] w fun e w' => e = .returned (.tuple #[]) ∧ ∃ l' : List Ch, l'.Perm l ∧ Sorted l' ∧ Own w' B T v l' ∧ Below B w w' := by
  rcases h.form with ⟨rfl, rfl⟩ | ⟨g, cap, rfl, hb, hlt, _, _⟩
  · have hbl := bitsLen 0 (by decide)
    have hb0 : Lib.bitLen 0 = 0 := by rfl
    rw [hb0] at hbl
    have HH := Lib.hid h
    clear h hl
    go_enter Tryz.func78, Tryz.ntmps78
    go_wp2_with (first | (go_at_call 111; refine (hbl _).mono ?_; rintro e w' ⟨rfl, rfl⟩) | (go_at_call 110; refine (pdq_nil _ _ _).mono ?_; rintro e w' ⟨rfl, rfl⟩))
    go_end0
    exact ⟨rfl, [], List.Perm.refl _, List.Pairwise.nil, HH.out, Below.refl _ _⟩
  · have eg : ∀ args w, (callFunc 79 args).run Tryz.prog w = .ok (.enter 79 args) w := enters_of Tryz.func79 (by kernel_rfl) rfl
    have hsz : l.toArray.size = l.length := by simp
    have hlim : Lib.bitLen l.length < 4611686018427387904 := Nat.lt_of_le_of_lt (Lib.bitLen_le l.length 62 (by omega) (by omega)) (by omega)
    have hp := AnyQ.pdqsortCmpFunc_all (P := Tryz.prog) (ρ := Tryz.sortCh_ren) { Tryz.sortCh with } 3 Tryz.isAgg103 Tryz.sizeOf103 Ch.cells ordI 79 #[] swoOrd g 0 cap l.toArray w eg (cmpLaysC g 0 l.toArray.size w) ⟨fun _ => rfl, fun x v hv => by simp [Ch.cells] at hv; rcases hv with rfl | rfl | rfl <;> rfl, own_holds h, hlt⟩ (l.length + 1) 0 l.length (Lib.bitLen l.length) l.toArray w (by omega) rfl (SWK.start (own_holds h)) (Nat.zero_le _) (by rw [hsz]; exact Nat.le_refl _) (by rw [hsz]; omega) hlim (Or.inl rfl)
    rw [hsz] at hp
    have hbl := bitsLen l.length (by omega)
    have wr : IntKind.u64.wrap (l.length : Int) = l.length := by simp [IntKind.wrap, IntKind.bits, IntKind.signed]; omega
    have HH := Lib.hid h
    have HP := Lib.hid hp
    have HSo := Lib.hid (pdq_sorts (ltOf ordI) swoOrd l.toArray 0 l.toArray.size (Lib.bitLen l.length) true true (Nat.zero_le _) (Nat.le_refl _) (Or.inl rfl))
    have hbb : B ≤ g := hb
    clear h hp hb hlt hlim eg
    go_enter Tryz.func78, Tryz.ntmps78
    go_wp2_with (first | (go_at_call 111; refine (hbl _).mono ?_; rintro e w' ⟨rfl, rfl⟩) | (go_at_call 110; refine HP.out.mono ?_; rintro e w' ⟨rfl, n, os, rfl⟩))
    go_end0
    have hs := HSo.out
    rw [hsz] at hs
    generalize pdq (ltOf ordI) l.toArray 0 l.length (Lib.bitLen l.length) true true = d' at hs
    have hd : d'.size = l.length := by have := hs.1.1; rw [hsz] at this; exact this
    refine ⟨rfl, d'.toList, ?_, ?_, sort_own HH.out n d' os hd, sort_below hbb n d' os hB⟩
    · have := hs.1.2.2
      rw [← hsz, Array.extract_size, hsz, ← hd, Array.extract_size] at this
      simpa using this
    · have h2 := hs.2
      rw [← hd] at h2
      exact sorted_of h2
end Go.Proofs.YtdllgeanmlmmfaaGreatDoor.Cl
namespace Go.Proofs.YtdllgeanmlmmfaaGreatDoor.Cl
open Go.RowKit Gr Batch
set_option linter.unusedVariables false

/-! ### all that is held: few of each -/
/-- What a thread may hold: each count at most 2^50. -/
structure HoldP (B : List Ch) : Prop where
  bag : BagP B
  low : ∀ x ∈ B, x.d ≤ 1125899906842624
theorem tot_hc {H : List Ed} (p t : Int) : 0 ≤ tot (H.map hc) p t ∧ tot (H.map hc) p t ≤ H.length := by
  have h := tot_pos (l := H.map hc) (fun x hx => by obtain ⟨y, _, rfl⟩ := List.mem_map.1 hx; exact (by decide : (0 : Int) ≤ 1)) p t
  have h2 := tot_bound (l := H.map hc) (B := 1) (fun x hx => by obtain ⟨y, _, rfl⟩ := List.mem_map.1 hx; exact (by decide : (-1 : Int) ≤ 1 ∧ (1 : Int) ≤ 1)) (by decide) p t
  rw [List.length_map] at h2
  omega
theorem HoldP.tot {B : List Ch} (h : HoldP B) (p t : Int) : 0 ≤ tot B p t ∧ tot B p t ≤ 1125899906842624 := by
  refine ⟨h.bag.tot0 p t, ?_⟩
  by_cases hk : ∃ x ∈ B, x.p = p ∧ x.t = t
  · obtain ⟨x, hx, hp, ht⟩ := hk
    rw [tot_key h.bag.right.2 hx hp ht]
    exact h.low x hx
  · rw [tot_none fun x hx e => hk ⟨x, hx, e⟩]
    decide
theorem all_tot {H : List Ed} {B : List Ch} (h : HoldP B) (hl : H.length ≤ 100000) (p t : Int) : 0 ≤ tot (B ++ H.map hc) p t ∧ tot (B ++ H.map hc) p t ≤ 1125899907000000 := by
  rw [tot_append]
  have h1 := h.tot p t
  have h2 := tot_hc (H := H) p t
  omega
theorem all_is {H : List Ed} {B : List Ch} (hH : ∀ x ∈ H, x.Wf) (hB : ∀ x ∈ B, x.Wf) : IsTab (allL H B) (B ++ H.map hc) := tab_is (all_wf0 hH hB)
/-- No count is nothing. -/
theorem all_pos {H : List Ed} {B : List Ch} (hH : ∀ x ∈ H, x.Wf) (hB : ∀ x ∈ B, x.Wf) (h : HoldP B) (hl : H.length ≤ 100000) : ∀ z ∈ allL H B, 1 ≤ z.d ∧ z.d ≤ 1125899907000000 ∧ z.d = Batch.tot (B ++ H.map hc) z.p z.t := by
  intro z hz
  obtain ⟨⟨x, hx, hk⟩, hd⟩ := ((all_is hH hB).2 z).1 hz
  have ht := all_tot h hl z.p z.t
  rw [wr_id (by omega) (by omega)] at hd
  refine ⟨?_, by omega, hd⟩
  have hpos : ∀ y ∈ B ++ H.map hc, 0 < y.d := fun y hy => by
    rcases List.mem_append.1 hy with hy | hy
    · exact h.bag.pos y hy
    · obtain ⟨v, _, rfl⟩ := List.mem_map.1 hy; exact (by decide : (0 : Int) < 1)
  have : ∀ l : List Ch, (∀ y ∈ l, 0 < y.d) → x ∈ l → 1 ≤ Batch.tot l z.p z.t := by
    intro l
    induction l with
    | nil => intro _ h; simp at h
    | cons y r ih =>
      intro hp hm
      have hr := tot_pos (l := r) (fun v hv => by have := hp v (by simp [hv]); omega) z.p z.t
      have hy := hp y (by simp)
      rw [show Batch.tot (y :: r) z.p z.t = Batch.tot ([y] ++ r) z.p z.t from rfl, tot_append]
      have h1 : Batch.tot [y] z.p z.t = if y.p = z.p ∧ y.t = z.t then y.d else 0 := by simp [Batch.tot]
      rw [h1]
      rcases List.mem_cons.1 hm with e | e
      · subst e
        rw [if_pos ⟨hk.1, hk.2⟩]
        omega
      · have := ih (fun v hv => hp v (by simp [hv])) e
        split <;> omega
  have := this _ hpos hx
  omega
theorem all_rise {H : List Ed} {B : List Ch} (hH : ∀ x ∈ H, x.Wf) (hB : ∀ x ∈ B, x.Wf) : (allL H B).Pairwise Lt := (all_is hH hB).1
theorem all_wf {H : List Ed} {B : List Ch} (hH : ∀ x ∈ H, x.Wf) (hB : ∀ x ∈ B, x.Wf) : ∀ z ∈ allL H B, z.Wf := tab_wf (all_wf0 hH hB)
theorem all_length {H : List Ed} {B : List Ch} : (allL H B).length ≤ B.length + H.length := by
  have := tab_length (B ++ H.map hc)
  rw [List.length_append, List.length_map] at this
  exact this
theorem hc_fit {x : Ed} {m : Nat} (hm : m ≤ 64) (h : 0 ≤ x.t ∧ x.t < m ∧ x.a ≠ 18446744073709551615) : Fit (hc x) := ⟨h.1, by show x.t < 64; omega, h.2.2⟩
/-- All that is held is a Bag. -/
theorem all_bag {H : List Ed} {B : List Ch} (hH : ∀ x ∈ H, x.Wf) (hB : ∀ x ∈ B, x.Wf) (h : HoldP B) (hl : H.length ≤ 100000) (hf : ∀ x ∈ H, Fit (hc x)) : BagP (allL H B) := by
  refine ⟨⟨fun z hz => ?_, all_rise hH hB⟩, fun z hz => by have := all_pos hH hB h hl z hz; omega⟩
  have hp := all_pos hH hB h hl z hz
  obtain ⟨⟨x, hx, hk⟩, _⟩ := ((all_is hH hB).2 z).1 hz
  have hfit : Fit x := by
    rcases List.mem_append.1 hx with hx | hx
    · exact h.bag.right.fit x hx
    · obtain ⟨y, hy, rfl⟩ := List.mem_map.1 hx; exact hf y hy
  refine ⟨wrong_of_fit (x := z) (by unfold Fit at *; rw [← hk.1, ← hk.2]; exact hfit) (by unfold overB; rw [decide_eq_false_iff_not]; omega), by omega⟩
/-- One more handle: a Batch of one, merged. -/
theorem all_step {H : List Ed} {B : List Ch} (hH : ∀ x ∈ H, x.Wf) (hB : ∀ x ∈ B, x.Wf) (h : HoldP B) {i : Nat} {x : Ed} (hx : H[i]? = some x) (hl : H.length ≤ 100000) :
    sumsE (allL (H.take i) B ++ [hc x]) = 0 ∧ sumsR (allL (H.take i) B ++ [hc x]) = allL (H.take (i + 1)) B := by
  have hHi : ∀ y ∈ H.take i, y.Wf := fun y hy => hH y (List.mem_of_mem_take hy)
  have hHs : ∀ y ∈ H.take (i + 1), y.Wf := fun y hy => hH y (List.mem_of_mem_take hy)
  have hxw := hc_wf (hH x (List.mem_of_getElem? hx))
  have hT := all_is hHi hB
  have hw : ∀ y ∈ allL (H.take i) B ++ [hc x], y.Wf := fun y hy => by
    rcases List.mem_append.1 hy with hy | hy
    · exact all_wf hHi hB y hy
    · simp at hy; subst hy; exact hxw
  have e : B ++ (H.take (i + 1)).map hc = (B ++ (H.take i).map hc) ++ [hc x] := by rw [Gr.take_succ' hx]; simp
  have hl1 : (H.take (i + 1)).length ≤ 100000 := by rw [List.length_take]; omega
  have hl0 : (H.take i).length ≤ 100000 := by rw [List.length_take]; omega
  have htot : ∀ p t, Batch.tot (allL (H.take i) B) p t = Batch.tot (B ++ (H.take i).map hc) p t := fun p t => by
    by_cases hk : ∃ z ∈ allL (H.take i) B, z.p = p ∧ z.t = t
    · obtain ⟨z, hz, rfl, rfl⟩ := hk
      rw [tot_one hT.1 hz]
      exact (all_pos hHi hB h hl0 z hz).2.2
    · rw [tot_none fun z hz e => hk ⟨z, hz, e⟩]
      refine (tot_none fun y hy e => hk ?_).symm
      exact ⟨⟨p, t, wr (Batch.tot (B ++ (H.take i).map hc) p t)⟩, (hT.2 _).2 ⟨⟨y, hy, e.1, e.2⟩, rfl⟩, rfl, rfl⟩
  have htot2 : ∀ p t, Batch.tot (allL (H.take i) B ++ [hc x]) p t = Batch.tot (B ++ (H.take (i + 1)).map hc) p t := fun p t => by
    rw [tot_append, htot, e, tot_append (B ++ (H.take i).map hc)]
  have ho : overK (allL (H.take i) B ++ [hc x]) = false := by
    cases ho : overK (allL (H.take i) B ++ [hc x])
    · rfl
    · obtain ⟨p, t, hpt⟩ := (overK_iff hw).1 ho
      rw [htot2] at hpt
      have := all_tot h hl1 p t
      rw [wr_id (by omega) (by omega)] at hpt
      unfold overB at hpt
      have := of_decide_eq_true hpt
      omega
  refine ⟨(sums_ok ho).1, (sums_ok ho).2.trans ?_⟩
  have hs : IsSum (allL (H.take (i + 1)) B) (B ++ (H.take (i + 1)).map hc) := by
    refine ⟨all_rise hHs hB, fun z => ?_⟩
    rw [(all_is hHs hB).2 z]
    refine ⟨fun hz => ⟨?_, hz.2⟩, fun hz => ⟨?_, hz.2⟩⟩
    · have := all_pos hHs hB h hl1 z (((all_is hHs hB).2 z).2 hz)
      omega
    · cases Classical.em (∃ y ∈ B ++ (H.take (i + 1)).map hc, Key y z) with
      | inl h => exact h
      | inr hn =>
        have := hz.2
        rw [tot_none fun y hy e => hn ⟨y, hy, e.1, e.2⟩, wr_zero] at this
        exact absurd this hz.1
  exact (sumL_is hw).one hs fun p t => by rw [htot2]
theorem all_nil {B : List Ch} (hB : ∀ x ∈ B, x.Wf) (h : BagP B) : allL [] B = B := by
  have e : B ++ ([] : List Ed).map hc = B := by simp
  have ht := all_is (H := []) (by simp) hB
  refine rising_ext ht.1 h.right.2 fun z => ?_
  rw [ht.2, e]
  constructor
  · rintro ⟨⟨x, hx, hk⟩, hd⟩
    have hxw := hB x hx
    rw [← hk.1, ← hk.2, tot_one h.right.2 hx, wr_id hxw.d0 hxw.d1] at hd
    obtain ⟨a, b, c⟩ := z
    obtain ⟨a', b', c'⟩ := x
    obtain ⟨h1, h2⟩ := hk
    simp only at h1 h2 hd
    subst h1 h2 hd
    exact hx
  · intro hz
    have hzw := hB z hz
    exact ⟨⟨z, hz, Key.refl z⟩, by rw [tot_one h.right.2 hz, wr_id hzw.d0 hzw.d1]⟩

/-! ### what lets a stamp be -/
/-- x, that is held, comes to be c. -/
def letB (M : Nat → Nat → Int) (m : Nat) (c x : Ch) : Bool := decide (0 ≤ x.p ∧ x.p < m ∧ Stamp.reachB x.t (M x.p.toNat c.p.toNat) c.t = true)
def letsB (M : Nat → Nat → Int) (m : Nat) (all : List Ch) (c : Ch) : Bool := all.any (letB M m c)
theorem letsB_iff {M : Nat → Nat → Int} {m : Nat} {all : List Ch} {c : Ch} : letsB M m all c = true ↔ ∃ x ∈ all, letB M m c x = true := List.any_eq_true
theorem letsB_same {M M' : Nat → Nat → Int} {m : Nat} {all : List Ch} {c : Ch} (hc : c.p.toNat < m) (h : ∀ i j, i < m → j < m → M i j = M' i j) : letsB M m all c = letsB M' m all c := by
  unfold letsB
  congr 1
  funext x
  unfold letB
  by_cases hx : 0 ≤ x.p ∧ x.p < m
  · rw [h x.p.toNat c.p.toNat (by omega) hc]
  · rw [decide_eq_false (fun e => hx ⟨e.1, e.2.1⟩), decide_eq_false (fun e => hx ⟨e.1, e.2.1⟩)]
/-- What is wrong with a Change of stamps. -/
def upE (B all : List Ch) (M : Nat → Nat → Int) (m : Nat) (c : Ch) : Int :=
  if (m : Int) ≤ c.p then 2 else if 0 < c.d ∧ letsB M m all c = false ∨ tot B c.p c.t + c.d < 0 then 5 else if 1125899906842624 < tot B c.p c.t + c.d then 10 else 0
theorem upE_same {B all : List Ch} {M M' : Nat → Nat → Int} {m : Nat} {c : Ch} (h0 : 0 ≤ c.p) (h : ∀ i j, i < m → j < m → M i j = M' i j) : upE B all M m c = upE B all M' m c := by
  unfold upE
  by_cases hc : (m : Int) ≤ c.p
  · rw [if_pos hc, if_pos hc]
  · rw [letsB_same (by omega) h]
end Go.Proofs.YtdllgeanmlmmfaaGreatDoor.Cl
