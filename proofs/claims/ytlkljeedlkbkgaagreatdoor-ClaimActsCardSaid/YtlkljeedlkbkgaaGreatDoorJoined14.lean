/-
  YtlkljeedlkbkgaaGreatDoorClSort
  YtlkljeedlkbkgaaGreatDoorClMath2
  YtlkljeedlkbkgaaGreatDoorClAll
-/
import Derived.Test.YtlkljeedlkbkgaaGreatDoorJoined12
import Derived.Test.YtlkljeedlkbkgaaGreatDoorJoined6
import Derived.Test.YtlkljeedlkbkgaaGreatDoorJoined10
import Derived.Test.YtlkljeedlkbkgaaGreatDoorJoined11
import Derived.Test.YtlkljeedlkbkgaaGreatDoorJoined7
import Derived.Test.YtlkljeedlkbkgaaGreatDoorJoined5
import Derived.Deep.Cut
namespace Go.Proofs.YtlkljeedlkbkgaaGreatDoor.Cl
open Go.RowKit Go.Sort Go.Shelf Go.Lib Batch
set_option linter.unusedVariables false
set_option maxRecDepth 100000 in
set_option maxHeartbeats 2000000 in
theorem compareC_any (x y : Ch) (w : World) : Calls Tryz.prog 49 #[x.agg, y.agg] w fun e w' => e = .returned (.int .i64 (ordI x y)) ∧ ∃ q os, w' = grow (w.drewN q) os := by
  obtain ⟨p, t, d⟩ := x
  obtain ⟨p', t', d'⟩ := y
  have hr := Lib.hid (show ordI ⟨p, t, d⟩ ⟨p', t', d'⟩ = orI (cmpI p p') (cmpI t t') from rfl)
  go_enter Tryz.func49, Tryz.ntmps49
  go_wp2_with fail
  go_region_held3 (fun w' => w'.cell? ⟨w.heap.size, 0, none⟩ = some (.int .i64 p) ∧ w'.cell? ⟨w.heap.size, 1, none⟩ = some (.int .u64 t) ∧ w'.cell? ⟨w.heap.size + 1, 0, none⟩ = some (.int .i64 p') ∧ w'.cell? ⟨w.heap.size + 1, 1, none⟩ = some (.int .u64 t'))
    (go_keep)
    (first
      | (go_at_call 87; refine (cmpInt_any _ _ _).mono ?_; rintro e w' ⟨rfl, rfl⟩)
      | (go_at_call 94; refine (cmpU_any _ _ _).mono ?_; rintro e w' ⟨rfl, rfl⟩)
      | (go_at_call 93; refine (or_any' (cmpI p p') (cmpI t t') (w.heap.size + 1 + 1) _ (new2 _ _ _ _ _ _)).mono ?_; rintro e w' ⟨rfl, rfl⟩))
  go_wp2_with fail
  go_ret
  exact ⟨by rw [hr.out]; rfl, grow3 _ _ _ _⟩
theorem compareC_below (x y : Ch) (w : World) : Calls Tryz.prog 49 #[x.agg, y.agg] w fun e w' => e = .returned (.int .i64 (ordI x y)) ∧ Below w.heap.size w w' :=
  (compareC_any x y w).mono fun e w' ⟨he, q, os, hw⟩ => ⟨he, by
    subst hw
    refine ⟨rfl, rfl, rfl, ?_, fun k hk => ?_⟩
    · show (w.drewN q).heap.size ≤ _
      simp [grow]
    · exact Go.Sort.heap_grow_old _ _ (by simpa using hk)⟩
theorem cmpLaysC (blk off size : Nat) (w : World) : CmpLays Tryz.prog 49 #[] Ch.cells 3 ordI blk off size w :=
  fun _ _ _ _ x y => compareC_any x y _
theorem ins_nil (f : Value) (w : World) : Calls Tryz.prog 122 #[.slice none 0 0, .int .i64 0, .int .i64 0, f] w fun e w' => e = .returned (.tuple #[]) ∧ w = w' := by
  go_enter Tryz.func122, Tryz.ntmps122
  go_wp2
  refine wp_loop_rounds 1 ?_
  rw [rounds_succ]
  go_wp2
  go_end0
  exact ⟨rfl, rfl⟩
set_option maxRecDepth 1000000 in
set_option maxHeartbeats 4000000 in
theorem pdq_nil (k : Int) (f : Value) (w : World) : Calls Tryz.prog 91 #[.slice none 0 0, .int .i64 0, .int .i64 0, .int .i64 k, f] w fun e w' => e = .returned (.tuple #[]) ∧ w = w' := by
  go_enter Tryz.func91, Tryz.ntmps91
  go_wp2
  refine wp_loop_rounds 1 ?_
  rw [rounds_succ]
  go_wp2_with (go_at_call 122; refine (ins_nil f _).mono ?_; rintro e w' ⟨rfl, rfl⟩)
  first
    | (go_ret; exact ⟨rfl, rfl⟩)
    | exact bodyPost_ret (v := .tuple #[]) (by simp [results, Tryz.results91, go_sem]) rfl ⟨rfl, rfl⟩
theorem bitsLen (n : Nat) (hn : n < 4611686018427387904) (w : World) : Calls Tryz.prog 92 #[.int .u64 (n : Int)] w fun e w' => e = .returned (.int .i64 (Lib.bitLen n : Nat)) ∧ w' = w := by
  have h := Any.bits_Len (SlLaysF0.n15.bits (P := Tryz.prog) (ρ := Tryz.sortCh_ren) { Tryz.sortCh with }) (n : Int) w (by omega) (by omega)
  rwa [Int.toNat_natCast] at h
set_option maxRecDepth 1000000 in
set_option maxHeartbeats 4000000 in
theorem sortB_any {w : World} {B : Nat} {T : TypeId} {v : Value} {l : List Ch} (h : Own w B T v l) (hB : B ≤ w.heap.size) (hl : l.length ≤ 100000) :
    Calls Tryz.prog 48 #[v, .func (.func 49) #[] #[]] w fun e w' => e = .returned (.tuple #[]) ∧ ∃ l' : List Ch, l'.Perm l ∧ Sorted l' ∧ Own w' B T v l' ∧ Below B w w' := by
  rcases h.form with ⟨rfl, rfl⟩ | ⟨g, cap, rfl, hb, hlt, _, _⟩
  · have hbl := bitsLen 0 (by decide)
    have hb0 : Lib.bitLen 0 = 0 := by rfl
    rw [hb0] at hbl
    have HH := Lib.hid h
    clear h hl
    go_enter Tryz.func48, Tryz.ntmps48
    go_wp2_with (first | (go_at_call 92; refine (hbl _).mono ?_; rintro e w' ⟨rfl, rfl⟩) | (go_at_call 91; refine (pdq_nil _ _ _).mono ?_; rintro e w' ⟨rfl, rfl⟩))
    go_end0
    exact ⟨rfl, [], List.Perm.refl _, List.Pairwise.nil, HH.out, Below.refl _ _⟩
  · have eg : ∀ args w, (callFunc 49 args).run Tryz.prog w = .ok (.enter 49 args) w := enters_of Tryz.func49 (by kernel_rfl) rfl
    have hsz : l.toArray.size = l.length := by simp
    have hlim : Lib.bitLen l.length < 4611686018427387904 := Nat.lt_of_le_of_lt (Lib.bitLen_le l.length 62 (by omega) (by omega)) (by omega)
    have hp := AnyQ.pdqsortCmpFunc_all (P := Tryz.prog) (ρ := Tryz.sortCh_ren) { Tryz.sortCh with } 3 Tryz.isAgg72 Tryz.sizeOf72 Ch.cells ordI 49 #[] swoOrd g 0 cap l.toArray w eg (cmpLaysC g 0 l.toArray.size w) ⟨fun _ => rfl, fun x v hv => by simp [Ch.cells] at hv; rcases hv with rfl | rfl | rfl <;> rfl, own_holds h, hlt⟩ (l.length + 1) 0 l.length (Lib.bitLen l.length) l.toArray w (by omega) rfl (SWK.start (own_holds h)) (Nat.zero_le _) (by rw [hsz]; exact Nat.le_refl _) (by rw [hsz]; omega) hlim (Or.inl rfl)
    rw [hsz] at hp
    have hbl := bitsLen l.length (by omega)
    have wr : IntKind.u64.wrap (l.length : Int) = l.length := by simp [IntKind.wrap, IntKind.bits, IntKind.signed]; omega
    have HH := Lib.hid h
    have HP := Lib.hid hp
    have HSo := Lib.hid (pdq_sorts (ltOf ordI) swoOrd l.toArray 0 l.toArray.size (Lib.bitLen l.length) true true (Nat.zero_le _) (Nat.le_refl _) (Or.inl rfl))
    have hbb : B ≤ g := hb
    clear h hp hb hlt hlim eg
    go_enter Tryz.func48, Tryz.ntmps48
    go_wp2_with (first | (go_at_call 92; refine (hbl _).mono ?_; rintro e w' ⟨rfl, rfl⟩) | (go_at_call 91; refine HP.out.mono ?_; rintro e w' ⟨rfl, n, os, rfl⟩))
    go_end0
    have hs := HSo.out
    rw [hsz] at hs
    generalize pdq (ltOf ordI) l.toArray 0 l.length (Lib.bitLen l.length) true true = d' at hs
    have hd : d'.size = l.length := by have := hs.1.1; rw [hsz] at this; exact this
    refine ⟨rfl, d'.toList, ?_, ?_, sort_own HH.out n d' os hd, sort_below hbb n d' os hB⟩
    · have := hs.1.2.2
      rw [← hsz, Array.extract_size, hsz, ← hd, Array.extract_size] at this
      simpa using this
    · have h2 := hs.2
      rw [← hd] at h2
      exact sorted_of h2
end Go.Proofs.YtlkljeedlkbkgaaGreatDoor.Cl
namespace Go.Proofs.YtlkljeedlkbkgaaGreatDoor.Cl
open Go.RowKit Gr Batch
set_option linter.unusedVariables false
structure HoldP (B : List Ch) : Prop where
  bag : BagP B
  low : ∀ x ∈ B, x.d ≤ 1125899906842624
theorem tot_hc {H : List Ed} (p t : Int) : 0 ≤ tot (H.map hc) p t ∧ tot (H.map hc) p t ≤ H.length := by
  have h := tot_pos (l := H.map hc) (fun x hx => by obtain ⟨y, _, rfl⟩ := List.mem_map.1 hx; exact (by decide : (0 : Int) ≤ 1)) p t
  have h2 := tot_bound (l := H.map hc) (B := 1) (fun x hx => by obtain ⟨y, _, rfl⟩ := List.mem_map.1 hx; exact (by decide : (-1 : Int) ≤ 1 ∧ (1 : Int) ≤ 1)) (by decide) p t
  rw [List.length_map] at h2
  omega
theorem HoldP.tot {B : List Ch} (h : HoldP B) (p t : Int) : 0 ≤ tot B p t ∧ tot B p t ≤ 1125899906842624 := by
  refine ⟨h.bag.tot0 p t, ?_⟩
  by_cases hk : ∃ x ∈ B, x.p = p ∧ x.t = t
  · obtain ⟨x, hx, hp, ht⟩ := hk
    rw [tot_key h.bag.right.2 hx hp ht]
    exact h.low x hx
  · rw [tot_none fun x hx e => hk ⟨x, hx, e⟩]
    decide
theorem all_tot {H : List Ed} {B : List Ch} (h : HoldP B) (hl : H.length ≤ 100000) (p t : Int) : 0 ≤ tot (B ++ H.map hc) p t ∧ tot (B ++ H.map hc) p t ≤ 1125899907000000 := by
  rw [tot_append]
  have h1 := h.tot p t
  have h2 := tot_hc (H := H) p t
  omega
theorem all_is {H : List Ed} {B : List Ch} (hH : ∀ x ∈ H, x.Wf) (hB : ∀ x ∈ B, x.Wf) : IsTab (allL H B) (B ++ H.map hc) := tab_is (all_wf0 hH hB)
theorem all_pos {H : List Ed} {B : List Ch} (hH : ∀ x ∈ H, x.Wf) (hB : ∀ x ∈ B, x.Wf) (h : HoldP B) (hl : H.length ≤ 100000) : ∀ z ∈ allL H B, 1 ≤ z.d ∧ z.d ≤ 1125899907000000 ∧ z.d = Batch.tot (B ++ H.map hc) z.p z.t := by
  intro z hz
  obtain ⟨⟨x, hx, hk⟩, hd⟩ := ((all_is hH hB).2 z).1 hz
  have ht := all_tot h hl z.p z.t
  rw [wr_id (by omega) (by omega)] at hd
  refine ⟨?_, by omega, hd⟩
  have hpos : ∀ y ∈ B ++ H.map hc, 0 < y.d := fun y hy => by
    rcases List.mem_append.1 hy with hy | hy
    · exact h.bag.pos y hy
    · obtain ⟨v, _, rfl⟩ := List.mem_map.1 hy; exact (by decide : (0 : Int) < 1)
  have : ∀ l : List Ch, (∀ y ∈ l, 0 < y.d) → x ∈ l → 1 ≤ Batch.tot l z.p z.t := by
    intro l
    induction l with
    | nil => intro _ h; simp at h
    | cons y r ih =>
      intro hp hm
      have hr := tot_pos (l := r) (fun v hv => by have := hp v (by simp [hv]); omega) z.p z.t
      have hy := hp y (by simp)
      rw [show Batch.tot (y :: r) z.p z.t = Batch.tot ([y] ++ r) z.p z.t from rfl, tot_append]
      have h1 : Batch.tot [y] z.p z.t = if y.p = z.p ∧ y.t = z.t then y.d else 0 := by simp [Batch.tot]
      rw [h1]
      rcases List.mem_cons.1 hm with e | e
      · subst e
        rw [if_pos ⟨hk.1, hk.2⟩]
        omega
      · have := ih (fun v hv => hp v (by simp [hv])) e
        split <;> omega
  have := this _ hpos hx
  omega
theorem all_rise {H : List Ed} {B : List Ch} (hH : ∀ x ∈ H, x.Wf) (hB : ∀ x ∈ B, x.Wf) : (allL H B).Pairwise Lt := (all_is hH hB).1
theorem all_wf {H : List Ed} {B : List Ch} (hH : ∀ x ∈ H, x.Wf) (hB : ∀ x ∈ B, x.Wf) : ∀ z ∈ allL H B, z.Wf := tab_wf (all_wf0 hH hB)
theorem all_length {H : List Ed} {B : List Ch} : (allL H B).length ≤ B.length + H.length := by
  have := tab_length (B ++ H.map hc)
  rw [List.length_append, List.length_map] at this
  exact this
theorem hc_fit {x : Ed} {m : Nat} (hm : m ≤ 64) (h : 0 ≤ x.t ∧ x.t < m ∧ x.a ≠ 18446744073709551615) : Fit (hc x) := ⟨h.1, by show x.t < 64; omega, h.2.2⟩
theorem all_bag {H : List Ed} {B : List Ch} (hH : ∀ x ∈ H, x.Wf) (hB : ∀ x ∈ B, x.Wf) (h : HoldP B) (hl : H.length ≤ 100000) (hf : ∀ x ∈ H, Fit (hc x)) : BagP (allL H B) := by
  refine ⟨⟨fun z hz => ?_, all_rise hH hB⟩, fun z hz => by have := all_pos hH hB h hl z hz; omega⟩
  have hp := all_pos hH hB h hl z hz
  obtain ⟨⟨x, hx, hk⟩, _⟩ := ((all_is hH hB).2 z).1 hz
  have hfit : Fit x := by
    rcases List.mem_append.1 hx with hx | hx
    · exact h.bag.right.fit x hx
    · obtain ⟨y, hy, rfl⟩ := List.mem_map.1 hx; exact hf y hy
  refine ⟨wrong_of_fit (x := z) (by unfold Fit at *; rw [← hk.1, ← hk.2]; exact hfit) (by unfold overB; rw [decide_eq_false_iff_not]; omega), by omega⟩
theorem all_step {H : List Ed} {B : List Ch} (hH : ∀ x ∈ H, x.Wf) (hB : ∀ x ∈ B, x.Wf) (h : HoldP B) {i : Nat} {x : Ed} (hx : H[i]? = some x) (hl : H.length ≤ 100000) :
    sumsE (allL (H.take i) B ++ [hc x]) = 0 ∧ sumsR (allL (H.take i) B ++ [hc x]) = allL (H.take (i + 1)) B := by
  have hHi : ∀ y ∈ H.take i, y.Wf := fun y hy => hH y (List.mem_of_mem_take hy)
  have hHs : ∀ y ∈ H.take (i + 1), y.Wf := fun y hy => hH y (List.mem_of_mem_take hy)
  have hxw := hc_wf (hH x (List.mem_of_getElem? hx))
  have hT := all_is hHi hB
  have hw : ∀ y ∈ allL (H.take i) B ++ [hc x], y.Wf := fun y hy => by
    rcases List.mem_append.1 hy with hy | hy
    · exact all_wf hHi hB y hy
    · simp at hy; subst hy; exact hxw
  have e : B ++ (H.take (i + 1)).map hc = (B ++ (H.take i).map hc) ++ [hc x] := by rw [Gr.take_succ' hx]; simp
  have hl1 : (H.take (i + 1)).length ≤ 100000 := by rw [List.length_take]; omega
  have hl0 : (H.take i).length ≤ 100000 := by rw [List.length_take]; omega
  have htot : ∀ p t, Batch.tot (allL (H.take i) B) p t = Batch.tot (B ++ (H.take i).map hc) p t := fun p t => by
    by_cases hk : ∃ z ∈ allL (H.take i) B, z.p = p ∧ z.t = t
    · obtain ⟨z, hz, rfl, rfl⟩ := hk
      rw [tot_one hT.1 hz]
      exact (all_pos hHi hB h hl0 z hz).2.2
    · rw [tot_none fun z hz e => hk ⟨z, hz, e⟩]
      refine (tot_none fun y hy e => hk ?_).symm
      exact ⟨⟨p, t, wr (Batch.tot (B ++ (H.take i).map hc) p t)⟩, (hT.2 _).2 ⟨⟨y, hy, e.1, e.2⟩, rfl⟩, rfl, rfl⟩
  have htot2 : ∀ p t, Batch.tot (allL (H.take i) B ++ [hc x]) p t = Batch.tot (B ++ (H.take (i + 1)).map hc) p t := fun p t => by
    rw [tot_append, htot, e, tot_append (B ++ (H.take i).map hc)]
  have ho : overK (allL (H.take i) B ++ [hc x]) = false := by
    cases ho : overK (allL (H.take i) B ++ [hc x])
    · rfl
    · obtain ⟨p, t, hpt⟩ := (overK_iff hw).1 ho
      rw [htot2] at hpt
      have := all_tot h hl1 p t
      rw [wr_id (by omega) (by omega)] at hpt
      unfold overB at hpt
      have := of_decide_eq_true hpt
      omega
  refine ⟨(sums_ok ho).1, (sums_ok ho).2.trans ?_⟩
  have hs : IsSum (allL (H.take (i + 1)) B) (B ++ (H.take (i + 1)).map hc) := by
    refine ⟨all_rise hHs hB, fun z => ?_⟩
    rw [(all_is hHs hB).2 z]
    refine ⟨fun hz => ⟨?_, hz.2⟩, fun hz => ⟨?_, hz.2⟩⟩
    · have := all_pos hHs hB h hl1 z (((all_is hHs hB).2 z).2 hz)
      omega
    · cases Classical.em (∃ y ∈ B ++ (H.take (i + 1)).map hc, Key y z) with
      | inl h => exact h
      | inr hn =>
        have := hz.2
        rw [tot_none fun y hy e => hn ⟨y, hy, e.1, e.2⟩, wr_zero] at this
        exact absurd this hz.1
  exact (sumL_is hw).one hs fun p t => by rw [htot2]
theorem all_nil {B : List Ch} (hB : ∀ x ∈ B, x.Wf) (h : BagP B) : allL [] B = B := by
  have e : B ++ ([] : List Ed).map hc = B := by simp
  have ht := all_is (H := []) (by simp) hB
  refine rising_ext ht.1 h.right.2 fun z => ?_
  rw [ht.2, e]
  constructor
  · rintro ⟨⟨x, hx, hk⟩, hd⟩
    have hxw := hB x hx
    rw [← hk.1, ← hk.2, tot_one h.right.2 hx, wr_id hxw.d0 hxw.d1] at hd
    obtain ⟨a, b, c⟩ := z
    obtain ⟨a', b', c'⟩ := x
    obtain ⟨h1, h2⟩ := hk
    simp only at h1 h2 hd
    subst h1 h2 hd
    exact hx
  · intro hz
    have hzw := hB z hz
    exact ⟨⟨z, hz, Key.refl z⟩, by rw [tot_one h.right.2 hz, wr_id hzw.d0 hzw.d1]⟩
def letB (M : Nat → Nat → Int) (m : Nat) (c x : Ch) : Bool := decide (0 ≤ x.p ∧ x.p < m ∧ Stamp.reachB x.t (M x.p.toNat c.p.toNat) c.t = true)
def letsB (M : Nat → Nat → Int) (m : Nat) (all : List Ch) (c : Ch) : Bool := all.any (letB M m c)
theorem letsB_iff {M : Nat → Nat → Int} {m : Nat} {all : List Ch} {c : Ch} : letsB M m all c = true ↔ ∃ x ∈ all, letB M m c x = true := List.any_eq_true
theorem letsB_same {M M' : Nat → Nat → Int} {m : Nat} {all : List Ch} {c : Ch} (hc : c.p.toNat < m) (h : ∀ i j, i < m → j < m → M i j = M' i j) : letsB M m all c = letsB M' m all c := by
  unfold letsB
  congr 1
  funext x
  unfold letB
  by_cases hx : 0 ≤ x.p ∧ x.p < m
  · rw [h x.p.toNat c.p.toNat (by omega) hc]
  · rw [decide_eq_false (fun e => hx ⟨e.1, e.2.1⟩), decide_eq_false (fun e => hx ⟨e.1, e.2.1⟩)]
def upE (B all : List Ch) (M : Nat → Nat → Int) (m : Nat) (c : Ch) : Int :=
  if (m : Int) ≤ c.p then 2 else if 0 < c.d ∧ letsB M m all c = false ∨ tot B c.p c.t + c.d < 0 then 5 else if 1125899906842624 < tot B c.p c.t + c.d then 10 else 0
theorem upE_same {B all : List Ch} {M M' : Nat → Nat → Int} {m : Nat} {c : Ch} (h0 : 0 ≤ c.p) (h : ∀ i j, i < m → j < m → M i j = M' i j) : upE B all M m c = upE B all M' m c := by
  unfold upE
  by_cases hc : (m : Int) ≤ c.p
  · rw [if_pos hc, if_pos hc]
  · rw [letsB_same (by omega) h]
end Go.Proofs.YtlkljeedlkbkgaaGreatDoor.Cl
namespace Go.Proofs.YtlkljeedlkbkgaaGreatDoor.Cl
open Go.RowKit Gr
set_option linter.unusedVariables false
theorem map_take_snoc {H : List Ed} {B : List Batch.Ch} {i : Nat} {x : Ed} (hx : H[i]? = some x) : B ++ (H.take (i + 1)).map hc = (B ++ (H.take i).map hc) ++ [⟨x.t, x.a, 1⟩] := by rw [Gr.take_succ' hx]; simp [hc]
set_option maxRecDepth 1000000 in
set_option maxHeartbeats 16000000 in
theorem all_any {w : World} {vh vb : Value} {H : List Ed} {B : List Batch.Ch} (hH : Sl w vh H) (hB : Batch.Sl w vb B) (hl : H.length ≤ 10000) (hlb : B.length ≤ 10000) :
    Calls Tryz.prog 15 #[.agg #[vh, vb]] w fun e w' => ∃ v, e = .returned v ∧ Batch.Own w' w.heap.size 72 v (allL H B) ∧ Below w.heap.size w w' := by
  obtain ⟨i0, hi, hz0, hz1, hz2⟩ := Gr.info_parts Batch.infoCh
  have HHV := Lib.hid hH
  have HBV := Lib.hid hB
  have HLL := Lib.hid (And.intro hl hlb)
  have HWF := Lib.hid (all_wf0 hH.wf hB.wf)
  obtain ⟨ao, cap, rfl, hcell, hlc, hcm, _⟩ := hH
  obtain ⟨ab, capb, rfl, _⟩ := hB
  have HC := Lib.hid hcell
  have hlen : H.length ≤ 9223372036854775807 := by omega
  obtain ⟨w0, hw0⟩ : ∃ w0, w0 = w.alloc (.cells #[.slice ao H.length cap, .slice ab B.length capb] 47) := ⟨_, rfl⟩
  have hb0 : Below w.heap.size w w0 := by rw [hw0]; exact (Below.refl _ _).alloc (Nat.le_refl _) _
  have hx0 : w0.heap[w.heap.size]? = some (.cells #[.slice ao H.length cap, .slice ab B.length capb] 47 (0, 0)) := by rw [hw0]; exact heap_alloc_new w _
  have HX := Lib.hid hx0
  have HB0 := Lib.hid hb0
  have hlt0 : w.heap.size < w0.heap.size := (Array.getElem?_eq_some_iff.1 hx0).1
  clear hb0 hx0 hcell hlc hcm hl hlb
  go_enter Tryz.func15, Tryz.ntmps15
  go_wp2_with fail
  go_at_call 47
  rw [← hw0]
  clear hw0
  refine (Batch.cloneB_any (HBV.out.below HB0.out) (by have := HLL.out; omega)).mono ?_
  rintro e w1 ⟨v1, rfl, ho, hb⟩
  have HO1 := Lib.hid (ho.mono HB0.out.size)
  have HB1 := Lib.hid (HB0.out.trans (hb.mono HB0.out.size))
  obtain ⟨x0, x1, _⟩ := pair_cells ((hb.block _ hlt0).trans HX.out)
  obtain ⟨a1, c1, rfl⟩ := formB ho
  clear ho hb hlt0 HX
  go_wp2_with fail
  clear x0 x1
  go_loopg [3, 15] H.length (fun k s3 s15 wr => ∃ i : Nat, i + k = H.length ∧ s15 = .int .i64 i ∧ Batch.Own wr w.heap.size 72 s3 (B ++ (H.take i).map hc) ∧ Below w.heap.size w wr)
  case atStart => exact ⟨0, by omega, rfl, by simpa using HO1.out, HB1.out⟩
  case round =>
    obtain ⟨i, hik, rfl, hown, hbw⟩ := hrel
    have HIK := Lib.hid hik
    have HO := Lib.hid hown
    have HBW := Lib.hid hbw
    have hbs : w.heap.size ≤ wr.heap.size := hbw.size
    clear hik hown hbw HO1 HB1
    have hi0 : (0 : Int) ≤ (i : Int) := Int.natCast_nonneg _
    by_cases hlt : i < H.length
    · obtain ⟨x, hx, hxm⟩ := Gr.at_of hlt
      obtain ⟨b, off, rfl, hcc⟩ := HC.out.resolve_left (fun h => by rw [h.2] at hx; simp at hx)
      have q := hcc _ x hx
      have hbl := q.lt
      obtain ⟨c0, c1, c2⟩ := q.below HBW.out hbl
      have HX := Lib.hid hx
      have HLT := Lib.hid hlt
      have hi1 : (i : Int) < (H.length : Int) := by omega
      obtain ⟨xf, xt, xa⟩ := x
      simp only at c0 c1 c2
      clear hx hxm hcc q hlt
      go_upto_region 5 with fail
      clear c0 c1 c2
      obtain ⟨w2, hw2⟩ : ∃ w2, w2 = wr.alloc (.cells #[.int .i64 xf, .int .i64 xt, .int .u64 xa] 40) := ⟨_, rfl⟩
      have hs2 : w2.heap.size = wr.heap.size + 1 := by rw [hw2]; simp
      obtain ⟨y0, y1, y2, _⟩ := trip_cells (show w2.heap[wr.heap.size]? = some (.cells #[.int .i64 xf, .int .i64 xt, .int .u64 xa] 40 (0, 0)) by rw [hw2]; exact heap_alloc_new wr _)
      have hb2 : Below w.heap.size w w2 := by rw [hw2]; exact HBW.out.alloc hbs _
      have hbs2 : w.heap.size ≤ w2.heap.size := hb2.size
      obtain ⟨A, hA⟩ : ∃ A, A = B ++ (H.take i).map hc := ⟨_, rfl⟩
      have hown : Batch.Own w2 w.heap.size 72 u3 A := by rw [hw2, hA]; exact World.ownsRow.alloc HO.out _
      rw [← hw2]
      have HB2 := Lib.hid hb2
      have hlen2 : A.length ≤ 20000 := by have := HLL.out; rw [hA, List.length_append, List.length_map, List.length_take]; omega
      have HA := Lib.hid hA
      clear hw2 hb2 hs2 hA
      go_wp2_with (at_builtin
                   refine wpList_append_own _ rfl _ _ 45 rfl w.heap.size 72 i0 (.agg #[.int .i64 0, .int .u64 0, .int .i64 0]) 3 24 Tryz.underlying45 hi hz0 hz1 hz2 rfl (by decide) _ _ _ rfl (World.ownsRow.alloc hown _) ⟨w2.heap.size, 0, none⟩ 1 1 [.int .i64 xt, .int .u64 xa, .int .i64 1] rfl rfl (Batch.news3 _ _ _ _ _) ?c2 ?c3 ?c4 ?c5 ?_)
      case c2 => intro u hu; simp at hu; rcases hu with rfl | rfl | rfl <;> rfl
      case c3 => unfold maxLen; omega
      case c4 => omega
      case c5 => simp; omega
      intro v3 w3 hown' hgrow _
      have HB3 := Lib.hid ((HB2.out.alloc hbs2 _).grown hgrow (by simp; omega) (fun k e => (hown.lt k e).1))
      have HO3 := Lib.hid (show Batch.Own w3 w.heap.size 72 v3 (B ++ (H.take (i + 1)).map hc) by
        unfold Batch.Own
        rw [map_take_snoc HX.out, ← HA.out, List.length_append, Batch.cellsL_append]
        exact hown')
      clear hown hown' hgrow y0 y1 y2
      go_wp2_with fail
      go_roundg (gk - 1)
      case measure => have := HIK.out; have := HLT.out; omega
      case rel => exact ⟨i + 1, by have := HIK.out; have := HLT.out; omega, by go_num, HO3.out, HB3.out⟩
    · have hd1 : decide ((i : Int) < (H.length : Int)) = false := decide_eq_false (by omega)
      have hd2 : decide (i < H.length) = false := decide_eq_false hlt
      have HO2 := Lib.hid (show Batch.Own wr w.heap.size 72 u3 (B ++ H.map hc) by have := HO.out; rwa [List.take_of_length_le (by omega)] at this)
      clear HO
      go_wp2_with fail
      go_at_call 48
      refine (sortB_any HO2.out hbs (by have := HLL.out; rw [List.length_append, List.length_map]; omega)).mono ?_
      rintro e w3 ⟨rfl, l, hp, hs, ho, hb⟩
      have HB3 := Lib.hid (HBW.out.trans (hb.mono (Nat.le_refl _)))
      have HO3 := Lib.hid ho
      have HS := Lib.hid hs
      have HT := Lib.hid (tab_perm HWF.out hp)
      have HWL := Lib.hid (fun x (hx : x ∈ l) => HWF.out x (hp.mem_iff.1 hx))
      have hln : l.length ≤ 20000 := by have := HLL.out; rw [hp.length_eq, List.length_append, List.length_map]; omega
      obtain ⟨a3, c3, hv3⟩ := formB ho
      clear hp hs ho hb hd1 hd2
      subst hv3
      go_wp2_with fail
      go_loopg [6, 32] l.length (fun k s6 s32 wq => ∃ i : Nat, i + k = l.length ∧ s32 = .int .i64 i ∧ Batch.Own wq w3.heap.size 72 s6 (Batch.tab (l.take i)) ∧ Below w3.heap.size w3 wq)
      case atStart => exact ⟨0, by omega, rfl, Batch.Own.nil _ _ _, Below.refl _ _⟩
      case round =>
        obtain ⟨i, hik2, rfl, hown, hbq⟩ := hrel
        have HIK2 := Lib.hid hik2
        have HO := Lib.hid hown
        have HBQ := Lib.hid hbq
        have hbsq : w3.heap.size ≤ wr.heap.size := hbq.size
        clear hik2 hown hbq
        have hi0 : (0 : Int) ≤ (i : Int) := Int.natCast_nonneg _
        have hlen3 : l.length ≤ 9223372036854775807 := by omega
        by_cases hlt2 : i < l.length
        · obtain ⟨y, hy, hym⟩ := Batch.at_of hlt2
          obtain ⟨g, cap3, hv, hg1, hg2, _⟩ := HO3.out.form.resolve_left (fun h => by rw [h.1] at hlt2; simp at hlt2)
          simp only [Value.slice.injEq] at hv
          obtain ⟨rfl, _, rfl⟩ := hv
          obtain ⟨c0, c1, c2⟩ := (HO3.out.at hy).below HBQ.out hg2
          have HY := Lib.hid hy
          have HLT2 := Lib.hid hlt2
          have hi1 : (i : Int) < (l.length : Int) := by omega
          obtain ⟨yp, yt, yd⟩ := y
          simp only at c0 c1 c2
          have hg3 : g < wr.heap.size := Nat.lt_of_lt_of_le hg2 hbsq
          clear hy hym hlt2
          go_upto_region 12 with fail
          clear c0 c1 c2
          obtain ⟨w4, hw4⟩ : ∃ w4, w4 = wr.alloc (.cells #[.int .i64 yp, .int .u64 yt, .int .i64 yd] 72) := ⟨_, rfl⟩
          have hs4 : w4.heap.size = wr.heap.size + 1 := by rw [hw4]; simp
          have HBK := Lib.hid (show w4.heap[wr.heap.size]? = some (.cells #[.int .i64 yp, .int .u64 yt, .int .i64 yd] 72 (0, 0)) by rw [hw4]; exact heap_alloc_new wr _)
          have HB4 := Lib.hid (show Below w3.heap.size w3 w4 by rw [hw4]; exact HBQ.out.alloc hbsq _)
          have hbs4 : w3.heap.size ≤ w4.heap.size := HB4.out.size
          have hbk4 : wr.heap.size < w4.heap.size := by omega
          have hg4 : g < w4.heap.size := by omega
          obtain ⟨A, hA⟩ : ∃ A, A = Batch.tab (l.take i) := ⟨_, rfl⟩
          have hown4 : Batch.Own w4 w3.heap.size 72 u6 A := by rw [hw4, hA]; exact World.ownsRow.alloc HO.out _
          rw [← hw4]
          have hlen2 : A.length ≤ 20000 := by have h1 := Batch.tab_length (l.take i); rw [hA]; rw [List.length_take] at h1; omega
          have HA := Lib.hid hA
          clear hw4 hA hs4
          by_cases hz : i = 0
          · have hp1 : decide ((0 : Int) < (i : Int)) = false := decide_eq_false (by omega)
            have hp2 : decide (0 < i) = false := decide_eq_false (by omega)
            have HNEW := Lib.hid (tab_new HWL.out HS.out HY.out (by rw [hz]; simp))
            clear hz
            go_quiet (fail)
            obtain ⟨y0, y1, y2, _⟩ := trip_cells HBK.out
            go_wp2_with (at_builtin
                         refine wpList_append_own _ rfl _ _ 45 rfl w3.heap.size 72 i0 (.agg #[.int .i64 0, .int .u64 0, .int .i64 0]) 3 24 Tryz.underlying45 hi hz0 hz1 hz2 rfl (by decide) _ _ _ rfl (World.ownsRow.alloc (Batch.Own.draw hown4 _) _) ⟨w4.heap.size, 0, none⟩ 1 1 [.int .i64 yp, .int .u64 yt, .int .i64 yd] rfl rfl (Batch.news3 _ _ _ _ _) ?c2 ?c3 ?c4 ?c5 ?_)
            case c2 => intro u hu; simp at hu; rcases hu with rfl | rfl | rfl <;> rfl
            case c3 => unfold maxLen; omega
            case c4 => omega
            case c5 => simp; omega
            intro v6 w6 hown' hgrow _
            have HB6 := Lib.hid (((below_drewN HB4.out _).alloc (by simpa using hbs4) _).grown hgrow (by simp; omega) (fun k e => (hown4.lt k e).1))
            have HO6 := Lib.hid (show Batch.Own w6 w3.heap.size 72 v6 (Batch.tab (l.take (i + 1))) by
              unfold Batch.Own
              rw [HNEW.out, ← HA.out, List.length_append, Batch.cellsL_append]
              exact hown')
            clear hown4 hown' hgrow y0 y1 y2
            go_wp2_with fail
            go_roundg (gk - 1)
            case measure => have := HIK2.out; have := HLT2.out; omega
            case rel => exact ⟨i + 1, by have := HIK2.out; have := HLT2.out; omega, by go_num, HO6.out, HB6.out⟩
          · obtain ⟨m, hm⟩ : ∃ m, i = m + 1 := ⟨i - 1, by omega⟩
            obtain ⟨x, hx, _⟩ := Batch.at_of (show m < l.length by omega)
            obtain ⟨d0, d1, d2⟩ := (HO3.out.at hx).below HB4.out hg2
            obtain ⟨y0, y1, y2, _⟩ := trip_cells HBK.out
            have hwr : IntKind.i64.wrap ((i : Int) - 1) = (m : Int) := by rw [IntKind.wrap_i64]; omega
            have hm0 : (0 : Int) ≤ (m : Int) := Int.natCast_nonneg _
            have hm1 : (m : Int) < (l.length : Int) := by omega
            have hp1 : (0 : Int) < (i : Int) := by omega
            have hp2 : decide ((0 : Int) < (i : Int)) = true := decide_eq_true hp1
            have hp4 : 0 < i := by omega
            have hp3 : decide (0 < i) = true := decide_eq_true hp4
            have HCM := Lib.hid (fun u v W => compareC_below u v W)
            have hYm : l[m + 1]? = some ⟨yp, yt, yd⟩ := by have := HY.out; rwa [hm] at this
            have HM := Lib.hid hm
            by_cases hkey : Batch.Key x ⟨yp, yt, yd⟩
            case' pos =>
              have hord : (Batch.ordI x ⟨yp, yt, yd⟩ == 0) = true := Batch.eqZ_true hkey
              have HS2 := Lib.hid (tab_same HWL.out HS.out hx hYm hkey)
            case' neg =>
              have hord : (Batch.ordI x ⟨yp, yt, yd⟩ == 0) = false := Batch.eqZ_false hkey
              have HNEW := Lib.hid (tab_new HWL.out HS.out HY.out (by rw [hm]; exact sorted_new HS.out hx hYm hkey))
            all_goals
              obtain ⟨xp, xt, xd⟩ := x
              simp only at d0 d1 d2
              clear hx hz hYm hkey hm
              go_region_held3 (fun w' => w'.cell? ⟨wr.heap.size, 0, none⟩ = some (.int .i64 yp) ∧ w'.cell? ⟨wr.heap.size, 1, none⟩ = some (.int .u64 yt) ∧ w'.cell? ⟨wr.heap.size, 2, none⟩ = some (.int .i64 yd) ∧ w'.cell? ⟨g, m * 3, none⟩ = some (.int .i64 xp) ∧ w'.cell? ⟨g, m * 3 + 1, none⟩ = some (.int .u64 xt) ∧ w'.cell? ⟨g, m * 3 + 2, none⟩ = some (.int .i64 xd))
                (first
                  | go_keep
                  | (go_split_ands
                     refine ⟨?_, ?_, ?_, ?_, ?_, ?_⟩ <;> (rw [hcb.cell (by simp; omega)]; assumption)))
                ((go_at_call 49; refine (HCM.out ⟨xp, xt, xd⟩ ⟨yp, yt, yd⟩ _).mono ?_; rintro e w5 ⟨rfl, hcb⟩))
              have hb45 : Below w4.heap.size w4 w5 := (below_drewN (Below.refl w4.heap.size w4) 1).trans hcb
              have HB5 := Lib.hid (HB4.out.trans (hb45.mono hbs4))
              have hbs5 : w3.heap.size ≤ w5.heap.size := HB5.out.size
              replace hown4 : Batch.Own w5 w3.heap.size 72 u6 A := hown4.below hb45
              have HBK5 := Lib.hid ((hb45.block _ hbk4).trans HBK.out)
              clear y0 y1 y2 d0 d1 d2 hcb hb45 hwr hm0 hm1 hp1 hp2 hp3 hp4
              obtain ⟨y0, y1, y2, _⟩ := trip_cells HBK5.out
            · go_wp2_with (at_builtin
                           refine wpList_append_own _ rfl _ _ 45 rfl w3.heap.size 72 i0 (.agg #[.int .i64 0, .int .u64 0, .int .i64 0]) 3 24 Tryz.underlying45 hi hz0 hz1 hz2 rfl (by decide) _ _ _ rfl (World.ownsRow.alloc (hown4) _) ⟨w5.heap.size, 0, none⟩ 1 1 [.int .i64 yp, .int .u64 yt, .int .i64 yd] rfl rfl (Batch.news3 _ _ _ _ _) ?c2 ?c3 ?c4 ?c5 ?_)
              case c2 => intro u hu; simp at hu; rcases hu with rfl | rfl | rfl <;> rfl
              case c3 => unfold maxLen; omega
              case c4 => omega
              case c5 => simp; omega
              intro v6 w6 hown' hgrow _
              have HB6 := Lib.hid ((HB5.out.alloc (by simpa using hbs5) _).grown hgrow (by simp; omega) (fun k e => (hown4.lt k e).1))
              have HO6 := Lib.hid (show Batch.Own w6 w3.heap.size 72 v6 (Batch.tab (l.take (i + 1))) by
                unfold Batch.Own
                rw [HNEW.out, ← HA.out, List.length_append, Batch.cellsL_append]
                exact hown')
              clear hown4 hown' hgrow y0 y1 y2
              go_wp2_with fail
              go_roundg (gk - 1)
              case measure => have := HIK2.out; have := HLT2.out; omega
              case rel => exact ⟨i + 1, by have := HIK2.out; have := HLT2.out; omega, by go_num, HO6.out, HB6.out⟩
            · obtain ⟨z, hz1', hz2', hz3'⟩ := HS2.out
              rw [← HM.out, ← HA.out] at hz1' hz2' hz3'
              obtain ⟨ga, ca, rfl, hga, hga2, _⟩ := hown4.form.resolve_left (fun h => by rw [h.1] at hz2'; simp at hz2')
              obtain ⟨k, hk⟩ : ∃ k, k = A.length - 1 := ⟨_, rfl⟩
              rw [← hk] at hz1' hz3'
              obtain ⟨k0, k1, k2⟩ := hown4.at hz1'
              have kf := hown4.free (k * 3 + 2)
              have hwk : IntKind.i64.wrap ((A.length : Int) - 1) = (k : Int) := by rw [IntKind.wrap_i64]; omega
              have hwk2 : (A.length : Int) - 1 = (k : Int) := by omega
              have hk0 : (0 : Int) ≤ (k : Int) := Int.natCast_nonneg _
              have hk1 : (k : Int) < (A.length : Int) := by omega
              have HZ := Lib.hid hz1'
              have HZ3 := Lib.hid hz3'
              have HO4 := Lib.hid hown4
              obtain ⟨zp, zt, zd⟩ := z
              simp only at k0 k1 k2
              clear hz1' hz2' hz3' hk hown4 hord k0 k1 y0 y1
              go_wp2_with fail
              go_region
              go_wp2
              go_roundg (gk - 1)
              case measure => have := HIK2.out; have := HLT2.out; omega
              case rel =>
                refine ⟨i + 1, by have := HIK2.out; have := HLT2.out; omega, by go_num, ?_, ?_⟩
                · have h1 := HO4.out.setD HZ.out (Batch.wr (zd + yd))
                  have e : (A.set k ⟨zp, zt, Batch.wr (zd + yd)⟩).length = A.length := by simp
                  rw [HZ3.out, Batch.wrap64_wr']
                  exact h1.drew1
                · exact (HB5.out.setCell (p := ⟨ga, k * 3 + 2, none⟩) hga _).drew
        · have hd1 : decide ((i : Int) < (l.length : Int)) = false := decide_eq_false (by omega)
          have hd2 : decide (i < l.length) = false := decide_eq_false hlt2
          have HO7 := Lib.hid (show Batch.Own wr w3.heap.size 72 u6 (allL H B) by
            have h := HO.out
            rw [List.take_of_length_le (by omega), HT.out] at h
            exact h)
          have HB7 := Lib.hid (HB3.out.trans (HBQ.out.mono HB3.out.size))
          go_wp2_with fail
          go_ret
          exact ⟨_, rfl, HO7.out.mono HB3.out.size, HB7.out⟩
end Go.Proofs.YtlkljeedlkbkgaaGreatDoor.Cl
