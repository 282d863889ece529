/-
  PACKAGE script: changes, Line. (gen/scline.py)
-/
import Derived.Test.YtdbaacalfbbdiaaGreatDoorJoined4
import Derived.Deep.LoopGhost
namespace Go.Proofs.YtdbaacalfbbdiaaGreatDoor.Sc
open Go.RowKit
set_option linter.unusedVariables false
set_option linter.unusedSimpArgs false
theorem Kc {w w' : World} {n g o : Nat} {v : Option Value} (hb : Below n w w') (hg : g < n) (h : w.cell? ⟨g, o, none⟩ = v) : w'.cell? ⟨g, o, none⟩ = v := (hb.cell (p := ⟨g, o, none⟩) hg).trans h
/-! ## What joins make -/
theorem join2 (sep a b : Bs) : joinV sep [a, b] = if a = [] ∨ b = [] then [] else a ++ sep ++ b := by
  unfold joinV
  by_cases h : a = [] ∨ b = []
  · rw [if_pos h, if_pos (by rcases h with h | h <;> simp [h])]
  · rw [if_neg h, if_neg (by intro hm; simp at hm; exact h hm)]
    rw [Lib.join_cons]; simp [Lib.joinTail]
theorem join3 (sep a b c : Bs) : joinV sep [a, b, c] = if a = [] ∨ b = [] ∨ c = [] then [] else a ++ sep ++ (b ++ sep ++ c) := by
  unfold joinV
  by_cases h : a = [] ∨ b = [] ∨ c = []
  · rw [if_pos h, if_pos (by rcases h with h | h | h <;> simp [h])]
  · rw [if_neg h, if_neg (by intro hm; simp at hm; exact h hm)]
    rw [Lib.join_cons]; simp [Lib.joinTail]
theorem placeV_nil (n : Int) : placeV n = [] ↔ ¬ FitN n := by
  unfold placeV
  split
  · rename_i h; exact ⟨fun e => absurd e (itoa_ne _), fun hn => absurd h hn⟩
  · rename_i h; exact ⟨fun _ => h, fun _ => rfl⟩
theorem diffV_nil (n : Int) : diffV n = [] ↔ ¬ (-1000000 ≤ n ∧ n ≤ 1000000) := by
  unfold diffV
  split
  · rename_i h; exact ⟨fun e => absurd e (itoa_ne _), fun hn => absurd h hn⟩
  · rename_i h; exact ⟨fun _ => h, fun _ => rfl⟩
def chJ (x : Batch.Ch) : Bs := joinV [47] [placeV x.p, timeL x.t, diffV x.d]
theorem chJ_eq (x : Batch.Ch) : chJ x = if FitC x then chL x else [] := by
  unfold chJ
  rw [join3]
  by_cases h : FitC x
  · have h' := h
    unfold FitC at h'
    rw [if_pos h, if_neg (by rw [placeV_nil, diffV_nil]; rintro (e | e | e); exact e h'.1; exact timeL_ne _ e; exact e h'.2)]
    unfold chL placeV diffV
    rw [if_pos h'.1, if_pos h'.2]
    simp
  · rw [if_neg h, if_pos]
    rw [placeV_nil, diffV_nil]
    unfold FitC at h
    by_cases h1 : FitN x.p
    · exact .inr (.inr fun h2 => h ⟨h1, h2⟩)
    · exact .inl h1
def chsP (l : List Batch.Ch) : Bs := if 16 < l.length then [] else joinV [44] (l.map chJ)
theorem chsP_eq (l : List Batch.Ch) : chsP l = chsL l := by
  unfold chsP chsL
  by_cases h1 : 16 < l.length
  · rw [if_pos h1, if_pos (.inr (.inl h1))]
  · rw [if_neg h1]
    by_cases h2 : l = []
    · subst h2; rw [if_pos (.inl rfl)]; rfl
    · by_cases h3 : ∀ x ∈ l, FitC x
      · rw [if_neg (by rintro (e | e | e); exact h2 e; exact h1 e; exact e h3)]
        have e : l.map chJ = l.map chL := List.map_congr_left fun x hx => by rw [chJ_eq, if_pos (h3 x hx)]
        unfold joinV
        rw [e, if_neg]
        intro hm
        obtain ⟨y, _, hy⟩ := List.mem_map.1 hm
        unfold chL at hy
        simp at hy
      · rw [if_pos (.inr (.inr h3))]
        unfold joinV
        rw [if_pos]
        simp only [Classical.not_forall] at h3
        obtain ⟨x, hx, hf⟩ := h3
        exact List.mem_map.2 ⟨x, hx, by rw [chJ_eq, if_neg hf]⟩
theorem timeL_len {t : Int} (h : Stamp.U t) : (timeL t).length ≤ 20 := by
  have := Stamp.textS_size h
  rw [bs_time, bs_size] at this
  exact this
theorem itoa_len {n : Int} (h0 : -9223372036854775808 ≤ n) (h1 : n ≤ 9223372036854775807) : (Lib.itoa n).length ≤ 21 := by
  unfold Lib.itoa
  split
  · rw [List.length_cons, Lib.decDigits_length]
    have := Stamp.nDigits_le n.natAbs (by omega); omega
  · rw [Lib.decDigits_length]
    have := Stamp.nDigits_le n.toNat (by omega); omega
theorem placeV_len (n : Int) : (placeV n).length ≤ 21 := by
  unfold placeV
  split
  · rename_i h; unfold FitN at h; exact itoa_len (by omega) (by omega)
  · simp
theorem diffV_len (n : Int) : (diffV n).length ≤ 21 := by
  unfold diffV
  split
  · exact itoa_len (by omega) (by omega)
  · simp
theorem wdL_len (k : Int) : (wdL k).length ≤ 10 := by
  by_cases h : k < 0 ∨ 7 < k
  · rw [show wdL k = [] from if_pos h]; simp
  · obtain rfl | rfl | rfl | rfl | rfl | rfl | rfl | rfl : k = 0 ∨ k = 1 ∨ k = 2 ∨ k = 3 ∨ k = 4 ∨ k = 5 ∨ k = 6 ∨ k = 7 := by omega
    all_goals decide
theorem join_bound {sep : Bs} {M : Nat} : ∀ (xs : List Bs), (∀ x ∈ xs, x.length ≤ M) → sep.length ≤ 1 → (Lib.join xs sep).length ≤ (M + 1) * xs.length
  | [], _, _ => by simp [Lib.join]
  | [x], h, _ => by rw [Lib.join_one]; have := h x (by simp); simp; omega
  | x :: y :: r, h, hs => by
    have ih := join_bound (y :: r) (fun z hz => h z (List.mem_cons_of_mem _ hz)) hs
    have h1 := h x (by simp)
    have e : Lib.join (x :: y :: r) sep = x ++ sep ++ Lib.join (y :: r) sep := by rw [Lib.join_cons, Lib.join_cons]; simp [Lib.joinTail]
    rw [e, List.length_append, List.length_append, List.length_cons (a := x), Nat.mul_add]
    omega
theorem joinV_bound {sep : Bs} {M : Nat} (xs : List Bs) (h : ∀ x ∈ xs, x.length ≤ M) (hs : sep.length ≤ 1) : (joinV sep xs).length ≤ (M + 1) * xs.length := by
  unfold joinV
  split
  · simp
  · exact join_bound xs h hs
theorem chJ_len {x : Batch.Ch} (h : Stamp.U x.t) : (chJ x).length ≤ 66 := by
  have := joinV_bound (sep := [47]) (M := 21) [placeV x.p, timeL x.t, diffV x.d] (by
    intro y hy
    simp at hy
    rcases hy with rfl | rfl | rfl
    · exact placeV_len _
    · have := timeL_len h; omega
    · exact diffV_len _) (by simp)
  exact this
theorem chsP_len {l : List Batch.Ch} (h : ∀ x ∈ l, Stamp.U x.t) : (chsP l).length ≤ 1072 := by
  unfold chsP
  split
  · simp
  · have := joinV_bound (sep := [44]) (M := 66) (l.map chJ) (by
      intro y hy
      obtain ⟨x, hx, rfl⟩ := List.mem_map.1 hy
      exact chJ_len (h x hx)) (by simp)
    rw [List.length_map] at this
    omega
theorem timeS_any (t : Int) (ht : Stamp.U t) {w : World} (hL : SV w) :
    Calls Tryz.prog 32 #[.int .u64 t] w fun e w' => e = .returned (.string (bs (timeL t))) ∧ Below w.heap.size w w' := by
  have h := Stamp.text_any t ht w hL.st.tab
  rw [bs_time] at h
  exact h
/-- A row in the making: the first so many. -/
def upL (L : List Bs) (i j : Nat) : Bs := if j < i then L.getD j [] else []
theorem upL_zero (L : List Bs) : (fun _ => []) = upL L 0 := by funext j; exact (if_neg (by omega)).symm
theorem upL_succ (L : List Bs) {i : Nat} {x : Bs} (h : L[i]? = some x) : (fun j => if j = i then x else upL L i j) = upL L (i + 1) := by
  funext j
  unfold upL
  by_cases e : j = i
  · subst e
    rw [if_pos rfl, if_pos (by omega)]
    simp [List.getD, h]
  · rw [if_neg e]
    by_cases h1 : j < i
    · rw [if_pos h1, if_pos (by omega)]
    · rw [if_neg h1, if_neg (by omega)]
theorem upL_full (L : List Bs) (j : Nat) (x : Bs) (h : L[j]? = some x) : upL L L.length j = x := by
  unfold upL
  rw [if_pos (List.getElem?_eq_some_iff.1 h).1]
  simp [List.getD, h]
set_option maxRecDepth 1000000 in
set_option maxHeartbeats 8000000 in
theorem scChanges_any {w : World} {v : Value} {l : List Batch.Ch} (hv : Batch.Rd w v l) (hl : l.length ≤ 100000) (hL : SV w) :
    Calls Tryz.prog 33 #[v] w fun e w' => e = .returned (.string (bs (chsP l))) ∧ Below w.heap.size w w' := by
  obtain ⟨ao, cap, rfl, hlc, hcm, hwf, hcell⟩ := hv
  have HL := Lib.hid hL
  have HC := Lib.hid hcell
  have HW := Lib.hid hwf
  clear hL hcell hwf
  by_cases h16 : 16 < l.length
  · have HR := Lib.hid (show chsP l = [] from if_pos h16)
    have q : (16 : Int) < (l.length : Int) := by omega
    go_enter Tryz.func33, Tryz.ntmps33
    go_wp2_with fail
    go_ret
    exact ⟨by rw [HR.out]; rfl, Below.refl _ _⟩
  · have HR := Lib.hid (show chsP l = joinV [44] (l.map chJ) from if_neg h16)
    have HLL := Lib.hid h16
    have q : ¬ (16 : Int) < (l.length : Int) := by omega
    obtain ⟨n, hn⟩ : ∃ n, n = l.length := ⟨_, rfl⟩
    obtain ⟨o, hmk, ho⟩ := mk_parts n (by omega)
    have HO := Lib.hid ho
    have HN := Lib.hid hn
    rw [← hn] at q ⊢
    clear ho hn h16
    obtain ⟨g, hg⟩ : ∃ g, g = w.heap.size := ⟨_, rfl⟩
    have HG := Lib.hid hg
    go_enter Tryz.func33, Tryz.ntmps33
    go_wp2_with fail
    obtain ⟨w1, hw1⟩ : ∃ w1, w1 = w.alloc o := ⟨_, rfl⟩
    rw [← hw1, ← hg]
    have HP := Lib.hid (show PtAt w1 g n (upL (l.map chJ) 0) by rw [← upL_zero]; exact HO.out w1 g (by rw [hw1, hg]; exact heap_alloc_new w _))
    have HB1 := Lib.hid (show Below w.heap.size w w1 by rw [hw1]; exact (Below.refl _ _).alloc (Nat.le_refl _) _)
    clear hw1 hmk hg
    go_loopg [14] (n + 1) (fun k t wr => ∃ i : Nat, i + k = n + 1 ∧ i ≤ n ∧ t = .int .i64 i ∧ PtAt wr g n (upL (l.map chJ) i) ∧ Below w.heap.size w wr)
    case atStart => exact ⟨0, by omega, by omega, rfl, HP.out, HB1.out⟩
    case round =>
      obtain ⟨i, hik, hil, rfl, hP, hbw⟩ := hrel
      have HIK := Lib.hid hik
      have HBW := Lib.hid hbw
      have HPW := Lib.hid hP
      clear hik hP hbw
      by_cases hlt1 : i < n
      · obtain ⟨x, hx⟩ : ∃ x, l[i]? = some x := ⟨_, List.getElem?_eq_getElem (by rw [← HN.out]; exact hlt1)⟩
        have hwx := HW.out x (List.mem_of_getElem? hx)
        have hne : l ≠ [] := by intro e; rw [e] at hx; simp at hx
        obtain ⟨b, off, hao, hcc⟩ := HC.out.resolve_left hne
        subst hao
        have qc := hcc i x hx
        have hbl := qc.lt
        obtain ⟨c0, c1, c2⟩ := qc.below HBW.out hbl
        have HU := Lib.hid (show Stamp.U x.t from ⟨hwx.t0, hwx.t1⟩)
        have HX := Lib.hid hx
        obtain ⟨p, t, d⟩ := x
        simp only at c0 c1 c2
        have hi0' : (0 : Int) ≤ (i : Int) := Int.natCast_nonneg _
        have hi1 : (i : Int) < (n : Int) := by omega
        clear hx hne hcc qc hbl hwx HC
        go_upto_region 7 with fail
        obtain ⟨w6, hw6⟩ : ∃ w6, w6 = wr.alloc (.cells #[.int .i64 p, .int .u64 t, .int .i64 d] 68) := ⟨_, rfl⟩
        have hx6 : w6.heap[wr.heap.size]? = some (.cells #[.int .i64 p, .int .u64 t, .int .i64 d] 68 (0, 0)) := by rw [hw6]; exact heap_alloc_new wr _
        have hb6 : Below wr.heap.size wr w6 := by rw [hw6]; exact (Below.refl _ _).alloc (Nat.le_refl _) _
        rw [← hw6]
        clear hw6 c0 c1 c2
        obtain ⟨s, hs⟩ : ∃ s, s = wr.heap.size := ⟨_, rfl⟩
        rw [← hs] at hx6 ⊢
        have a0 : w6.cell? ⟨s, 0, none⟩ = some (.int .i64 p) := by simp [World.cell?, hx6]
        have a1 : w6.cell? ⟨s, 1, none⟩ = some (.int .u64 t) := by simp [World.cell?, hx6]
        have a2 : w6.cell? ⟨s, 2, none⟩ = some (.int .i64 d) := by simp [World.cell?, hx6]
        have HS := Lib.hid (Array.getElem?_eq_some_iff.1 hx6).1
        have HB6 := Lib.hid (HBW.out.trans (hb6.mono HBW.out.size))
        have HP6 := Lib.hid (HPW.out.below hb6)
        have HSG := Lib.hid (show g ≠ s by have := HPW.out.lt; omega)
        have HGW := Lib.hid (show w.heap.size ≤ g by rw [HG.out]; exact Nat.le_refl _)
        clear hx6 hb6 hs
        refine wp_region_held_drew (S := fun w' => w'.cell? ⟨s, 0, none⟩ = some (.int .i64 p) ∧ w'.cell? ⟨s, 1, none⟩ = some (.int .u64 t) ∧ w'.cell? ⟨s, 2, none⟩ = some (.int .i64 d)) (by kernel_rfl) ?_ (fun hHeld => ?_)
        · ((try dsimp only); exact ⟨a0, a1, a2⟩)
        have HB0 := Lib.hid (show Below w6.heap.size w6 w6.drew from below_drewN (Below.refl _ _) 1)
        refine Qt 0 (fun _ => ?_)
        refine Qt 1 (fun _ => ?_)
        refine Qt 2 (fun _ => ?_)
        refine Qt 3 (fun _ => ?_)
        refine Qt 5 (fun _ => ?_)
        refine Qt 6 (fun _ => ?_)
        refine Qt 8 (fun _ => ?_)
        refine Qt 9 (fun _ => ?_)
        refine Qr 4 fun K hK => ?_
        go_simp
        go_at_call 31
        refine (scPlace_any p (HL.out.below (HB6.out.trans (HB0.out.mono HB6.out.size)))).mono ?_
        rintro e w7 ⟨rfl, hb⟩
        have HBw7 := Lib.hid (HB0.out.trans (hb.mono HB0.out.size))
        try go_wp2_with fail
        refine hK.out _ _ ?_ (fun hHeld => ?_)
        · ((try dsimp only); exact ⟨Kc HBw7.out HS.out a0, Kc HBw7.out HS.out a1, Kc HBw7.out HS.out a2⟩)
        clear hK K
        try simp only [Act.put, Qa, Qb, Qc, Qd, Qe, Qf]
        refine Qr 7 fun K hK => ?_
        go_simp
        go_at_call 32
        refine (timeS_any t HU.out (HL.out.below (HB6.out.trans (HBw7.out.mono HB6.out.size)))).mono ?_
        rintro e w8 ⟨rfl, hb⟩
        have HBw8 := Lib.hid (HBw7.out.trans (hb.mono HBw7.out.size))
        try go_wp2_with fail
        refine hK.out _ _ ?_ (fun hHeld => ?_)
        · ((try dsimp only); exact ⟨Kc HBw8.out HS.out a0, Kc HBw8.out HS.out a1, Kc HBw8.out HS.out a2⟩)
        clear hK K
        try simp only [Act.put, Qa, Qb, Qc, Qd, Qe, Qf]
        refine Qr 10 fun K hK => ?_
        go_simp
        go_at_call 64
        refine (diff_any d (HL.out.below (HB6.out.trans (HBw8.out.mono HB6.out.size)))).mono ?_
        rintro e w9 ⟨rfl, hb⟩
        have HBw9 := Lib.hid (HBw8.out.trans (hb.mono HBw8.out.size))
        try go_wp2_with fail
        refine hK.out _ _ ?_ (fun hHeld => ?_)
        · ((try dsimp only); exact ⟨Kc HBw9.out HS.out a0, Kc HBw9.out HS.out a1, Kc HBw9.out HS.out a2⟩)
        clear hK K
        try simp only [Act.put, Qa, Qb, Qc, Qd, Qe, Qf]
        refine Qr 11 fun K hK => ?_
        go_simp
        have HBwa := Lib.hid (HBw9.out.alloc HBw9.out.size (.cells #[.string (bs (placeV p)), .string (bs (timeL t)), .string (bs (diffV d))] 9))
        refine hK.out _ _ ?_ (fun hHeld => ?_)
        · ((try dsimp only); exact ⟨Kc HBwa.out HS.out a0, Kc HBwa.out HS.out a1, Kc HBwa.out HS.out a2⟩)
        clear hK K
        try simp only [Act.put, Qa, Qb, Qc, Qd, Qe, Qf]
        refine Qr 12 fun K hK => ?_
        go_simp
        go_at_call 30
        refine (join_any [47] (rd_three w9 (placeV p) (timeL t) (diffV d)) (by simp) (by have := join_bound (sep := [47]) (M := 21) [placeV p, timeL t, diffV d] (by intro y hy; simp at hy; rcases hy with rfl | rfl | rfl; exact placeV_len _; (have h := timeL_len HU.out; exact Nat.le_trans h (by decide)); exact diffV_len _) (by simp); simp at this; omega)).mono ?_
        rintro e wb ⟨rfl, hb⟩
        have HBwb := Lib.hid (HBwa.out.trans (hb.mono HBwa.out.size))
        try go_wp2_with fail
        refine hK.out _ _ ?_ (fun hHeld => ?_)
        · ((try dsimp only); exact ⟨Kc HBwb.out HS.out a0, Kc HBwb.out HS.out a1, Kc HBwb.out HS.out a2⟩)
        clear hK K
        try simp only [Act.put, Qa, Qb, Qc, Qd, Qe, Qf]
        have hpb := HP6.out.below HBwb.out
        obtain ⟨z0, zf⟩ := hpb.at hlt1
        refine Qt 13 (fun _ => ?_)
        refine Qr 14 fun K hK => ?_
        go_simp
        have HQ := Lib.hid (hpb.set hlt1 (joinV [47] [placeV p, timeL t, diffV d]))
        have HBe := Lib.hid ((HB6.out.trans (HBwb.out.mono HB6.out.size)).setCell (p := ⟨g, i, none⟩) HGW.out (.string (bs (joinV [47] [placeV p, timeL t, diffV d]))))
        refine hK.out _ _ ?_ (fun hHeld => ?_)
        · ((try dsimp only); exact ⟨(World.cell?_setCell_far _ _ _ _ HSG.out).trans (Kc HBwb.out HS.out a0), (World.cell?_setCell_far _ _ _ _ HSG.out).trans (Kc HBwb.out HS.out a1), (World.cell?_setCell_far _ _ _ _ HSG.out).trans (Kc HBwb.out HS.out a2)⟩)
        clear hK K
        try simp only [Act.put, Qa, Qb, Qc, Qd, Qe, Qf]
        refine wpAnyH_done (by kernel_rfl) ?_ _
        clear z0 zf hpb a0 a1 a2
        go_wp2_with fail
        go_roundg (n - i)
        case measure => have := HIK.out; omega
        case rel =>
          have e : (l.map chJ)[i]? = some (joinV [47] [placeV p, timeL t, diffV d]) := by rw [List.getElem?_map, HX.out]; rfl
          have h := HQ.out
          rw [upL_succ _ e] at h
          exact ⟨i + 1, by have := HIK.out; omega, by omega, by go_num, h, HBe.out⟩
      · have hin : i = n := by omega
        subst hin
        have hrd := HPW.out.rd (xs := l.map chJ) (by rw [List.length_map]; exact HN.out.symm) (fun j x hx => by
          have := upL_full (l.map chJ) j x hx
          rwa [List.length_map, ← HN.out] at this)
        have hj := join_any [44] hrd (by rw [List.length_map, ← HN.out]; omega) (by
          have := join_bound (sep := [44]) (M := 66) (l.map chJ) (by
            intro y hy
            obtain ⟨x, hx, rfl⟩ := List.mem_map.1 hy
            have := HW.out x hx
            exact chJ_len ⟨this.t0, this.t1⟩) (by simp)
          rw [List.length_map] at this
          have := HLL.out
          omega)
        have HJ := Lib.hid hj
        clear hj hrd
        go_wp2_with fail
        go_at_call 30
        refine HJ.out.mono ?_
        rintro e w2 ⟨rfl, hb2⟩
        go_wp2_with fail
        go_ret
        exact ⟨by rw [HR.out]; rfl, HBW.out.trans (hb2.mono HBW.out.size)⟩
end Go.Proofs.YtdbaacalfbbdiaaGreatDoor.Sc
