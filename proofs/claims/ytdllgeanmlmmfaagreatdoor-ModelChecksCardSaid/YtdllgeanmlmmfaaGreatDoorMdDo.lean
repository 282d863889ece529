/-
  PACKAGE model: Do, by kind. (gen/mddo.py)
-/
import Derived.Test.YtdllgeanmlmmfaaGreatDoorJoined27
namespace Go.Proofs.YtdllgeanmlmmfaaGreatDoor.Md
open Go.RowKit Gr Cl
set_option linter.unusedVariables false
set_option linter.unusedSimpArgs false
theorem MdP.pre {τ : Nat → Nat} {w1 w2 W : World} {b : Nat} {s : Ms} (h : MdP τ w2 b s W) (hb : Below w1.heap.size w1 w2) : MdP τ w1 b s W := by
  obtain ⟨τ', h1, h2, h3⟩ := h
  exact ⟨τ', h1, (StepM.below hb).trans h2, fun hl => (h3 (Nat.lt_of_lt_of_le hl hb.size)).trans (hb.cell (p := ⟨b, 3, none⟩) hl)⟩
def liftV (V : (Int × Int) × Ms) : (Int × Int × List Int) × Ms := ((V.1.1, V.1.2, []), V.2)
def Calls3 (nb : Nat) (n er : Int) (a : Option Addr) (k kc : Nat) (W w : World) (b : Nat) (τ : Nat → Nat) (V : (Int × Int × List Int) × Ms) : Prop :=
  (∃ W3, W3 = ((W.setCell ⟨nb, 0, none⟩ (.int .i64 n)).setCell ⟨nb, 1, none⟩ (.int .i64 er)).setCell ⟨nb, 2, none⟩ (.slice a k kc) ∧ W3.cell? ⟨nb, 0, none⟩ = some (.int .i64 n) ∧ W3.cell? ⟨nb, 1, none⟩ = some (.int .i64 er) ∧ W3.cell? ⟨nb, 2, none⟩ = some (.slice a k kc) ∧ AnT τ w b V (.returned (.agg #[.int .i64 n, .int .i64 er, .slice a k kc])) W3) ∧
  W.cell? ⟨nb, 0, none⟩ = some (.int .i64 0) ∧ W.cell? ⟨nb, 1, none⟩ = some (.int .i64 0) ∧ W.cell? ⟨nb, 2, none⟩ = some (.slice none 0 0) ∧ ∀ o, W.frozen? ⟨nb, o, none⟩ = false
theorem calls3 {τ : Nat → Nat} {w w1 W : World} {b : Nat} {n er : Int} {a : Option Addr} {k kc : Nat} {s' : Ms} {V : (Int × Int × List Int) × Ms} (hz1 : w1.heap[w.heap.size + 1]? = some (.cells #[.int .i64 0, .int .i64 0, .slice none 0 0] 48 (0, 0))) (hb1 : Below w.heap.size w w1) (hs1 : w1.heap.size = w.heap.size + 1 + 1) (t0 : τ (w.heap.size + 1) = 0) (h1 : V.1.1 = n) (h2 : V.1.2.1 = er) (h3 : V.2 = s') (h4 : V.1.2.2.length = k) (h5 : V.1.2.2 = [] ∧ a = none ∨ TmR W (w.heap.size + 1 + 1) (.slice a k kc) V.1.2.2) (hP : MdP τ w1 b s' W) : Calls3 (w.heap.size + 1) n er a k kc W w b τ V := by
  have hz : W.heap[w.heap.size + 1]? = w1.heap[w.heap.size + 1]? := by
    obtain ⟨τ', _, st, _⟩ := hP
    exact st.out _ (by omega) (.inl t0)
  have hW := hz.trans hz1
  obtain ⟨r0, r1, r2, _⟩ := three_cells (heap_setCell_same _ (w.heap.size + 1) 2 _ _ (.slice a k kc) (heap_setCell_same _ (w.heap.size + 1) 1 _ _ (.int .i64 er) (heap_setCell_same _ (w.heap.size + 1) 0 _ _ (.int .i64 n) hW)))
  refine ⟨⟨_, rfl, r0, r1, r2, ⟨a, kc, ?_, ?_, ?_⟩⟩, three_cells hW⟩
  · rw [h1, h2, h4]
  · rcases h5 with h5 | h5
    · exact .inl h5
    · rw [h4]
      exact .inr ((((h5.far (Nat.lt_succ_self _) _).far (Nat.lt_succ_self _) _).far (Nat.lt_succ_self _) _).mono (by omega))
  · rw [h3]
    refine hP.zero hb1 ((((Below.refl _ _).setCell (Nat.zero_le _) _).setCell (Nat.zero_le _) _).setCell (Nat.zero_le _) _) fun q hq => ?_
    by_cases e : q = w.heap.size + 1
    · exact .inr ⟨by omega, by omega, by rw [e]; exact t0⟩
    · exact .inl ((heap_setCell_other _ _ _ _ e).trans ((heap_setCell_other _ _ _ _ e).trans (heap_setCell_other _ _ _ _ e)))
/-- What a Done or a Wait is answered. -/
def askA (s : Ms) (k p t : Int) : Int × Int := if p < 0 ∨ (s.p : Int) ≤ p then (0, 2) else if k = 6 ∧ s.cl = true then (0, 8) else if t < s.shown p.toNat then (1, 0) else (0, 0)
section
variable {τ : Nat → Nat} {w : World} {b : Nat} {c : Mc} {tv : List Tv} {s : Ms} {x : Th}
set_option maxRecDepth 1000000 in
set_option maxHeartbeats 16000000 in
theorem mdDo5 (h : MdAt τ w b c tv s) (i hd p t : Int) (la : Option Addr) (ln lc : Nat) (y : Int) (hwho : 0 ≤ i ∧ i < s.th.length) (hp : s.p ≤ 64) :
    Calls Tryz.prog 11 #[.pointer (some ⟨b, 0, none⟩), .agg #[.int .i64 5, .int .i64 i, .int .i64 hd, .int .i64 p, .int .u64 t, .slice la ln lc, .int .i64 y]] w (AnT τ w b (((askA s 5 p t).1, (askA s 5 p t).2, []), s)) := by
  obtain ⟨w1, hw1⟩ : ∃ w1, w1 = (w.alloc (.cells #[.int .i64 5, .int .i64 i, .int .i64 hd, .int .i64 p, .int .u64 t, .slice la ln lc, .int .i64 y] 53)).alloc (.cells #[.int .i64 0, .int .i64 0, .slice none 0 0] 48) := ⟨_, rfl⟩
  have hb1 : Below w.heap.size w w1 := by rw [hw1]; exact ((Below.refl _ _).alloc (Nat.le_refl _) _).alloc (by simp) _
  have HXO := Lib.hid (show w1.heap[w.heap.size]? = some (.cells #[.int .i64 5, .int .i64 i, .int .i64 hd, .int .i64 p, .int .u64 t, .slice la ln lc, .int .i64 y] 53 (0, 0)) by rw [hw1, heap_alloc_old _ _ (by simp)]; exact heap_alloc_new w _)
  have HZ := Lib.hid (show w1.heap[w.heap.size + 1]? = some (.cells #[.int .i64 0, .int .i64 0, .slice none 0 0] 48 (0, 0)) by
    rw [hw1]; have h := heap_alloc_new (w.alloc (.cells #[.int .i64 5, .int .i64 i, .int .i64 hd, .int .i64 p, .int .u64 t, .slice la ln lc, .int .i64 y] 53)) (.cells #[.int .i64 0, .int .i64 0, .slice none 0 0] 48); simpa using h)
  have HS1 := Lib.hid (show w1.heap.size = w.heap.size + 1 + 1 by rw [hw1]; simp)
  have HM := Lib.hid (h.below hb1)
  have HB1 := Lib.hid hb1
  have HN := Lib.hid (show w.heap.size < w1.heap.size ∧ w.heap.size + 1 < w1.heap.size by rw [HS1.out]; omega)
  have t0 : τ (w.heap.size + 1) = 0 := Classical.byContradiction fun h' => by have := h.tz _ h'; omega
  have HT0 := Lib.hid t0
  have HT00 := Lib.hid (show τ w.heap.size = 0 from Classical.byContradiction fun h' => by have := h.tz _ h'; omega)
  have HFIN := Lib.hid (fun (n er : Int) (a : Option Addr) (k kc : Nat) (s' : Ms) (W : World) (V : (Int × Int × List Int) × Ms) (h1 : V.1.1 = n) (h2 : V.1.2.1 = er) (h3 : V.2 = s') (h4 : V.1.2.2.length = k) (h5 : V.1.2.2 = [] ∧ a = none ∨ TmR W (w.heap.size + 1 + 1) (.slice a k kc) V.1.2.2) (hP : MdP τ w1 b s' W) => calls3 HZ.out HB1.out HS1.out HT0.out h1 h2 h3 h4 h5 hP)
  have HMAY := Lib.hid (show mayM c 5 i = true by unfold mayM; rw [h.has, decide_eq_true hwho.1, decide_eq_true hwho.2]; rfl)
  obtain ⟨x0, x1, x2, x3, x4, x5, x6⟩ := cells7 HXO.out
  have HME := Lib.hid (fun W (hm : MdAt τ W b c tv s) => (mdAsk_any hm.mc (F := s.shown) (by obtain ⟨g, o, h1, h2⟩ := hm.sh; exact ⟨g, o, h1, h2⟩) (by rw [hm.pp]; exact hp) 5 i hd p t la ln lc y))
  have HAV := Lib.hid (show askM c s.shown 5 p t = askA s 5 p t by unfold askM askA; rw [h.pp, h.cl])
  obtain ⟨n, er, hA⟩ : ∃ n er, askA s 5 p t = (n, er) := ⟨_, _, rfl⟩
  rw [hA]
  have HA := Lib.hid hA
  obtain ⟨s', hs'⟩ : ∃ s', s' = s := ⟨_, rfl⟩
  clear h hb1 t0 hwho hp hA
  go_enter Tryz.func11, Tryz.ntmps11
  go_upto_region 1 with fail
  rw [← hw1]
  clear hw1
  go_wp2_with fail
  go_at_call 34
  refine (mdMay_any HM.out.mc 5 i hd p t la ln lc y).mono ?_
  rw [HMAY.out]
  rintro e w2 ⟨rfl, hb⟩
  have HB2 := Lib.hid hb
  have HM2 := Lib.hid (HM.out.below hb)
  clear x0 x1 x2 x3 x4 x5 x6
  obtain ⟨x0, x1, x2, x3, x4, x5, x6⟩ := cells7 ((hb.block _ HN.out.1).trans HXO.out)
  clear hb
  go_wp2_with fail
  go_at_call 35
  refine (HME.out w2 HM2.out).mono ?_
  rw [HAV.out, HA.out]
  rintro e w3 ⟨rfl, hb3⟩
  subst hs'
  have hP : MdP τ w2 b s' w3 := MdP.same ⟨c, tv, HM2.out⟩ hb3
  clear hb3
  obtain ⟨⟨W3, hW3, r0, r1, r2, hF⟩, z0, z1, z2, zf⟩ := HFIN.out n er none 0 0 s' w3 ((n, er, []), s') rfl rfl rfl rfl (.inl ⟨rfl, rfl⟩) (hP.pre HB2.out)
  have zf0 := zf 0
  have zf1 := zf 1
  have zf2 := zf 2
  have HF := Lib.hid hF
  have HW3 := Lib.hid hW3
  clear zf hF hW3 hP x0 x1 x2 x3 x4 x5 x6
  unfold askV
  dsimp only
  go_wp2_with fail
  rw [HW3.out] at r0 r1 r2
  exact bodyPost_ret (v := .agg #[.int .i64 n, .int .i64 er, .slice none 0 0]) (by simp [results, Tryz.results11, go_sem, r0, r1, r2]) rfl (by have h := HF.out; rw [HW3.out] at h; exact h)
set_option maxRecDepth 1000000 in
set_option maxHeartbeats 16000000 in
theorem mdDo9 (h : MdAt τ w b c tv s) (i hd p t : Int) (la : Option Addr) (ln lc : Nat) (y : Int) (hs1 : Batch.Sorted s.staged) (hs2 : Batch.Sorted s.pool) (hl : s.staged.length + s.pool.length ≤ 100000) :
    Calls Tryz.prog 11 #[.pointer (some ⟨b, 0, none⟩), .agg #[.int .i64 9, .int .i64 i, .int .i64 hd, .int .i64 p, .int .u64 t, .slice la ln lc, .int .i64 y]] w (AnT τ w b (liftV (drainV s))) := by
  obtain ⟨w1, hw1⟩ : ∃ w1, w1 = (w.alloc (.cells #[.int .i64 9, .int .i64 i, .int .i64 hd, .int .i64 p, .int .u64 t, .slice la ln lc, .int .i64 y] 53)).alloc (.cells #[.int .i64 0, .int .i64 0, .slice none 0 0] 48) := ⟨_, rfl⟩
  have hb1 : Below w.heap.size w w1 := by rw [hw1]; exact ((Below.refl _ _).alloc (Nat.le_refl _) _).alloc (by simp) _
  have HXO := Lib.hid (show w1.heap[w.heap.size]? = some (.cells #[.int .i64 9, .int .i64 i, .int .i64 hd, .int .i64 p, .int .u64 t, .slice la ln lc, .int .i64 y] 53 (0, 0)) by rw [hw1, heap_alloc_old _ _ (by simp)]; exact heap_alloc_new w _)
  have HZ := Lib.hid (show w1.heap[w.heap.size + 1]? = some (.cells #[.int .i64 0, .int .i64 0, .slice none 0 0] 48 (0, 0)) by
    rw [hw1]; have h := heap_alloc_new (w.alloc (.cells #[.int .i64 9, .int .i64 i, .int .i64 hd, .int .i64 p, .int .u64 t, .slice la ln lc, .int .i64 y] 53)) (.cells #[.int .i64 0, .int .i64 0, .slice none 0 0] 48); simpa using h)
  have HS1 := Lib.hid (show w1.heap.size = w.heap.size + 1 + 1 by rw [hw1]; simp)
  have HM := Lib.hid (h.below hb1)
  have HB1 := Lib.hid hb1
  have HN := Lib.hid (show w.heap.size < w1.heap.size ∧ w.heap.size + 1 < w1.heap.size by rw [HS1.out]; omega)
  have t0 : τ (w.heap.size + 1) = 0 := Classical.byContradiction fun h' => by have := h.tz _ h'; omega
  have HT0 := Lib.hid t0
  have HT00 := Lib.hid (show τ w.heap.size = 0 from Classical.byContradiction fun h' => by have := h.tz _ h'; omega)
  have HFIN := Lib.hid (fun (n er : Int) (a : Option Addr) (k kc : Nat) (s' : Ms) (W : World) (V : (Int × Int × List Int) × Ms) (h1 : V.1.1 = n) (h2 : V.1.2.1 = er) (h3 : V.2 = s') (h4 : V.1.2.2.length = k) (h5 : V.1.2.2 = [] ∧ a = none ∨ TmR W (w.heap.size + 1 + 1) (.slice a k kc) V.1.2.2) (hP : MdP τ w1 b s' W) => calls3 HZ.out HB1.out HS1.out HT0.out h1 h2 h3 h4 h5 hP)
  have HMAY := Lib.hid (show mayM c 9 i = true by unfold mayM; rfl)
  obtain ⟨x0, x1, x2, x3, x4, x5, x6⟩ := cells7 HXO.out
  have HME0 := Lib.hid (fun W (hm : MdAt τ W b c tv s) => mdDrain_any hm hs1 hs2 hl)
  generalize drainV s = V at *
  obtain ⟨⟨n, er⟩, s'⟩ := V
  clear h hb1 t0 hs1 hs2 hl
  go_enter Tryz.func11, Tryz.ntmps11
  go_upto_region 1 with fail
  rw [← hw1]
  clear hw1
  go_wp2_with fail
  go_at_call 34
  refine (mdMay_any HM.out.mc 9 i hd p t la ln lc y).mono ?_
  rw [HMAY.out]
  rintro e w2 ⟨rfl, hb⟩
  have HB2 := Lib.hid hb
  have HM2 := Lib.hid (HM.out.below hb)
  clear x0 x1 x2 x3 x4 x5 x6
  obtain ⟨x0, x1, x2, x3, x4, x5, x6⟩ := cells7 ((hb.block _ HN.out.1).trans HXO.out)
  clear hb
  have HME := Lib.hid (HME0.out w2 HM2.out)
  go_wp2_with fail
  go_at_call 37
  refine HME.out.mono ?_
  rintro e w3 ⟨rfl, hP⟩
  dsimp only at hP
  obtain ⟨⟨W3, hW3, r0, r1, r2, hF⟩, z0, z1, z2, zf⟩ := HFIN.out n er none 0 0 s' w3 ((n, er, []), s') rfl rfl rfl rfl (.inl ⟨rfl, rfl⟩) (hP.pre HB2.out)
  have zf0 := zf 0
  have zf1 := zf 1
  have zf2 := zf 2
  have HF := Lib.hid hF
  have HW3 := Lib.hid hW3
  clear zf hF hW3 hP x0 x1 x2 x3 x4 x5 x6
  unfold askV
  dsimp only
  go_wp2_with fail
  rw [HW3.out] at r0 r1 r2
  exact bodyPost_ret (v := .agg #[.int .i64 n, .int .i64 er, .slice none 0 0]) (by simp [results, Tryz.results11, go_sem, r0, r1, r2]) rfl (by have h := HF.out; rw [HW3.out] at h; exact h)
set_option maxRecDepth 1000000 in
set_option maxHeartbeats 16000000 in
theorem mdDo1 (h : MdAt τ w b c tv s) (i hd p t : Int) (la : Option Addr) (ln lc : Nat) (y : Int) (hwho : 0 ≤ i ∧ i < s.th.length) (hnc : s.cl = false) (hET : Fault.ErrType w) (V : (Int × Int) × Ms) (hme : ∀ W, MdAt τ W b c tv s → Fault.ErrType W → Calls Tryz.prog 40 #[.pointer (some ⟨b, 0, none⟩), .agg #[.int .i64 1, .int .i64 i, .int .i64 hd, .int .i64 p, .int .u64 t, .slice la ln lc, .int .i64 y]] W (AnP τ W b V)) :
    Calls Tryz.prog 11 #[.pointer (some ⟨b, 0, none⟩), .agg #[.int .i64 1, .int .i64 i, .int .i64 hd, .int .i64 p, .int .u64 t, .slice la ln lc, .int .i64 y]] w (AnT τ w b (liftV V)) := by
  obtain ⟨w1, hw1⟩ : ∃ w1, w1 = (w.alloc (.cells #[.int .i64 1, .int .i64 i, .int .i64 hd, .int .i64 p, .int .u64 t, .slice la ln lc, .int .i64 y] 53)).alloc (.cells #[.int .i64 0, .int .i64 0, .slice none 0 0] 48) := ⟨_, rfl⟩
  have hb1 : Below w.heap.size w w1 := by rw [hw1]; exact ((Below.refl _ _).alloc (Nat.le_refl _) _).alloc (by simp) _
  have HXO := Lib.hid (show w1.heap[w.heap.size]? = some (.cells #[.int .i64 1, .int .i64 i, .int .i64 hd, .int .i64 p, .int .u64 t, .slice la ln lc, .int .i64 y] 53 (0, 0)) by rw [hw1, heap_alloc_old _ _ (by simp)]; exact heap_alloc_new w _)
  have HZ := Lib.hid (show w1.heap[w.heap.size + 1]? = some (.cells #[.int .i64 0, .int .i64 0, .slice none 0 0] 48 (0, 0)) by
    rw [hw1]; have h := heap_alloc_new (w.alloc (.cells #[.int .i64 1, .int .i64 i, .int .i64 hd, .int .i64 p, .int .u64 t, .slice la ln lc, .int .i64 y] 53)) (.cells #[.int .i64 0, .int .i64 0, .slice none 0 0] 48); simpa using h)
  have HS1 := Lib.hid (show w1.heap.size = w.heap.size + 1 + 1 by rw [hw1]; simp)
  have HM := Lib.hid (h.below hb1)
  have HB1 := Lib.hid hb1
  have HN := Lib.hid (show w.heap.size < w1.heap.size ∧ w.heap.size + 1 < w1.heap.size by rw [HS1.out]; omega)
  have t0 : τ (w.heap.size + 1) = 0 := Classical.byContradiction fun h' => by have := h.tz _ h'; omega
  have HT0 := Lib.hid t0
  have HT00 := Lib.hid (show τ w.heap.size = 0 from Classical.byContradiction fun h' => by have := h.tz _ h'; omega)
  have HFIN := Lib.hid (fun (n er : Int) (a : Option Addr) (k kc : Nat) (s' : Ms) (W : World) (V : (Int × Int × List Int) × Ms) (h1 : V.1.1 = n) (h2 : V.1.2.1 = er) (h3 : V.2 = s') (h4 : V.1.2.2.length = k) (h5 : V.1.2.2 = [] ∧ a = none ∨ TmR W (w.heap.size + 1 + 1) (.slice a k kc) V.1.2.2) (hP : MdP τ w1 b s' W) => calls3 HZ.out HB1.out HS1.out HT0.out h1 h2 h3 h4 h5 hP)
  have HMAY := Lib.hid (show mayM c 1 i = true by unfold mayM; rw [h.has, decide_eq_true hwho.1, decide_eq_true hwho.2]; rfl)
  obtain ⟨x0, x1, x2, x3, x4, x5, x6⟩ := cells7 HXO.out
  obtain ⟨⟨n, er⟩, s'⟩ := V
  have HME0 := Lib.hid hme
  have HET := Lib.hid hET
  clear h hb1 t0 hwho hnc hET hme
  go_enter Tryz.func11, Tryz.ntmps11
  go_upto_region 1 with fail
  rw [← hw1]
  clear hw1
  go_wp2_with fail
  go_at_call 34
  refine (mdMay_any HM.out.mc 1 i hd p t la ln lc y).mono ?_
  rw [HMAY.out]
  rintro e w2 ⟨rfl, hb⟩
  have HB2 := Lib.hid hb
  have HM2 := Lib.hid (HM.out.below hb)
  clear x0 x1 x2 x3 x4 x5 x6
  obtain ⟨x0, x1, x2, x3, x4, x5, x6⟩ := cells7 ((hb.block _ HN.out.1).trans HXO.out)
  clear hb
  have HME := Lib.hid (HME0.out w2 HM2.out (((HB1.out.trans (HB2.out.mono HB1.out.size)).cell (p := ⟨_, 0, none⟩) (Lib.lt_of_cell HET.out)).trans HET.out))
  go_wp2_with fail
  go_at_call 40
  refine HME.out.mono ?_
  rintro e w3 ⟨rfl, hP⟩
  dsimp only at hP
  obtain ⟨⟨W3, hW3, r0, r1, r2, hF⟩, z0, z1, z2, zf⟩ := HFIN.out n er none 0 0 s' w3 ((n, er, []), s') rfl rfl rfl rfl (.inl ⟨rfl, rfl⟩) (hP.pre HB2.out)
  have zf0 := zf 0
  have zf1 := zf 1
  have zf2 := zf 2
  have HF := Lib.hid hF
  have HW3 := Lib.hid hW3
  clear zf hF hW3 hP x0 x1 x2 x3 x4 x5 x6
  unfold askV
  dsimp only
  go_wp2_with fail
  rw [HW3.out] at r0 r1 r2
  exact bodyPost_ret (v := .agg #[.int .i64 n, .int .i64 er, .slice none 0 0]) (by simp [results, Tryz.results11, go_sem, r0, r1, r2]) rfl (by have h := HF.out; rw [HW3.out] at h; exact h)
set_option maxRecDepth 1000000 in
set_option maxHeartbeats 16000000 in
theorem mdDo0 (h : MdAt τ w b c tv s) (i hd p t : Int) (la : Option Addr) (ln lc : Nat) (y : Int) (hwho : 0 ≤ i ∧ i < s.th.length) (hnc : s.cl = false) (hET : Fault.ErrType w) (V : (Int × Int) × Ms) (hme : ∀ W, MdAt τ W b c tv s → Fault.ErrType W → Calls Tryz.prog 40 #[.pointer (some ⟨b, 0, none⟩), .agg #[.int .i64 0, .int .i64 i, .int .i64 hd, .int .i64 p, .int .u64 t, .slice la ln lc, .int .i64 y]] W (AnP τ W b V)) :
    Calls Tryz.prog 11 #[.pointer (some ⟨b, 0, none⟩), .agg #[.int .i64 0, .int .i64 i, .int .i64 hd, .int .i64 p, .int .u64 t, .slice la ln lc, .int .i64 y]] w (AnT τ w b (liftV V)) := by
  obtain ⟨w1, hw1⟩ : ∃ w1, w1 = (w.alloc (.cells #[.int .i64 0, .int .i64 i, .int .i64 hd, .int .i64 p, .int .u64 t, .slice la ln lc, .int .i64 y] 53)).alloc (.cells #[.int .i64 0, .int .i64 0, .slice none 0 0] 48) := ⟨_, rfl⟩
  have hb1 : Below w.heap.size w w1 := by rw [hw1]; exact ((Below.refl _ _).alloc (Nat.le_refl _) _).alloc (by simp) _
  have HXO := Lib.hid (show w1.heap[w.heap.size]? = some (.cells #[.int .i64 0, .int .i64 i, .int .i64 hd, .int .i64 p, .int .u64 t, .slice la ln lc, .int .i64 y] 53 (0, 0)) by rw [hw1, heap_alloc_old _ _ (by simp)]; exact heap_alloc_new w _)
  have HZ := Lib.hid (show w1.heap[w.heap.size + 1]? = some (.cells #[.int .i64 0, .int .i64 0, .slice none 0 0] 48 (0, 0)) by
    rw [hw1]; have h := heap_alloc_new (w.alloc (.cells #[.int .i64 0, .int .i64 i, .int .i64 hd, .int .i64 p, .int .u64 t, .slice la ln lc, .int .i64 y] 53)) (.cells #[.int .i64 0, .int .i64 0, .slice none 0 0] 48); simpa using h)
  have HS1 := Lib.hid (show w1.heap.size = w.heap.size + 1 + 1 by rw [hw1]; simp)
  have HM := Lib.hid (h.below hb1)
  have HB1 := Lib.hid hb1
  have HN := Lib.hid (show w.heap.size < w1.heap.size ∧ w.heap.size + 1 < w1.heap.size by rw [HS1.out]; omega)
  have t0 : τ (w.heap.size + 1) = 0 := Classical.byContradiction fun h' => by have := h.tz _ h'; omega
  have HT0 := Lib.hid t0
  have HT00 := Lib.hid (show τ w.heap.size = 0 from Classical.byContradiction fun h' => by have := h.tz _ h'; omega)
  have HFIN := Lib.hid (fun (n er : Int) (a : Option Addr) (k kc : Nat) (s' : Ms) (W : World) (V : (Int × Int × List Int) × Ms) (h1 : V.1.1 = n) (h2 : V.1.2.1 = er) (h3 : V.2 = s') (h4 : V.1.2.2.length = k) (h5 : V.1.2.2 = [] ∧ a = none ∨ TmR W (w.heap.size + 1 + 1) (.slice a k kc) V.1.2.2) (hP : MdP τ w1 b s' W) => calls3 HZ.out HB1.out HS1.out HT0.out h1 h2 h3 h4 h5 hP)
  have HMAY := Lib.hid (show mayM c 0 i = true by unfold mayM; rw [h.has, decide_eq_true hwho.1, decide_eq_true hwho.2]; rfl)
  obtain ⟨x0, x1, x2, x3, x4, x5, x6⟩ := cells7 HXO.out
  obtain ⟨⟨n, er⟩, s'⟩ := V
  have HME0 := Lib.hid hme
  have HET := Lib.hid hET
  clear h hb1 t0 hwho hnc hET hme
  go_enter Tryz.func11, Tryz.ntmps11
  go_upto_region 1 with fail
  rw [← hw1]
  clear hw1
  go_wp2_with fail
  go_at_call 34
  refine (mdMay_any HM.out.mc 0 i hd p t la ln lc y).mono ?_
  rw [HMAY.out]
  rintro e w2 ⟨rfl, hb⟩
  have HB2 := Lib.hid hb
  have HM2 := Lib.hid (HM.out.below hb)
  clear x0 x1 x2 x3 x4 x5 x6
  obtain ⟨x0, x1, x2, x3, x4, x5, x6⟩ := cells7 ((hb.block _ HN.out.1).trans HXO.out)
  clear hb
  have HME := Lib.hid (HME0.out w2 HM2.out (((HB1.out.trans (HB2.out.mono HB1.out.size)).cell (p := ⟨_, 0, none⟩) (Lib.lt_of_cell HET.out)).trans HET.out))
  go_wp2_with fail
  go_at_call 40
  refine HME.out.mono ?_
  rintro e w3 ⟨rfl, hP⟩
  dsimp only at hP
  obtain ⟨⟨W3, hW3, r0, r1, r2, hF⟩, z0, z1, z2, zf⟩ := HFIN.out n er none 0 0 s' w3 ((n, er, []), s') rfl rfl rfl rfl (.inl ⟨rfl, rfl⟩) (hP.pre HB2.out)
  have zf0 := zf 0
  have zf1 := zf 1
  have zf2 := zf 2
  have HF := Lib.hid hF
  have HW3 := Lib.hid hW3
  clear zf hF hW3 hP x0 x1 x2 x3 x4 x5 x6
  unfold askV
  dsimp only
  go_wp2_with fail
  rw [HW3.out] at r0 r1 r2
  exact bodyPost_ret (v := .agg #[.int .i64 n, .int .i64 er, .slice none 0 0]) (by simp [results, Tryz.results11, go_sem, r0, r1, r2]) rfl (by have h := HF.out; rw [HW3.out] at h; exact h)
set_option maxRecDepth 1000000 in
set_option maxHeartbeats 16000000 in
theorem mdDo11 (h : MdAt τ w b c tv s) (i hd p t : Int) (la : Option Addr) (ln lc : Nat) (y : Int) (V : (Int × Int × List Int) × Ms) (hme : ∀ W, MdAt τ W b c tv s → Calls Tryz.prog 39 #[.pointer (some ⟨b, 0, none⟩)] W (AnT τ W b V)) :
    Calls Tryz.prog 11 #[.pointer (some ⟨b, 0, none⟩), .agg #[.int .i64 11, .int .i64 i, .int .i64 hd, .int .i64 p, .int .u64 t, .slice la ln lc, .int .i64 y]] w (AnT τ w b (V)) := by
  obtain ⟨w1, hw1⟩ : ∃ w1, w1 = (w.alloc (.cells #[.int .i64 11, .int .i64 i, .int .i64 hd, .int .i64 p, .int .u64 t, .slice la ln lc, .int .i64 y] 53)).alloc (.cells #[.int .i64 0, .int .i64 0, .slice none 0 0] 48) := ⟨_, rfl⟩
  have hb1 : Below w.heap.size w w1 := by rw [hw1]; exact ((Below.refl _ _).alloc (Nat.le_refl _) _).alloc (by simp) _
  have HXO := Lib.hid (show w1.heap[w.heap.size]? = some (.cells #[.int .i64 11, .int .i64 i, .int .i64 hd, .int .i64 p, .int .u64 t, .slice la ln lc, .int .i64 y] 53 (0, 0)) by rw [hw1, heap_alloc_old _ _ (by simp)]; exact heap_alloc_new w _)
  have HZ := Lib.hid (show w1.heap[w.heap.size + 1]? = some (.cells #[.int .i64 0, .int .i64 0, .slice none 0 0] 48 (0, 0)) by
    rw [hw1]; have h := heap_alloc_new (w.alloc (.cells #[.int .i64 11, .int .i64 i, .int .i64 hd, .int .i64 p, .int .u64 t, .slice la ln lc, .int .i64 y] 53)) (.cells #[.int .i64 0, .int .i64 0, .slice none 0 0] 48); simpa using h)
  have HS1 := Lib.hid (show w1.heap.size = w.heap.size + 1 + 1 by rw [hw1]; simp)
  have HM := Lib.hid (h.below hb1)
  have HB1 := Lib.hid hb1
  have HN := Lib.hid (show w.heap.size < w1.heap.size ∧ w.heap.size + 1 < w1.heap.size by rw [HS1.out]; omega)
  have t0 : τ (w.heap.size + 1) = 0 := Classical.byContradiction fun h' => by have := h.tz _ h'; omega
  have HT0 := Lib.hid t0
  have HT00 := Lib.hid (show τ w.heap.size = 0 from Classical.byContradiction fun h' => by have := h.tz _ h'; omega)
  have HFIN := Lib.hid (fun (n er : Int) (a : Option Addr) (k kc : Nat) (s' : Ms) (W : World) (V : (Int × Int × List Int) × Ms) (h1 : V.1.1 = n) (h2 : V.1.2.1 = er) (h3 : V.2 = s') (h4 : V.1.2.2.length = k) (h5 : V.1.2.2 = [] ∧ a = none ∨ TmR W (w.heap.size + 1 + 1) (.slice a k kc) V.1.2.2) (hP : MdP τ w1 b s' W) => calls3 HZ.out HB1.out HS1.out HT0.out h1 h2 h3 h4 h5 hP)
  have HMAY := Lib.hid (show mayM c 11 i = true by unfold mayM; rfl)
  obtain ⟨x0, x1, x2, x3, x4, x5, x6⟩ := cells7 HXO.out
  obtain ⟨⟨n, er, ts⟩, s'⟩ := V
  have HME0 := Lib.hid hme
  clear h hb1 t0 hme
  go_enter Tryz.func11, Tryz.ntmps11
  go_upto_region 1 with fail
  rw [← hw1]
  clear hw1
  go_wp2_with fail
  go_at_call 34
  refine (mdMay_any HM.out.mc 11 i hd p t la ln lc y).mono ?_
  rw [HMAY.out]
  rintro e w2 ⟨rfl, hb⟩
  have HB2 := Lib.hid hb
  have HM2 := Lib.hid (HM.out.below hb)
  clear x0 x1 x2 x3 x4 x5 x6
  obtain ⟨x0, x1, x2, x3, x4, x5, x6⟩ := cells7 ((hb.block _ HN.out.1).trans HXO.out)
  clear hb
  have HME := Lib.hid (HME0.out w2 HM2.out)
  go_wp2_with fail
  go_at_call 39
  refine HME.out.mono ?_
  rintro e w3 ⟨a3, kc3, rfl, hT, hP⟩
  dsimp only at hP hT ⊢
  obtain ⟨k3, hk3⟩ : ∃ k3, k3 = ts.length := ⟨_, rfl⟩
  rw [← hk3] at hT ⊢
  have hT2 : ts = [] ∧ a3 = none ∨ TmR w3 (w.heap.size + 1 + 1) (.slice a3 k3 kc3) ts := hT.imp id fun h => h.mono (by have h1 := HS1.out; have h2 := HB2.out.size; omega)
  obtain ⟨⟨W3, hW3, r0, r1, r2, hF⟩, z0, z1, z2, zf⟩ := HFIN.out n er a3 k3 kc3 s' w3 ((n, er, ts), s') rfl rfl rfl hk3.symm hT2 (hP.pre HB2.out)
  have zf0 := zf 0
  have zf1 := zf 1
  have zf2 := zf 2
  have HF := Lib.hid hF
  have HW3 := Lib.hid hW3
  clear zf hF hW3 hP x0 x1 x2 x3 x4 x5 x6
  clear hT hT2 hk3
  go_wp2_with fail
  rw [HW3.out] at r0 r1 r2
  exact bodyPost_ret (v := .agg #[.int .i64 n, .int .i64 er, .slice a3 k3 kc3]) (by simp [results, Tryz.results11, go_sem, r0, r1, r2]) rfl (by have h := HF.out; rw [HW3.out] at h; exact h)
set_option maxRecDepth 1000000 in
set_option maxHeartbeats 16000000 in
theorem mdDo8 (h : MdAt τ w b c tv s) (i : Nat) (hd p t : Int) (la : Option Addr) (ln lc : Nat) (y : Int) (hx : s.th[i]? = some x) (hsp : Batch.Sorted s.pool) (hso : ∀ q ∈ x.off, Batch.Sorted q ∧ q.length ≤ 1000) (hlp : s.pool.length ≤ 90000) (hlr : x.ring.length ≤ 1000) :
    Calls Tryz.prog 11 #[.pointer (some ⟨b, 0, none⟩), .agg #[.int .i64 8, .int .i64 ((i : Nat) : Int), .int .i64 hd, .int .i64 p, .int .u64 t, .slice la ln lc, .int .i64 y]] w (AnT τ w b (liftV (putV s i x y))) := by
  have hil := (List.getElem?_eq_some_iff.1 hx).1
  have hwho2 : (i : Int) < (s.th.length : Int) := by omega
  obtain ⟨g, tt0, hth, _, _, _, _, hic, _⟩ := h.thr_at hx
  obtain ⟨w1, hw1⟩ : ∃ w1, w1 = (w.alloc (.cells #[.int .i64 8, .int .i64 ((i : Nat) : Int), .int .i64 hd, .int .i64 p, .int .u64 t, .slice la ln lc, .int .i64 y] 53)).alloc (.cells #[.int .i64 0, .int .i64 0, .slice none 0 0] 48) := ⟨_, rfl⟩
  have hb1 : Below w.heap.size w w1 := by rw [hw1]; exact ((Below.refl _ _).alloc (Nat.le_refl _) _).alloc (by simp) _
  have HXO := Lib.hid (show w1.heap[w.heap.size]? = some (.cells #[.int .i64 8, .int .i64 ((i : Nat) : Int), .int .i64 hd, .int .i64 p, .int .u64 t, .slice la ln lc, .int .i64 y] 53 (0, 0)) by rw [hw1, heap_alloc_old _ _ (by simp)]; exact heap_alloc_new w _)
  have HZ := Lib.hid (show w1.heap[w.heap.size + 1]? = some (.cells #[.int .i64 0, .int .i64 0, .slice none 0 0] 48 (0, 0)) by
    rw [hw1]; have h := heap_alloc_new (w.alloc (.cells #[.int .i64 8, .int .i64 ((i : Nat) : Int), .int .i64 hd, .int .i64 p, .int .u64 t, .slice la ln lc, .int .i64 y] 53)) (.cells #[.int .i64 0, .int .i64 0, .slice none 0 0] 48); simpa using h)
  have HS1 := Lib.hid (show w1.heap.size = w.heap.size + 1 + 1 by rw [hw1]; simp)
  have HM := Lib.hid (h.below hb1)
  have HB1 := Lib.hid hb1
  have HN := Lib.hid (show w.heap.size < w1.heap.size ∧ w.heap.size + 1 < w1.heap.size by rw [HS1.out]; omega)
  have t0 : τ (w.heap.size + 1) = 0 := Classical.byContradiction fun h' => by have := h.tz _ h'; omega
  have HT0 := Lib.hid t0
  have HT00 := Lib.hid (show τ w.heap.size = 0 from Classical.byContradiction fun h' => by have := h.tz _ h'; omega)
  have HFIN := Lib.hid (fun (n er : Int) (a : Option Addr) (k kc : Nat) (s' : Ms) (W : World) (V : (Int × Int × List Int) × Ms) (h1 : V.1.1 = n) (h2 : V.1.2.1 = er) (h3 : V.2 = s') (h4 : V.1.2.2.length = k) (h5 : V.1.2.2 = [] ∧ a = none ∨ TmR W (w.heap.size + 1 + 1) (.slice a k kc) V.1.2.2) (hP : MdP τ w1 b s' W) => calls3 HZ.out HB1.out HS1.out HT0.out h1 h2 h3 h4 h5 hP)
  have HMAY := Lib.hid (show mayM c 8 (i : Int) = true by unfold mayM; rw [h.has, decide_eq_true (Int.natCast_nonneg i), decide_eq_true hwho2]; rfl)
  obtain ⟨x0, x1, x2, x3, x4, x5, x6⟩ := cells7 HXO.out
  have HME0 := Lib.hid (fun W (hm : MdAt τ W b c tv s) => mdPut_any hm hx hth y hsp hso hlp hlr)
  generalize putV s i x y = V at *
  obtain ⟨⟨n, er⟩, s'⟩ := V
  have q0 : (0 : Int) ≤ (i : Int) := Int.natCast_nonneg _
  have q1 : (i : Int) < (c.n : Int) := by omega
  have HTH := Lib.hid hth
  have hnn : w.heap.size + 1 ≠ w.heap.size := by omega
  have hnb : w.heap.size + 1 ≠ b := by have := h.mc.lt; omega
  clear h hb1 t0 hx hth hic hil hwho2 hsp hso hlp hlr
  go_enter Tryz.func11, Tryz.ntmps11
  go_upto_region 1 with fail
  rw [← hw1]
  clear hw1
  go_wp2_with fail
  go_at_call 34
  refine (mdMay_any HM.out.mc 8 (i : Int) hd p t la ln lc y).mono ?_
  rw [HMAY.out]
  rintro e w2 ⟨rfl, hb⟩
  have HB2 := Lib.hid hb
  have HM2 := Lib.hid (HM.out.below hb)
  clear x0 x1 x2 x3 x4 x5 x6
  obtain ⟨x0, x1, x2, x3, x4, x5, x6⟩ := cells7 ((hb.block _ HN.out.1).trans HXO.out)
  clear hb
  have HME := Lib.hid (HME0.out w2.drew (HM2.out.below (below_drewN (Below.refl w2.heap.size w2) 1)))
  have HBL := Lib.hid HM.out.mc.lt
  have y3 := HM2.out.mc.c3
  rw [HTH.out] at y3
  have HY := Lib.hid (And.intro y3 (And.intro x1 x6))
  go_upto_region 13 with fail
  refine wp_region_held_drew (S := (fun w' => w'.cell? ⟨b, 3, none⟩ = some (.slice (some ⟨g, 0, none⟩) c.n c.cth) ∧ w'.cell? ⟨w.heap.size, 1, none⟩ = some (.int .i64 ((i : Nat) : Int)) ∧ w'.cell? ⟨w.heap.size, 6, none⟩ = some (.int .i64 y))) (by kernel_rfl) ?_ (fun hHeld => ?_)
  · ((try dsimp only); exact ⟨y3, x1, x6⟩)
  refine wpAnyH_take (i := 0) (v := ?_) rfl (by kernel_rfl) (by kernel_rfl) (by kernel_rfl) (fun _ _ _ h => h) (Or.inl ⟨by rfl, ?_⟩) (by assumption) ?_
  rotate_left 1
  · (intro w hSw; (try dsimp only at hSw); first | (go_simp; done) | (go_simp; with_reducible rfl))
  try simp only [Act.put, List.setIfInBounds_toArray, List.set_cons_zero, List.set_cons_succ, List.getElem_toArray, List.getElem_cons_zero]
  refine wpAnyH_take (i := 1) (v := ?_) rfl (by kernel_rfl) (by kernel_rfl) (by kernel_rfl) (fun _ _ _ h => h) (Or.inl ⟨by rfl, ?_⟩) (by assumption) ?_
  rotate_left 1
  · (intro w hSw; (try dsimp only at hSw); first | (go_simp; done) | (go_simp; with_reducible rfl))
  try simp only [Act.put, List.setIfInBounds_toArray, List.set_cons_zero, List.set_cons_succ, List.getElem_toArray, List.getElem_cons_zero, List.getElem_cons_succ]
  refine wpAnyH_take (i := 2) (v := ?_) rfl (by kernel_rfl) (by kernel_rfl) (by kernel_rfl) (fun _ _ _ h => h) (Or.inl ⟨by rfl, ?_⟩) (by assumption) ?_
  rotate_left 1
  · (intro w hSw; (try dsimp only at hSw); first | (go_simp; done) | (go_simp; with_reducible rfl))
  try simp only [Act.put, List.setIfInBounds_toArray, List.set_cons_zero, List.set_cons_succ, List.getElem_toArray, List.getElem_cons_zero, List.getElem_cons_succ]
  refine wpAnyH_take (i := 3) (v := ?_) rfl (by kernel_rfl) (by kernel_rfl) (by kernel_rfl) (fun _ _ _ h => h) (Or.inl ⟨by rfl, ?_⟩) (by assumption) ?_
  rotate_left 1
  · (intro w hSw; (try dsimp only at hSw); first | (go_simp; done) | (go_simp; with_reducible rfl))
  try simp only [Act.put, List.setIfInBounds_toArray, List.set_cons_zero, List.set_cons_succ, List.getElem_toArray, List.getElem_cons_zero, List.getElem_cons_succ]
  refine wpAnyH_take (i := 4) (v := ?_) rfl (by kernel_rfl) (by kernel_rfl) (by kernel_rfl) (fun _ _ _ h => h) (Or.inl ⟨by rfl, ?_⟩) (by assumption) ?_
  rotate_left 1
  · (intro w hSw; (try dsimp only at hSw); first | (go_simp; done) | (go_simp; with_reducible rfl))
  try simp only [Act.put, List.setIfInBounds_toArray, List.set_cons_zero, List.set_cons_succ, List.getElem_toArray, List.getElem_cons_zero, List.getElem_cons_succ]
  refine wpAnyH_take (i := 5) (v := ?_) rfl (by kernel_rfl) (by kernel_rfl) (by kernel_rfl) (fun _ _ _ h => h) (Or.inl ⟨by rfl, ?_⟩) (by assumption) ?_
  rotate_left 1
  · (intro w hSw; (try dsimp only at hSw); first | (go_simp; done) | (go_simp; with_reducible rfl))
  try simp only [Act.put, List.setIfInBounds_toArray, List.set_cons_zero, List.set_cons_succ, List.getElem_toArray, List.getElem_cons_zero, List.getElem_cons_succ]
  refine wpAnyH_take (i := 6) (v := ?_) rfl (by kernel_rfl) (by kernel_rfl) (by kernel_rfl) (fun _ _ _ h => h) (Or.inl ⟨by rfl, ?_⟩) (by assumption) ?_
  rotate_left 1
  · (intro w hSw; (try dsimp only at hSw); first | (go_simp; done) | (go_simp; with_reducible rfl))
  try simp only [Act.put, List.setIfInBounds_toArray, List.set_cons_zero, List.set_cons_succ, List.getElem_toArray, List.getElem_cons_zero, List.getElem_cons_succ]
  refine wpAnyH_take (i := 7) (v := ?_) rfl (by kernel_rfl) (by kernel_rfl) (by kernel_rfl) (fun _ _ _ h => h) (Or.inl ⟨by rfl, ?_⟩) (by assumption) ?_
  rotate_left 1
  · (intro w hSw; (try dsimp only at hSw); first | (go_simp; done) | (go_simp; with_reducible rfl))
  try simp only [Act.put, List.setIfInBounds_toArray, List.set_cons_zero, List.set_cons_succ, List.getElem_toArray, List.getElem_cons_zero, List.getElem_cons_succ]
  refine wpAnyH_take (i := 8) (v := ?_) rfl (by kernel_rfl) (by kernel_rfl) (by kernel_rfl) (fun _ _ _ h => h) (Or.inl ⟨by rfl, ?_⟩) (by assumption) ?_
  rotate_left 1
  · (intro w hSw; (try dsimp only at hSw); first | (go_simp; done) | (go_simp; with_reducible rfl))
  try simp only [Act.put, List.setIfInBounds_toArray, List.set_cons_zero, List.set_cons_succ, List.getElem_toArray, List.getElem_cons_zero, List.getElem_cons_succ]
  refine wpAnyH_take (i := 9) (v := ?_) rfl (by kernel_rfl) (by kernel_rfl) (by kernel_rfl) (fun _ _ _ h => h) (Or.inl ⟨by rfl, ?_⟩) (by assumption) ?_
  rotate_left 1
  · (intro w hSw; (try dsimp only at hSw); first | (go_simp; done) | (go_simp; with_reducible rfl))
  try simp only [Act.put, List.setIfInBounds_toArray, List.set_cons_zero, List.set_cons_succ, List.getElem_toArray, List.getElem_cons_zero, List.getElem_cons_succ]
  refine wpAnyH_ready (rs := [10]) (by kernel_rfl) (by simp) ?_
  refine AllReadyH.cons rfl (fun K hK => ?_) AllReadyH.nil
  go_simp
  go_at_call 36
  refine HME.out.mono ?_
  rintro e w3 ⟨rfl, hP0⟩
  dsimp only at hP0
  have hP : MdP τ w2 b s' w3 := hP0.pre (below_drewN (Below.refl w2.heap.size w2) 1)
  have HKP := Lib.hid (show w3.cell? ⟨b, 3, none⟩ = some (.slice (some ⟨g, 0, none⟩) c.n c.cth) ∧ w3.cell? ⟨w.heap.size, 1, none⟩ = some (.int .i64 ((i : Nat) : Int)) ∧ w3.cell? ⟨w.heap.size, 6, none⟩ = some (.int .i64 y) from by
    obtain ⟨τq, _, stq, h3⟩ := hP
    have hlw : w.heap.size < w2.heap.size := Nat.lt_of_lt_of_le HN.out.1 HB2.out.size
    have hbk : w3.heap[w.heap.size]? = w2.heap[w.heap.size]? := stq.out _ hlw (.inl HT00.out)
    exact ⟨(h3 (Nat.lt_of_lt_of_le HBL.out HB2.out.size)).trans HY.out.1, (World.cell?_of_block (w := w2) hbk).trans HY.out.2.1, (World.cell?_of_block (w := w2) hbk).trans HY.out.2.2⟩)
  obtain ⟨⟨W3, hW3, r0, r1, r2, hF⟩, z0, z1, z2, zf⟩ := HFIN.out n er none 0 0 s' w3 ((n, er, []), s') rfl rfl rfl rfl (.inl ⟨rfl, rfl⟩) (hP.pre HB2.out)
  have zf0 := zf 0
  have zf1 := zf 1
  have zf2 := zf 2
  have HF := Lib.hid hF
  have HW3 := Lib.hid hW3
  clear zf hF hW3 hP hP0
  unfold askV
  dsimp only
  refine hK.out _ _ ?_ (fun hHeld => ?_)
  · ((try dsimp only); exact HKP.out)
  clear hK K
  try simp only [Act.put, List.setIfInBounds_toArray, List.set_cons_zero, List.set_cons_succ, List.getElem_toArray, List.getElem_cons_zero, List.getElem_cons_succ]
  have hH := hHeld
  refine wpAnyH_ready (rs := [11]) (by kernel_rfl) (by simp) ?_
  refine AllReadyH.cons rfl (fun K hK => ?_) AllReadyH.nil
  go_simp
  refine hK.out _ _ ?_ (fun hHeld => ?_)
  · ((try dsimp only); exact ⟨(World.cell?_setCell_far _ _ _ _ hnb).trans ((World.cell?_setCell_far _ _ _ _ hnb).trans ((World.cell?_setCell_far _ _ _ _ hnb).trans hH.1)), (World.cell?_setCell_far _ _ _ _ hnn).trans ((World.cell?_setCell_far _ _ _ _ hnn).trans ((World.cell?_setCell_far _ _ _ _ hnn).trans hH.2.1)), (World.cell?_setCell_far _ _ _ _ hnn).trans ((World.cell?_setCell_far _ _ _ _ hnn).trans ((World.cell?_setCell_far _ _ _ _ hnn).trans hH.2.2))⟩)
  clear hK K hH
  try simp only [Act.put, List.setIfInBounds_toArray, List.set_cons_zero, List.set_cons_succ, List.getElem_toArray, List.getElem_cons_zero, List.getElem_cons_succ]
  refine wpAnyH_done (by kernel_rfl) ?_ _
  go_wp2_with fail
  rw [HW3.out] at r0 r1 r2
  exact bodyPost_ret (v := .agg #[.int .i64 n, .int .i64 er, .slice none 0 0]) (by simp [results, Tryz.results11, go_sem, r0, r1, r2]) rfl (by have h := HF.out; rw [HW3.out] at h; exact h)
set_option maxRecDepth 1000000 in
set_option maxHeartbeats 16000000 in
theorem mdDo10 (h : MdAt τ w b c tv s) (i : Nat) (hd p t : Int) (la : Option Addr) (ln lc : Nat) (y : Int) (hx : s.th[i]? = some x) (hsp : Batch.Sorted s.staged) (hso : ∀ q ∈ x.ring, Batch.Sorted q ∧ q.length ≤ 1000) (hlp : s.staged.length ≤ 90000) :
    Calls Tryz.prog 11 #[.pointer (some ⟨b, 0, none⟩), .agg #[.int .i64 10, .int .i64 ((i : Nat) : Int), .int .i64 hd, .int .i64 p, .int .u64 t, .slice la ln lc, .int .i64 y]] w (AnT τ w b (liftV (popV s i x))) := by
  have hil := (List.getElem?_eq_some_iff.1 hx).1
  have hwho2 : (i : Int) < (s.th.length : Int) := by omega
  obtain ⟨g, tt0, hth, _, _, _, _, hic, _⟩ := h.thr_at hx
  obtain ⟨w1, hw1⟩ : ∃ w1, w1 = (w.alloc (.cells #[.int .i64 10, .int .i64 ((i : Nat) : Int), .int .i64 hd, .int .i64 p, .int .u64 t, .slice la ln lc, .int .i64 y] 53)).alloc (.cells #[.int .i64 0, .int .i64 0, .slice none 0 0] 48) := ⟨_, rfl⟩
  have hb1 : Below w.heap.size w w1 := by rw [hw1]; exact ((Below.refl _ _).alloc (Nat.le_refl _) _).alloc (by simp) _
  have HXO := Lib.hid (show w1.heap[w.heap.size]? = some (.cells #[.int .i64 10, .int .i64 ((i : Nat) : Int), .int .i64 hd, .int .i64 p, .int .u64 t, .slice la ln lc, .int .i64 y] 53 (0, 0)) by rw [hw1, heap_alloc_old _ _ (by simp)]; exact heap_alloc_new w _)
  have HZ := Lib.hid (show w1.heap[w.heap.size + 1]? = some (.cells #[.int .i64 0, .int .i64 0, .slice none 0 0] 48 (0, 0)) by
    rw [hw1]; have h := heap_alloc_new (w.alloc (.cells #[.int .i64 10, .int .i64 ((i : Nat) : Int), .int .i64 hd, .int .i64 p, .int .u64 t, .slice la ln lc, .int .i64 y] 53)) (.cells #[.int .i64 0, .int .i64 0, .slice none 0 0] 48); simpa using h)
  have HS1 := Lib.hid (show w1.heap.size = w.heap.size + 1 + 1 by rw [hw1]; simp)
  have HM := Lib.hid (h.below hb1)
  have HB1 := Lib.hid hb1
  have HN := Lib.hid (show w.heap.size < w1.heap.size ∧ w.heap.size + 1 < w1.heap.size by rw [HS1.out]; omega)
  have t0 : τ (w.heap.size + 1) = 0 := Classical.byContradiction fun h' => by have := h.tz _ h'; omega
  have HT0 := Lib.hid t0
  have HT00 := Lib.hid (show τ w.heap.size = 0 from Classical.byContradiction fun h' => by have := h.tz _ h'; omega)
  have HFIN := Lib.hid (fun (n er : Int) (a : Option Addr) (k kc : Nat) (s' : Ms) (W : World) (V : (Int × Int × List Int) × Ms) (h1 : V.1.1 = n) (h2 : V.1.2.1 = er) (h3 : V.2 = s') (h4 : V.1.2.2.length = k) (h5 : V.1.2.2 = [] ∧ a = none ∨ TmR W (w.heap.size + 1 + 1) (.slice a k kc) V.1.2.2) (hP : MdP τ w1 b s' W) => calls3 HZ.out HB1.out HS1.out HT0.out h1 h2 h3 h4 h5 hP)
  have HMAY := Lib.hid (show mayM c 10 (i : Int) = true by unfold mayM; rw [h.has, decide_eq_true (Int.natCast_nonneg i), decide_eq_true hwho2]; rfl)
  obtain ⟨x0, x1, x2, x3, x4, x5, x6⟩ := cells7 HXO.out
  have HME0 := Lib.hid (fun W (hm : MdAt τ W b c tv s) => mdPopR_any hm hx hth hsp hso hlp)
  generalize popV s i x = V at *
  obtain ⟨⟨n, er⟩, s'⟩ := V
  have q0 : (0 : Int) ≤ (i : Int) := Int.natCast_nonneg _
  have q1 : (i : Int) < (c.n : Int) := by omega
  have HTH := Lib.hid hth
  have hnn : w.heap.size + 1 ≠ w.heap.size := by omega
  have hnb : w.heap.size + 1 ≠ b := by have := h.mc.lt; omega
  clear h hb1 t0 hx hth hic hil hwho2 hsp hso hlp
  go_enter Tryz.func11, Tryz.ntmps11
  go_upto_region 1 with fail
  rw [← hw1]
  clear hw1
  go_wp2_with fail
  go_at_call 34
  refine (mdMay_any HM.out.mc 10 (i : Int) hd p t la ln lc y).mono ?_
  rw [HMAY.out]
  rintro e w2 ⟨rfl, hb⟩
  have HB2 := Lib.hid hb
  have HM2 := Lib.hid (HM.out.below hb)
  clear x0 x1 x2 x3 x4 x5 x6
  obtain ⟨x0, x1, x2, x3, x4, x5, x6⟩ := cells7 ((hb.block _ HN.out.1).trans HXO.out)
  clear hb
  have HME := Lib.hid (HME0.out w2.drew (HM2.out.below (below_drewN (Below.refl w2.heap.size w2) 1)))
  have HBL := Lib.hid HM.out.mc.lt
  have y3 := HM2.out.mc.c3
  rw [HTH.out] at y3
  have HY := Lib.hid (And.intro y3 (And.intro x1 x6))
  go_upto_region 17 with fail
  refine wp_region_held_drew (S := (fun w' => w'.cell? ⟨b, 3, none⟩ = some (.slice (some ⟨g, 0, none⟩) c.n c.cth) ∧ w'.cell? ⟨w.heap.size, 1, none⟩ = some (.int .i64 ((i : Nat) : Int)) ∧ w'.cell? ⟨w.heap.size, 6, none⟩ = some (.int .i64 y))) (by kernel_rfl) ?_ (fun hHeld => ?_)
  · ((try dsimp only); exact ⟨y3, x1, x6⟩)
  refine wpAnyH_take (i := 0) (v := ?_) rfl (by kernel_rfl) (by kernel_rfl) (by kernel_rfl) (fun _ _ _ h => h) (Or.inl ⟨by rfl, ?_⟩) (by assumption) ?_
  rotate_left 1
  · (intro w hSw; (try dsimp only at hSw); first | (go_simp; done) | (go_simp; with_reducible rfl))
  try simp only [Act.put, List.setIfInBounds_toArray, List.set_cons_zero, List.set_cons_succ, List.getElem_toArray, List.getElem_cons_zero]
  refine wpAnyH_take (i := 1) (v := ?_) rfl (by kernel_rfl) (by kernel_rfl) (by kernel_rfl) (fun _ _ _ h => h) (Or.inl ⟨by rfl, ?_⟩) (by assumption) ?_
  rotate_left 1
  · (intro w hSw; (try dsimp only at hSw); first | (go_simp; done) | (go_simp; with_reducible rfl))
  try simp only [Act.put, List.setIfInBounds_toArray, List.set_cons_zero, List.set_cons_succ, List.getElem_toArray, List.getElem_cons_zero, List.getElem_cons_succ]
  refine wpAnyH_take (i := 2) (v := ?_) rfl (by kernel_rfl) (by kernel_rfl) (by kernel_rfl) (fun _ _ _ h => h) (Or.inl ⟨by rfl, ?_⟩) (by assumption) ?_
  rotate_left 1
  · (intro w hSw; (try dsimp only at hSw); first | (go_simp; done) | (go_simp; with_reducible rfl))
  try simp only [Act.put, List.setIfInBounds_toArray, List.set_cons_zero, List.set_cons_succ, List.getElem_toArray, List.getElem_cons_zero, List.getElem_cons_succ]
  refine wpAnyH_take (i := 3) (v := ?_) rfl (by kernel_rfl) (by kernel_rfl) (by kernel_rfl) (fun _ _ _ h => h) (Or.inl ⟨by rfl, ?_⟩) (by assumption) ?_
  rotate_left 1
  · (intro w hSw; (try dsimp only at hSw); first | (go_simp; done) | (go_simp; with_reducible rfl))
  try simp only [Act.put, List.setIfInBounds_toArray, List.set_cons_zero, List.set_cons_succ, List.getElem_toArray, List.getElem_cons_zero, List.getElem_cons_succ]
  refine wpAnyH_take (i := 4) (v := ?_) rfl (by kernel_rfl) (by kernel_rfl) (by kernel_rfl) (fun _ _ _ h => h) (Or.inl ⟨by rfl, ?_⟩) (by assumption) ?_
  rotate_left 1
  · (intro w hSw; (try dsimp only at hSw); first | (go_simp; done) | (go_simp; with_reducible rfl))
  try simp only [Act.put, List.setIfInBounds_toArray, List.set_cons_zero, List.set_cons_succ, List.getElem_toArray, List.getElem_cons_zero, List.getElem_cons_succ]
  refine wpAnyH_take (i := 5) (v := ?_) rfl (by kernel_rfl) (by kernel_rfl) (by kernel_rfl) (fun _ _ _ h => h) (Or.inl ⟨by rfl, ?_⟩) (by assumption) ?_
  rotate_left 1
  · (intro w hSw; (try dsimp only at hSw); first | (go_simp; done) | (go_simp; with_reducible rfl))
  try simp only [Act.put, List.setIfInBounds_toArray, List.set_cons_zero, List.set_cons_succ, List.getElem_toArray, List.getElem_cons_zero, List.getElem_cons_succ]
  refine wpAnyH_take (i := 6) (v := ?_) rfl (by kernel_rfl) (by kernel_rfl) (by kernel_rfl) (fun _ _ _ h => h) (Or.inl ⟨by rfl, ?_⟩) (by assumption) ?_
  rotate_left 1
  · (intro w hSw; (try dsimp only at hSw); first | (go_simp; done) | (go_simp; with_reducible rfl))
  try simp only [Act.put, List.setIfInBounds_toArray, List.set_cons_zero, List.set_cons_succ, List.getElem_toArray, List.getElem_cons_zero, List.getElem_cons_succ]
  refine wpAnyH_take (i := 7) (v := ?_) rfl (by kernel_rfl) (by kernel_rfl) (by kernel_rfl) (fun _ _ _ h => h) (Or.inl ⟨by rfl, ?_⟩) (by assumption) ?_
  rotate_left 1
  · (intro w hSw; (try dsimp only at hSw); first | (go_simp; done) | (go_simp; with_reducible rfl))
  try simp only [Act.put, List.setIfInBounds_toArray, List.set_cons_zero, List.set_cons_succ, List.getElem_toArray, List.getElem_cons_zero, List.getElem_cons_succ]
  refine wpAnyH_ready (rs := [8]) (by kernel_rfl) (by simp) ?_
  refine AllReadyH.cons rfl (fun K hK => ?_) AllReadyH.nil
  go_simp
  go_at_call 38
  refine HME.out.mono ?_
  rintro e w3 ⟨rfl, hP0⟩
  dsimp only at hP0
  have hP : MdP τ w2 b s' w3 := hP0.pre (below_drewN (Below.refl w2.heap.size w2) 1)
  have HKP := Lib.hid (show w3.cell? ⟨b, 3, none⟩ = some (.slice (some ⟨g, 0, none⟩) c.n c.cth) ∧ w3.cell? ⟨w.heap.size, 1, none⟩ = some (.int .i64 ((i : Nat) : Int)) ∧ w3.cell? ⟨w.heap.size, 6, none⟩ = some (.int .i64 y) from by
    obtain ⟨τq, _, stq, h3⟩ := hP
    have hlw : w.heap.size < w2.heap.size := Nat.lt_of_lt_of_le HN.out.1 HB2.out.size
    have hbk : w3.heap[w.heap.size]? = w2.heap[w.heap.size]? := stq.out _ hlw (.inl HT00.out)
    exact ⟨(h3 (Nat.lt_of_lt_of_le HBL.out HB2.out.size)).trans HY.out.1, (World.cell?_of_block (w := w2) hbk).trans HY.out.2.1, (World.cell?_of_block (w := w2) hbk).trans HY.out.2.2⟩)
  obtain ⟨⟨W3, hW3, r0, r1, r2, hF⟩, z0, z1, z2, zf⟩ := HFIN.out n er none 0 0 s' w3 ((n, er, []), s') rfl rfl rfl rfl (.inl ⟨rfl, rfl⟩) (hP.pre HB2.out)
  have zf0 := zf 0
  have zf1 := zf 1
  have zf2 := zf 2
  have HF := Lib.hid hF
  have HW3 := Lib.hid hW3
  clear zf hF hW3 hP hP0
  unfold askV
  dsimp only
  refine hK.out _ _ ?_ (fun hHeld => ?_)
  · ((try dsimp only); exact HKP.out)
  clear hK K
  try simp only [Act.put, List.setIfInBounds_toArray, List.set_cons_zero, List.set_cons_succ, List.getElem_toArray, List.getElem_cons_zero, List.getElem_cons_succ]
  have hH := hHeld
  refine wpAnyH_ready (rs := [9]) (by kernel_rfl) (by simp) ?_
  refine AllReadyH.cons rfl (fun K hK => ?_) AllReadyH.nil
  go_simp
  refine hK.out _ _ ?_ (fun hHeld => ?_)
  · ((try dsimp only); exact ⟨(World.cell?_setCell_far _ _ _ _ hnb).trans ((World.cell?_setCell_far _ _ _ _ hnb).trans ((World.cell?_setCell_far _ _ _ _ hnb).trans hH.1)), (World.cell?_setCell_far _ _ _ _ hnn).trans ((World.cell?_setCell_far _ _ _ _ hnn).trans ((World.cell?_setCell_far _ _ _ _ hnn).trans hH.2.1)), (World.cell?_setCell_far _ _ _ _ hnn).trans ((World.cell?_setCell_far _ _ _ _ hnn).trans ((World.cell?_setCell_far _ _ _ _ hnn).trans hH.2.2))⟩)
  clear hK K hH
  try simp only [Act.put, List.setIfInBounds_toArray, List.set_cons_zero, List.set_cons_succ, List.getElem_toArray, List.getElem_cons_zero, List.getElem_cons_succ]
  refine wpAnyH_done (by kernel_rfl) ?_ _
  go_wp2_with fail
  rw [HW3.out] at r0 r1 r2
  exact bodyPost_ret (v := .agg #[.int .i64 n, .int .i64 er, .slice none 0 0]) (by simp [results, Tryz.results11, go_sem, r0, r1, r2]) rfl (by have h := HF.out; rw [HW3.out] at h; exact h)
end
end Go.Proofs.YtdllgeanmlmmfaaGreatDoor.Md
