/-
  PACKAGE hist: Check, of whatever Entries, by what Do answers.
-/
import Derived.Test.YtdllgeanmlmmfaaGreatDoorMdNew
import Derived.Test.YtdllgeanmlmmfaaGreatDoorHsOrder
import Derived.Test.YtdllgeanmlmmfaaGreatDoorGTo
import Derived.BigQuiet
namespace Go.Proofs.YtdllgeanmlmmfaaGreatDoor.Hs
open Go.RowKit Gr Md
set_option linter.unusedVariables false
set_option linter.unusedSimpArgs false

def En.op (x : En) : Value := .agg #[.int .i64 x.kind, .int .i64 x.owho, .int .i64 x.hand, .int .i64 x.port, .int .u64 x.time, .slice x.la x.ln x.lc, .int .i64 x.way]
def En.ans (x : En) : Value := .agg #[.int .i64 x.n, .int .i64 x.err, .slice x.ta x.tn x.tc]
/-- What Do does of each Entry, and whether its answer is the Entry's. -/
def DoSem {S : Type} (w0 : World) (L : List En) (pr : S → Ms) (ok : S → Prop) (step : S → Nat → S) (good : S → Nat → Bool) : Prop :=
  ∀ (s : S) (i : Nat) (x : En) (τ : Nat → Nat) (w : World) (b : Nat), ok s → L[i]? = some x → x.mark ≠ 0 → Below w0.heap.size w0 w → (∀ k, k < w0.heap.size → τ k = 0) → MdI τ w b (pr s) →
    Calls Tryz.prog 11 #[.pointer (some ⟨b, 0, none⟩), x.op] w fun e w' => ∃ n er a k c τ', e = .returned (.agg #[.int .i64 n, .int .i64 er, .slice a k c]) ∧ MdI τ' w' b (pr (step s i)) ∧ StepM τ τ' w w' ∧ ok (step s i) ∧
      ∀ W, Below w'.heap.size w' W → Calls Tryz.prog 84 #[.agg #[.int .i64 n, .int .i64 er, .slice a k c], x.ans] W fun e W' => e = .returned (.bool (good s i)) ∧ Below W.heap.size W W'
/-- The first place whose answer isn't so. -/
def runC {S : Type} (L : List En) (step : S → Nat → S) (good : S → Nat → Bool) : S → List Nat → Int
  | _, [] => -1
  | s, i :: r => if (L[i]?.map (·.fin)).getD 0 ≠ 0 ∧ good s i = false then (i : Int) else runC L step good (step s i) r
theorem runC_cons {S : Type} (L : List En) (step : S → Nat → S) (good : S → Nat → Bool) (s : S) (i : Nat) (r : List Nat) {x : En} (h : L[i]? = some x) : runC L step good s (i :: r) = if x.fin ≠ 0 ∧ good s i = false then (i : Int) else runC L step good (step s i) r := by
  simp only [runC, h, Option.map_some, Option.getD_some]
theorem tk_mem {L : List En} {n j : Nat} (h : j ∈ tk L n) : j < n ∧ mk L j ≠ 0 := by
  unfold tk at h
  obtain ⟨h1, h2⟩ := List.mem_filter.1 h
  exact ⟨by simpa using h1, by simpa using h2⟩
def HsL {S : Type} (w0 : World) (L : List En) (pr : S → Ms) (ok : S → Prop) (step : S → Nat → S) (good : S → Nat → Bool) (s0 : S) (τ : Nat → Nat) (l : List Nat) (b i : Nat) (w4 wr : World) : Prop :=
  ∃ s τ', MdI τ' wr b (pr s) ∧ StepM τ τ' w4 wr ∧ ok s ∧ runC L step good s0 l = runC L step good s (l.drop i)
set_option maxRecDepth 1000000 in
set_option maxHeartbeats 16000000 in
theorem hsCheck_any {S : Type} {w : World} {v ve vi : Value} {E : List Ed} {I : List Int} {p T : Nat} {L : List En} {pr : S → Ms} {ok : S → Prop} {step : S → Nat → S} {good : S → Nat → Bool} {s0 : (Nat → Nat → Int) → S} (R Sh K : Int)
    (he : Rd w ve E) (hi : RdI w vi I) (hok : (planV (p : Int) E I (T : Int) R Sh K).2 = 0) (hg : GOk p E I) (hp : p ≤ 64) (hT : 1 ≤ T ∧ T ≤ 8) (hI : 0 < I.length ∧ I.length ≤ 8) (hv : RdE w v L) (hl : L.length ≤ 65536)
    (hD : DoSem w L pr ok step good) (hs0 : ∀ M, LeastM E true p M → ok (s0 M) ∧ pr (s0 M) = newM p T R I M) :
    Calls Tryz.prog 54 #[.agg #[.int .i64 (p : Int), ve, vi, .int .i64 (T : Int), .int .i64 R, .int .i64 Sh, .int .i64 K], v] w fun e w' => (∃ z : Int, e = .returned (.int .i64 z) ∧ ((rightB (T : Int) L = false ∧ z = -2) ∨ (rightB (T : Int) L = true ∧ ∃ M l, LeastM E true p M ∧ l.Perm (tk L L.length) ∧ RiseM L l ∧ z = runC L step good (s0 M) l))) ∧ Below w.heap.size w w' := by
  obtain ⟨ao, cap, e1, _⟩ := id he
  obtain ⟨aoi, capi, e2, _⟩ := id hi
  obtain ⟨al, capl, e3, _, hcell⟩ := id hv
  subst e1 e2 e3
  obtain ⟨w1, hw1⟩ : ∃ w1, w1 = w.alloc (.cells #[.int .i64 (p : Int), .slice ao E.length cap, .slice aoi I.length capi, .int .i64 (T : Int), .int .i64 R, .int .i64 Sh, .int .i64 K] 35) := ⟨_, rfl⟩
  have HX := Lib.hid (show w1.heap[w.heap.size]? = some (.cells #[.int .i64 (p : Int), .slice ao E.length cap, .slice aoi I.length capi, .int .i64 (T : Int), .int .i64 R, .int .i64 Sh, .int .i64 K] 35 (0, 0)) by rw [hw1]; exact heap_alloc_new w _)
  have HB := Lib.hid (show Below w.heap.size w w1 by rw [hw1]; exact (Below.refl _ _).alloc (Nat.le_refl _) _)
  have HN := Lib.hid (mdNew_ok R Sh K (he.below HB.out) (hi.below HB.out) hok hg hp hT hI)
  have HV := Lib.hid hv
  have HC := Lib.hid hcell
  have HLL := Lib.hid hl
  have HD := Lib.hid hD
  have HS0 := Lib.hid hs0
  clear he hi hok hg hp hT hI hv hl hD hs0 hcell
  go_enter Tryz.func54, Tryz.ntmps54
  go_upto_region 1 with fail
  rw [← hw1]
  clear hw1
  obtain ⟨y0, y1, y2, y3, y4, y5, y6⟩ := cells7 HX.out
  go_wp2_with fail
  go_at_call 8
  refine HN.out.mono ?_
  rintro e w2 ⟨b, τ, M, rfl, hmd, hlm, ht0, hb2⟩
  have HMD := Lib.hid hmd
  have HLM := Lib.hid hlm
  have HT0 := Lib.hid ht0
  have hn1 : w.heap.size < w1.heap.size := (Array.getElem?_eq_some_iff.1 HX.out).1
  have hx2 := (hb2.block _ hn1).trans HX.out
  have HB2 := Lib.hid (HB.out.trans (hb2.mono HB.out.size))
  have HN1 := Lib.hid (And.intro hn1 hb2.size)
  clear y0 y1 y2 y3 y4 y5 y6 hmd hlm ht0 hb2 hn1
  obtain ⟨y0, y1, y2, y3, y4, y5, y6⟩ := cells7 hx2
  clear hx2
  go_wp2_with fail
  go_at_call 21
  refine (hsRight_any (T : Int) (HV.out.below HB2.out)).mono ?_
  rintro e w3 ⟨rfl, hb3⟩
  have HB3 := Lib.hid (HB2.out.trans (hb3.mono HB2.out.size))
  have HB23 := Lib.hid hb3
  clear hb3 y0 y1 y2 y3 y4 y5 y6
  cases hr : rightB (T : Int) L with
  | false =>
    have HR := Lib.hid hr
    clear HD HS0
    go_wp2_with fail
    go_ret
    exact ⟨⟨-2, rfl, .inl ⟨HR.out, rfl⟩⟩, HB3.out⟩
  | true =>
    have HR := Lib.hid hr
    clear hr
    go_wp2_with fail
    go_at_call 83
    refine (hsOrder_any (HV.out.below HB3.out) HLL.out).mono ?_
    rintro e w4 ⟨v', l, rfl, ho, hpm, hrs, hb4⟩
    obtain ⟨gl', cl, rfl⟩ := ho.form2
    have hln : l.length ≤ 65536 := by have h1 := hpm.length_eq; have h2 := tk_length L L.length; have h3 := HLL.out; omega
    have HO := Lib.hid ho
    have HPM := Lib.hid hpm
    have HRS := Lib.hid hrs
    have hb24 : Below w2.heap.size w2 w4 := HB23.out.trans (hb4.mono HB23.out.size)
    have HB4 := Lib.hid (HB2.out.trans (hb24.mono HB2.out.size))
    have HMD4 := Lib.hid (show MdI τ w4 b (pr (s0 M)) by
      obtain ⟨c, tv, h⟩ := HMD.out
      rw [(HS0.out M HLM.out).2]
      exact ⟨c, tv, h.below hb24⟩)
    have HTL := Lib.hid (show ∀ k, τ k ≠ 0 → k < w2.heap.size by
      obtain ⟨c, tv, h⟩ := HMD.out
      exact h.tz)
    have HS3 := Lib.hid (And.intro HB23.out.size hb24.size)
    clear ho hpm hrs hb4 hb24 HMD
    go_wp2_with fail
    go_loopg [27] l.length (fun k s27 wr => ∃ i : Nat, i + k = l.length ∧ s27 = .int .i64 i ∧ Hid (HsL w L pr ok step good (s0 M) τ l b i w4 wr))
    case atStart => exact ⟨0, by omega, rfl, Lib.hid ⟨s0 M, τ, HMD4.out, StepM.refl _ _, (HS0.out M HLM.out).1, rfl⟩⟩
    case round =>
      obtain ⟨i, hik, rfl, hH⟩ := hrel
      obtain ⟨s, τ', hmd, hst, hos, hrun⟩ := hH.out
      have HIK := Lib.hid hik
      have hbw : Below w.heap.size w wr := HB4.out.trans (hst.low (fun k hk => HT0.out k (Nat.lt_trans hk HN1.out.1)) HB4.out.size)
      have HBW := Lib.hid hbw
      have HMS := Lib.hid (And.intro hmd (And.intro hst (And.intro hos hrun)))
      clear hik hmd hst hos hrun hH HMD4
      have hi0 : (0 : Int) ≤ (i : Int) := Int.natCast_nonneg _
      by_cases hlt : i < l.length
      · have hi1 : (i : Int) < (l.length : Int) := by omega
        obtain ⟨q, hq⟩ : ∃ q, l[i]? = some q := ⟨_, List.getElem?_eq_getElem hlt⟩
        obtain ⟨hql, hqk⟩ := tk_mem (HPM.out.mem_iff.1 (List.mem_of_getElem? hq))
        obtain ⟨x, hx⟩ : ∃ x, L[q]? = some x := ⟨_, List.getElem?_eq_getElem hql⟩
        have hxm : x.mark ≠ 0 := by rw [mk_of hx] at hqk; exact hqk
        obtain ⟨gl, hgl, hgl0, hgl1⟩ : ∃ gl, gl' = some ⟨gl, 0, none⟩ ∧ w3.heap.size + 1 ≤ gl ∧ gl < w4.heap.size := by
          rcases HO.out.form with ⟨h, _⟩ | ⟨g, c, h, h1, h2, _⟩
          · rw [h] at hlt; simp at hlt
          · simp at h; exact ⟨g, h.1, h1, h2⟩
        subst hgl
        have c0 : wr.cell? ⟨gl, i, none⟩ = some (.int .i64 (q : Int)) := by
          have h1 := HO.out.at hq 0 _ (by decide) rfl
          rw [show i * nK.k + 0 = i by show i * 1 + 0 = i; omega] at h1
          have h2 : τ gl = 0 := Classical.byContradiction fun h => by have := HTL.out gl h; have := HS3.out.1; omega
          exact (World.cell?_of_block (w := w4) (HMS.out.2.1.out gl hgl1 (.inl h2))).trans h1
        obtain ⟨bl, ol, hal, hcc⟩ := HC.out.resolve_left (fun h => by rw [h] at hql; simp at hql)
        subst hal
        have hen := ((hcc q x hx).1).below hbw ((hcc q x hx).1.lt)
        have HEN := Lib.hid (show EnAt wr bl (ol + q * 14) x from hen)
        obtain ⟨_, _, _, _, x4, x5, x6, x7, x8, x9, x10, _, _, _⟩ := hen
        have hq0 : (0 : Int) ≤ (q : Int) := Int.natCast_nonneg _
        have hq1 : (q : Int) < (L.length : Int) := by omega
        have hd := HD.out s q x τ' wr b HMS.out.2.2.1 hx hxm hbw (fun k hk => (HMS.out.2.1.ext k (Nat.lt_of_lt_of_le hk HB4.out.size)).trans (HT0.out k (Nat.lt_trans hk HN1.out.1))) HMS.out.1
        unfold En.op En.ans at hd
        have HDO := Lib.hid hd
        have HX := Lib.hid hx
        have HQ := Lib.hid hq
        have HLT := Lib.hid hlt
        have HBL := Lib.hid (show bl < w.heap.size from (hcc q x hx).1.lt)
        clear hbw hlt hq hql hqk hx hxm hgl0 hgl1 hcc hd
        go_wp2_with fail
        go_at_call 11
        refine HDO.out.mono ?_
        rintro e w5 ⟨n, er, a, k5, c, τ5, rfl, hmd5, hst5, hos5, hsm⟩
        have hb5 : Below w.heap.size w w5 := HBW.out.trans (hst5.low (fun k hk => (HMS.out.2.1.ext k (Nat.lt_of_lt_of_le hk HB4.out.size)).trans (HT0.out k (Nat.lt_trans hk HN1.out.1))) HBW.out.size)
        obtain ⟨w6, hw6⟩ : ∃ w6, w6 = w5.alloc (.cells #[.int .i64 n, .int .i64 er, .slice a k5 c] 48) := ⟨_, rfl⟩
        have hb56 : Below w5.heap.size w5 w6 := by rw [hw6]; exact (Below.refl _ _).alloc (Nat.le_refl _) _
        obtain ⟨a0, a1, a2, _⟩ := three_cells (show w6.heap[w5.heap.size]? = some (.cells #[.int .i64 n, .int .i64 er, .slice a k5 c] 48 (0, 0)) by rw [hw6]; exact heap_alloc_new w5 _)
        have hb6 := hb5.trans (hb56.mono hb5.size)
        obtain ⟨_, _, _, e3, _, _, _, _, _, _, _, e11, e12, e13⟩ := (HEN.out.of_cells (w' := w6) (fun j => (hb6.cell (p := ⟨bl, j, none⟩) HBL.out).trans (HBW.out.cell (p := ⟨bl, j, none⟩) HBL.out).symm))
        have HSM := Lib.hid (fun W (h : Below w6.heap.size w6 W) => hsm W (hb56.trans (h.mono hb56.size)))
        have HMD6 := Lib.hid (show MdI τ5 w6 b (pr (step s q)) by obtain ⟨c, tv, h⟩ := hmd5; exact ⟨c, tv, h.below hb56⟩)
        have HST6 := Lib.hid (show StepM τ τ5 w4 w6 from HMS.out.2.1.trans (hst5.trans (StepM.below hb56)))
        have HOS := Lib.hid hos5
        have HB6 := Lib.hid hb6
        have HRN := Lib.hid (show runC L step good (s0 M) l = if x.fin ≠ 0 ∧ good s q = false then (q : Int) else runC L step good (step s q) (l.drop (i + 1)) by
          rw [HMS.out.2.2.2, List.drop_eq_getElem_cons HLT.out, show l[i]'HLT.out = q from by have := HQ.out; rw [List.getElem?_eq_getElem HLT.out] at this; exact Option.some.inj this, runC_cons L step good s q _ HX.out])
        have HH5 := Lib.hid (show w5.heap.size < w6.heap.size by rw [hw6]; simp)
        clear hmd5 hst5 hos5 hsm hb5 hb56 hb6 x4 x5 x6 x7 x8 x9 x10 c0 HMS HDO HEN HQ
        go_upto_region 8 with fail
        rw [← hw6]
        clear hw6
        have HY6 := Lib.hid (show w6.cell? ⟨bl, ol + q * 14 + 3, none⟩ = some (.int .i64 x.fin) ∧ w6.cell? ⟨w5.heap.size, 0, none⟩ = some (.int .i64 n) ∧ w6.cell? ⟨w5.heap.size, 1, none⟩ = some (.int .i64 er) ∧ w6.cell? ⟨w5.heap.size, 2, none⟩ = some (.slice a k5 c) ∧ w6.cell? ⟨bl, ol + q * 14 + 11, none⟩ = some (.int .i64 x.n) ∧ w6.cell? ⟨bl, ol + q * 14 + 12, none⟩ = some (.int .i64 x.err) ∧ w6.cell? ⟨bl, ol + q * 14 + 13, none⟩ = some (.slice x.ta x.tn x.tc) from ⟨e3, a0, a1, a2, e11, e12, e13⟩)
        by_cases hf : x.fin = 0
        · have d1 : (x.fin != 0) = false := by simp [hf]
          have HG := Lib.hid (show runC L step good (s0 M) l = runC L step good (step s q) (l.drop (i + 1)) by rw [HRN.out, if_neg (fun h => h.1 hf)])
          clear hf
          refine wp_region_held_drew (S := (fun w' => w'.cell? ⟨bl, ol + q * 14 + 3, none⟩ = some (.int .i64 x.fin) ∧ w'.cell? ⟨w5.heap.size, 0, none⟩ = some (.int .i64 n) ∧ w'.cell? ⟨w5.heap.size, 1, none⟩ = some (.int .i64 er) ∧ w'.cell? ⟨w5.heap.size, 2, none⟩ = some (.slice a k5 c) ∧ w'.cell? ⟨bl, ol + q * 14 + 11, none⟩ = some (.int .i64 x.n) ∧ w'.cell? ⟨bl, ol + q * 14 + 12, none⟩ = some (.int .i64 x.err) ∧ w'.cell? ⟨bl, ol + q * 14 + 13, none⟩ = some (.slice x.ta x.tn x.tc))) (by kernel_rfl) ?_ (fun hHeld => ?_)
          · ((try dsimp only); exact ⟨e3, a0, a1, a2, e11, e12, e13⟩)
          refine wpAnyH_take (i := 0) (v := ?_) rfl (by kernel_rfl) (by kernel_rfl) (by kernel_rfl) (fun _ _ _ h => h) (Or.inl ⟨by rfl, ?_⟩) (by assumption) ?_
          rotate_left 1
          · (intro w hSw; (try dsimp only at hSw); first | (go_simp; done) | (go_simp; with_reducible rfl))
          try simp only [Act.put, List.setIfInBounds_toArray, List.set_cons_zero, List.set_cons_succ, List.getElem_toArray, List.getElem_cons_zero]
          refine wpAnyH_take (i := 1) (v := ?_) rfl (by kernel_rfl) (by kernel_rfl) (by kernel_rfl) (fun _ _ _ h => h) (Or.inl ⟨by rfl, ?_⟩) (by assumption) ?_
          rotate_left 1
          · (intro w hSw; (try dsimp only at hSw); first | (go_simp; done) | (go_simp; with_reducible rfl))
          try simp only [Act.put, List.setIfInBounds_toArray, List.set_cons_zero, List.set_cons_succ, List.getElem_toArray, List.getElem_cons_zero, List.getElem_cons_succ]
          refine wpAnyH_take (i := 2) (v := ?_) rfl (by kernel_rfl) (by kernel_rfl) (by kernel_rfl) (fun _ _ _ h => h) (Or.inl ⟨by rfl, ?_⟩) (by assumption) ?_
          rotate_left 1
          · (intro w hSw; (try dsimp only at hSw); first | (go_simp; done) | (go_simp; with_reducible rfl))
          try simp only [Act.put, List.setIfInBounds_toArray, List.set_cons_zero, List.set_cons_succ, List.getElem_toArray, List.getElem_cons_zero, List.getElem_cons_succ]
          refine wpAnyH_take (i := 3) (v := ?_) rfl (by kernel_rfl) (by kernel_rfl) (by kernel_rfl) (fun _ _ _ h => h) (Or.inl ⟨by rfl, ?_⟩) (by assumption) ?_
          rotate_left 1
          · (intro w hSw; (try dsimp only at hSw); first | (go_simp; done) | (go_simp; with_reducible rfl))
          try simp only [Act.put, List.setIfInBounds_toArray, List.set_cons_zero, List.set_cons_succ, List.getElem_toArray, List.getElem_cons_zero, List.getElem_cons_succ]
          refine wpAnyH_take (i := 4) (v := ?_) rfl (by kernel_rfl) (by kernel_rfl) (by kernel_rfl) (fun _ _ _ h => h) (Or.inl ⟨by rfl, ?_⟩) (by assumption) ?_
          rotate_left 1
          · (intro w hSw; (try dsimp only at hSw); first | (go_simp; done) | (go_simp; with_reducible rfl))
          try simp only [Act.put, List.setIfInBounds_toArray, List.set_cons_zero, List.set_cons_succ, List.getElem_toArray, List.getElem_cons_zero, List.getElem_cons_succ]
          refine wpAnyH_take (i := 5) (v := ?_) rfl (by kernel_rfl) (by kernel_rfl) (by kernel_rfl) (fun _ _ _ h => h) (Or.inl ⟨by rfl, ?_⟩) (by assumption) ?_
          rotate_left 1
          · (intro w hSw; (try dsimp only at hSw); first | (go_simp; done) | (go_simp; with_reducible rfl))
          try simp only [Act.put, List.setIfInBounds_toArray, List.set_cons_zero, List.set_cons_succ, List.getElem_toArray, List.getElem_cons_zero, List.getElem_cons_succ]
          refine wpAnyH_take (i := 6) (v := ?_) rfl (by kernel_rfl) (by kernel_rfl) (by kernel_rfl) (fun _ _ _ h => h) (Or.inl ⟨by rfl, ?_⟩) (by assumption) ?_
          rotate_left 1
          · (intro w hSw; (try dsimp only at hSw); first | (go_simp; done) | (go_simp; with_reducible rfl))
          try simp only [Act.put, List.setIfInBounds_toArray, List.set_cons_zero, List.set_cons_succ, List.getElem_toArray, List.getElem_cons_zero, List.getElem_cons_succ]
          refine wpAnyH_take (i := 7) (v := undef) rfl (by kernel_rfl) (by kernel_rfl) (by kernel_rfl) (fun _ _ _ h => h) (Or.inr ⟨by rfl, rfl⟩) (by assumption) ?_
          try simp only [Act.put, List.setIfInBounds_toArray, List.set_cons_zero, List.set_cons_succ, List.getElem_toArray, List.getElem_cons_zero, List.getElem_cons_succ]
          refine wpAnyH_take (i := 8) (v := undef) rfl (by kernel_rfl) (by kernel_rfl) (by kernel_rfl) (fun _ _ _ h => h) (Or.inr ⟨by rfl, rfl⟩) (by assumption) ?_
          try simp only [Act.put, List.setIfInBounds_toArray, List.set_cons_zero, List.set_cons_succ, List.getElem_toArray, List.getElem_cons_zero, List.getElem_cons_succ]
          refine wpAnyH_take (i := 9) (v := undef) rfl (by kernel_rfl) (by kernel_rfl) (by kernel_rfl) (fun _ _ _ h => h) (Or.inr ⟨by rfl, rfl⟩) (by assumption) ?_
          try simp only [Act.put, List.setIfInBounds_toArray, List.set_cons_zero, List.set_cons_succ, List.getElem_toArray, List.getElem_cons_zero, List.getElem_cons_succ]
          refine wpAnyH_take (i := 10) (v := undef) rfl (by kernel_rfl) (by kernel_rfl) (by kernel_rfl) (fun _ _ _ h => h) (Or.inr ⟨by rfl, rfl⟩) (by assumption) ?_
          try simp only [Act.put, List.setIfInBounds_toArray, List.set_cons_zero, List.set_cons_succ, List.getElem_toArray, List.getElem_cons_zero, List.getElem_cons_succ]
          refine wpAnyH_take (i := 11) (v := undef) rfl (by kernel_rfl) (by kernel_rfl) (by kernel_rfl) (fun _ _ _ h => h) (Or.inr ⟨by rfl, rfl⟩) (by assumption) ?_
          try simp only [Act.put, List.setIfInBounds_toArray, List.set_cons_zero, List.set_cons_succ, List.getElem_toArray, List.getElem_cons_zero, List.getElem_cons_succ]
          refine wpAnyH_take (i := 12) (v := undef) rfl (by kernel_rfl) (by kernel_rfl) (by kernel_rfl) (fun _ _ _ h => h) (Or.inr ⟨by rfl, rfl⟩) (by assumption) ?_
          try simp only [Act.put, List.setIfInBounds_toArray, List.set_cons_zero, List.set_cons_succ, List.getElem_toArray, List.getElem_cons_zero, List.getElem_cons_succ]
          refine wpAnyH_take (i := 13) (v := undef) rfl (by kernel_rfl) (by kernel_rfl) (by kernel_rfl) (fun _ _ _ h => h) (Or.inr ⟨by rfl, rfl⟩) (by assumption) ?_
          try simp only [Act.put, List.setIfInBounds_toArray, List.set_cons_zero, List.set_cons_succ, List.getElem_toArray, List.getElem_cons_zero, List.getElem_cons_succ]
          refine wpAnyH_take (i := 14) (v := undef) rfl (by kernel_rfl) (by kernel_rfl) (by kernel_rfl) (fun _ _ _ h => h) (Or.inr ⟨by rfl, rfl⟩) (by assumption) ?_
          try simp only [Act.put, List.setIfInBounds_toArray, List.set_cons_zero, List.set_cons_succ, List.getElem_toArray, List.getElem_cons_zero, List.getElem_cons_succ]
          refine wpAnyH_take (i := 15) (v := ?_) rfl (by kernel_rfl) (by kernel_rfl) (by kernel_rfl) (fun _ _ _ h => h) (Or.inl ⟨by rfl, ?_⟩) (by assumption) ?_
          rotate_left 1
          · (intro w hSw; (try dsimp only at hSw); first | (go_simp; done) | (go_simp; with_reducible rfl))
          try simp only [Act.put, List.setIfInBounds_toArray, List.set_cons_zero, List.set_cons_succ, List.getElem_toArray, List.getElem_cons_zero, List.getElem_cons_succ]
          refine wpAnyH_done (by kernel_rfl) ?_ _
          go_wp2_with fail
          go_roundg (gk - 1)
          case measure => have := HIK.out; have := HLT.out; omega
          case rel => exact ⟨i + 1, by have := HIK.out; have := HLT.out; omega, by go_num, Lib.hid (by
            obtain ⟨c, tv, h⟩ := HMD6.out
            have hbf : Below w6.heap.size w6 w6.drew := below_drewN (Below.refl _ _) 1
            exact ⟨step s q, τ5, ⟨c, tv, h.below hbf⟩, HST6.out.trans (StepM.below hbf), HOS.out, HG.out⟩)⟩
        · have d1 : (x.fin != 0) = true := by simp [hf]
          cases hgd : good s q with
          | true =>
            have HG := Lib.hid (show runC L step good (s0 M) l = runC L step good (step s q) (l.drop (i + 1)) by rw [HRN.out, if_neg (fun h => by rw [hgd] at h; exact absurd h.2 (by decide))])
            have HGD := Lib.hid hgd
            clear hf hgd
            refine wp_region_held_drew (S := (fun w' => w'.cell? ⟨bl, ol + q * 14 + 3, none⟩ = some (.int .i64 x.fin) ∧ w'.cell? ⟨w5.heap.size, 0, none⟩ = some (.int .i64 n) ∧ w'.cell? ⟨w5.heap.size, 1, none⟩ = some (.int .i64 er) ∧ w'.cell? ⟨w5.heap.size, 2, none⟩ = some (.slice a k5 c) ∧ w'.cell? ⟨bl, ol + q * 14 + 11, none⟩ = some (.int .i64 x.n) ∧ w'.cell? ⟨bl, ol + q * 14 + 12, none⟩ = some (.int .i64 x.err) ∧ w'.cell? ⟨bl, ol + q * 14 + 13, none⟩ = some (.slice x.ta x.tn x.tc))) (by kernel_rfl) ?_ (fun hHeld => ?_)
            · ((try dsimp only); exact ⟨e3, a0, a1, a2, e11, e12, e13⟩)
            refine wpAnyH_take (i := 0) (v := ?_) rfl (by kernel_rfl) (by kernel_rfl) (by kernel_rfl) (fun _ _ _ h => h) (Or.inl ⟨by rfl, ?_⟩) (by assumption) ?_
            rotate_left 1
            · (intro w hSw; (try dsimp only at hSw); first | (go_simp; done) | (go_simp; with_reducible rfl))
            try simp only [Act.put, List.setIfInBounds_toArray, List.set_cons_zero, List.set_cons_succ, List.getElem_toArray, List.getElem_cons_zero]
            refine wpAnyH_take (i := 1) (v := ?_) rfl (by kernel_rfl) (by kernel_rfl) (by kernel_rfl) (fun _ _ _ h => h) (Or.inl ⟨by rfl, ?_⟩) (by assumption) ?_
            rotate_left 1
            · (intro w hSw; (try dsimp only at hSw); first | (go_simp; done) | (go_simp; with_reducible rfl))
            try simp only [Act.put, List.setIfInBounds_toArray, List.set_cons_zero, List.set_cons_succ, List.getElem_toArray, List.getElem_cons_zero, List.getElem_cons_succ]
            refine wpAnyH_take (i := 2) (v := ?_) rfl (by kernel_rfl) (by kernel_rfl) (by kernel_rfl) (fun _ _ _ h => h) (Or.inl ⟨by rfl, ?_⟩) (by assumption) ?_
            rotate_left 1
            · (intro w hSw; (try dsimp only at hSw); first | (go_simp; done) | (go_simp; with_reducible rfl))
            try simp only [Act.put, List.setIfInBounds_toArray, List.set_cons_zero, List.set_cons_succ, List.getElem_toArray, List.getElem_cons_zero, List.getElem_cons_succ]
            refine wpAnyH_take (i := 3) (v := ?_) rfl (by kernel_rfl) (by kernel_rfl) (by kernel_rfl) (fun _ _ _ h => h) (Or.inl ⟨by rfl, ?_⟩) (by assumption) ?_
            rotate_left 1
            · (intro w hSw; (try dsimp only at hSw); first | (go_simp; done) | (go_simp; with_reducible rfl))
            try simp only [Act.put, List.setIfInBounds_toArray, List.set_cons_zero, List.set_cons_succ, List.getElem_toArray, List.getElem_cons_zero, List.getElem_cons_succ]
            refine wpAnyH_take (i := 4) (v := ?_) rfl (by kernel_rfl) (by kernel_rfl) (by kernel_rfl) (fun _ _ _ h => h) (Or.inl ⟨by rfl, ?_⟩) (by assumption) ?_
            rotate_left 1
            · (intro w hSw; (try dsimp only at hSw); first | (go_simp; done) | (go_simp; with_reducible rfl))
            try simp only [Act.put, List.setIfInBounds_toArray, List.set_cons_zero, List.set_cons_succ, List.getElem_toArray, List.getElem_cons_zero, List.getElem_cons_succ]
            refine wpAnyH_take (i := 5) (v := ?_) rfl (by kernel_rfl) (by kernel_rfl) (by kernel_rfl) (fun _ _ _ h => h) (Or.inl ⟨by rfl, ?_⟩) (by assumption) ?_
            rotate_left 1
            · (intro w hSw; (try dsimp only at hSw); first | (go_simp; done) | (go_simp; with_reducible rfl))
            try simp only [Act.put, List.setIfInBounds_toArray, List.set_cons_zero, List.set_cons_succ, List.getElem_toArray, List.getElem_cons_zero, List.getElem_cons_succ]
            refine wpAnyH_take (i := 6) (v := ?_) rfl (by kernel_rfl) (by kernel_rfl) (by kernel_rfl) (fun _ _ _ h => h) (Or.inl ⟨by rfl, ?_⟩) (by assumption) ?_
            rotate_left 1
            · (intro w hSw; (try dsimp only at hSw); first | (go_simp; done) | (go_simp; with_reducible rfl))
            try simp only [Act.put, List.setIfInBounds_toArray, List.set_cons_zero, List.set_cons_succ, List.getElem_toArray, List.getElem_cons_zero, List.getElem_cons_succ]
            refine wpAnyH_take (i := 7) (v := ?_) rfl (by kernel_rfl) (by kernel_rfl) (by kernel_rfl) (fun _ _ _ h => h) (Or.inl ⟨by rfl, ?_⟩) (by assumption) ?_
            rotate_left 1
            · (intro w hSw; (try dsimp only at hSw); first | (go_simp; done) | (go_simp; with_reducible rfl))
            try simp only [Act.put, List.setIfInBounds_toArray, List.set_cons_zero, List.set_cons_succ, List.getElem_toArray, List.getElem_cons_zero, List.getElem_cons_succ]
            refine wpAnyH_take (i := 8) (v := ?_) rfl (by kernel_rfl) (by kernel_rfl) (by kernel_rfl) (fun _ _ _ h => h) (Or.inl ⟨by rfl, ?_⟩) (by assumption) ?_
            rotate_left 1
            · (intro w hSw; (try dsimp only at hSw); first | (go_simp; done) | (go_simp; with_reducible rfl))
            try simp only [Act.put, List.setIfInBounds_toArray, List.set_cons_zero, List.set_cons_succ, List.getElem_toArray, List.getElem_cons_zero, List.getElem_cons_succ]
            refine wpAnyH_take (i := 9) (v := ?_) rfl (by kernel_rfl) (by kernel_rfl) (by kernel_rfl) (fun _ _ _ h => h) (Or.inl ⟨by rfl, ?_⟩) (by assumption) ?_
            rotate_left 1
            · (intro w hSw; (try dsimp only at hSw); first | (go_simp; done) | (go_simp; with_reducible rfl))
            try simp only [Act.put, List.setIfInBounds_toArray, List.set_cons_zero, List.set_cons_succ, List.getElem_toArray, List.getElem_cons_zero, List.getElem_cons_succ]
            refine wpAnyH_take (i := 10) (v := ?_) rfl (by kernel_rfl) (by kernel_rfl) (by kernel_rfl) (fun _ _ _ h => h) (Or.inl ⟨by rfl, ?_⟩) (by assumption) ?_
            rotate_left 1
            · (intro w hSw; (try dsimp only at hSw); first | (go_simp; done) | (go_simp; with_reducible rfl))
            try simp only [Act.put, List.setIfInBounds_toArray, List.set_cons_zero, List.set_cons_succ, List.getElem_toArray, List.getElem_cons_zero, List.getElem_cons_succ]
            refine wpAnyH_take (i := 11) (v := ?_) rfl (by kernel_rfl) (by kernel_rfl) (by kernel_rfl) (fun _ _ _ h => h) (Or.inl ⟨by rfl, ?_⟩) (by assumption) ?_
            rotate_left 1
            · (intro w hSw; (try dsimp only at hSw); first | (go_simp; done) | (go_simp; with_reducible rfl))
            try simp only [Act.put, List.setIfInBounds_toArray, List.set_cons_zero, List.set_cons_succ, List.getElem_toArray, List.getElem_cons_zero, List.getElem_cons_succ]
            refine wpAnyH_take (i := 12) (v := ?_) rfl (by kernel_rfl) (by kernel_rfl) (by kernel_rfl) (fun _ _ _ h => h) (Or.inl ⟨by rfl, ?_⟩) (by assumption) ?_
            rotate_left 1
            · (intro w hSw; (try dsimp only at hSw); first | (go_simp; done) | (go_simp; with_reducible rfl))
            try simp only [Act.put, List.setIfInBounds_toArray, List.set_cons_zero, List.set_cons_succ, List.getElem_toArray, List.getElem_cons_zero, List.getElem_cons_succ]
            refine wpAnyH_ready (rs := [13]) (by kernel_rfl) (by simp) ?_
            refine AllReadyH.cons rfl (fun K hK => ?_) AllReadyH.nil
            go_simp
            go_at_call 84
            refine (HSM.out _ (below_drewN (Below.refl _ _) 1)).mono ?_
            rw [HGD.out]
            rintro e w7 ⟨rfl, hb7⟩
            have hb67 : Below w6.heap.size w6 w7 := (below_drewN (Below.refl w6.heap.size w6) 1).trans hb7
            have HBF := Lib.hid hb67
            clear hb7
            try go_wp2_with fail
            refine hK.out _ _ ?_ (fun hHeld => ?_)
            · ((try dsimp only); exact ⟨(hb67.cell (p := ⟨bl, ol + q * 14 + 3, none⟩) (Nat.lt_of_lt_of_le HBL.out HB6.out.size)).trans e3, (hb67.cell (p := ⟨w5.heap.size, 0, none⟩) (HH5.out)).trans a0, (hb67.cell (p := ⟨w5.heap.size, 1, none⟩) (HH5.out)).trans a1, (hb67.cell (p := ⟨w5.heap.size, 2, none⟩) (HH5.out)).trans a2, (hb67.cell (p := ⟨bl, ol + q * 14 + 11, none⟩) (Nat.lt_of_lt_of_le HBL.out HB6.out.size)).trans e11, (hb67.cell (p := ⟨bl, ol + q * 14 + 12, none⟩) (Nat.lt_of_lt_of_le HBL.out HB6.out.size)).trans e12, (hb67.cell (p := ⟨bl, ol + q * 14 + 13, none⟩) (Nat.lt_of_lt_of_le HBL.out HB6.out.size)).trans e13⟩)
            clear hK K
            try simp only [Act.put, List.setIfInBounds_toArray, List.set_cons_zero, List.set_cons_succ, List.getElem_toArray, List.getElem_cons_zero, List.getElem_cons_succ]
            refine wpAnyH_take (i := 14) (v := ?_) rfl (by kernel_rfl) (by kernel_rfl) (by kernel_rfl) (fun _ _ _ h => h) (Or.inl ⟨by rfl, ?_⟩) (by assumption) ?_
            rotate_left 1
            · (intro w hSw; (try dsimp only at hSw); first | (go_simp; done) | (go_simp; with_reducible rfl))
            try simp only [Act.put, List.setIfInBounds_toArray, List.set_cons_zero, List.set_cons_succ, List.getElem_toArray, List.getElem_cons_zero, List.getElem_cons_succ]
            refine wpAnyH_take (i := 15) (v := ?_) rfl (by kernel_rfl) (by kernel_rfl) (by kernel_rfl) (fun _ _ _ h => h) (Or.inl ⟨by rfl, ?_⟩) (by assumption) ?_
            rotate_left 1
            · (intro w hSw; (try dsimp only at hSw); first | (go_simp; done) | (go_simp; with_reducible rfl))
            try simp only [Act.put, List.setIfInBounds_toArray, List.set_cons_zero, List.set_cons_succ, List.getElem_toArray, List.getElem_cons_zero, List.getElem_cons_succ]
            refine wpAnyH_done (by kernel_rfl) ?_ _
            go_wp2_with fail
            go_roundg (gk - 1)
            case measure => have := HIK.out; have := HLT.out; omega
            case rel => exact ⟨i + 1, by have := HIK.out; have := HLT.out; omega, by go_num, Lib.hid (by
              obtain ⟨c, tv, h⟩ := HMD6.out
              exact ⟨step s q, τ5, ⟨c, tv, h.below HBF.out⟩, HST6.out.trans (StepM.below HBF.out), HOS.out, HG.out⟩)⟩
          | false =>
            have HG := Lib.hid (show runC L step good (s0 M) l = (q : Int) by rw [HRN.out, if_pos ⟨hf, hgd⟩])
            have HGD := Lib.hid hgd
            clear hf hgd
            refine wp_region_held_drew (S := (fun w' => w'.cell? ⟨bl, ol + q * 14 + 3, none⟩ = some (.int .i64 x.fin) ∧ w'.cell? ⟨w5.heap.size, 0, none⟩ = some (.int .i64 n) ∧ w'.cell? ⟨w5.heap.size, 1, none⟩ = some (.int .i64 er) ∧ w'.cell? ⟨w5.heap.size, 2, none⟩ = some (.slice a k5 c) ∧ w'.cell? ⟨bl, ol + q * 14 + 11, none⟩ = some (.int .i64 x.n) ∧ w'.cell? ⟨bl, ol + q * 14 + 12, none⟩ = some (.int .i64 x.err) ∧ w'.cell? ⟨bl, ol + q * 14 + 13, none⟩ = some (.slice x.ta x.tn x.tc))) (by kernel_rfl) ?_ (fun hHeld => ?_)
            · ((try dsimp only); exact ⟨e3, a0, a1, a2, e11, e12, e13⟩)
            refine wpAnyH_take (i := 0) (v := ?_) rfl (by kernel_rfl) (by kernel_rfl) (by kernel_rfl) (fun _ _ _ h => h) (Or.inl ⟨by rfl, ?_⟩) (by assumption) ?_
            rotate_left 1
            · (intro w hSw; (try dsimp only at hSw); first | (go_simp; done) | (go_simp; with_reducible rfl))
            try simp only [Act.put, List.setIfInBounds_toArray, List.set_cons_zero, List.set_cons_succ, List.getElem_toArray, List.getElem_cons_zero]
            refine wpAnyH_take (i := 1) (v := ?_) rfl (by kernel_rfl) (by kernel_rfl) (by kernel_rfl) (fun _ _ _ h => h) (Or.inl ⟨by rfl, ?_⟩) (by assumption) ?_
            rotate_left 1
            · (intro w hSw; (try dsimp only at hSw); first | (go_simp; done) | (go_simp; with_reducible rfl))
            try simp only [Act.put, List.setIfInBounds_toArray, List.set_cons_zero, List.set_cons_succ, List.getElem_toArray, List.getElem_cons_zero, List.getElem_cons_succ]
            refine wpAnyH_take (i := 2) (v := ?_) rfl (by kernel_rfl) (by kernel_rfl) (by kernel_rfl) (fun _ _ _ h => h) (Or.inl ⟨by rfl, ?_⟩) (by assumption) ?_
            rotate_left 1
            · (intro w hSw; (try dsimp only at hSw); first | (go_simp; done) | (go_simp; with_reducible rfl))
            try simp only [Act.put, List.setIfInBounds_toArray, List.set_cons_zero, List.set_cons_succ, List.getElem_toArray, List.getElem_cons_zero, List.getElem_cons_succ]
            refine wpAnyH_take (i := 3) (v := ?_) rfl (by kernel_rfl) (by kernel_rfl) (by kernel_rfl) (fun _ _ _ h => h) (Or.inl ⟨by rfl, ?_⟩) (by assumption) ?_
            rotate_left 1
            · (intro w hSw; (try dsimp only at hSw); first | (go_simp; done) | (go_simp; with_reducible rfl))
            try simp only [Act.put, List.setIfInBounds_toArray, List.set_cons_zero, List.set_cons_succ, List.getElem_toArray, List.getElem_cons_zero, List.getElem_cons_succ]
            refine wpAnyH_take (i := 4) (v := ?_) rfl (by kernel_rfl) (by kernel_rfl) (by kernel_rfl) (fun _ _ _ h => h) (Or.inl ⟨by rfl, ?_⟩) (by assumption) ?_
            rotate_left 1
            · (intro w hSw; (try dsimp only at hSw); first | (go_simp; done) | (go_simp; with_reducible rfl))
            try simp only [Act.put, List.setIfInBounds_toArray, List.set_cons_zero, List.set_cons_succ, List.getElem_toArray, List.getElem_cons_zero, List.getElem_cons_succ]
            refine wpAnyH_take (i := 5) (v := ?_) rfl (by kernel_rfl) (by kernel_rfl) (by kernel_rfl) (fun _ _ _ h => h) (Or.inl ⟨by rfl, ?_⟩) (by assumption) ?_
            rotate_left 1
            · (intro w hSw; (try dsimp only at hSw); first | (go_simp; done) | (go_simp; with_reducible rfl))
            try simp only [Act.put, List.setIfInBounds_toArray, List.set_cons_zero, List.set_cons_succ, List.getElem_toArray, List.getElem_cons_zero, List.getElem_cons_succ]
            refine wpAnyH_take (i := 6) (v := ?_) rfl (by kernel_rfl) (by kernel_rfl) (by kernel_rfl) (fun _ _ _ h => h) (Or.inl ⟨by rfl, ?_⟩) (by assumption) ?_
            rotate_left 1
            · (intro w hSw; (try dsimp only at hSw); first | (go_simp; done) | (go_simp; with_reducible rfl))
            try simp only [Act.put, List.setIfInBounds_toArray, List.set_cons_zero, List.set_cons_succ, List.getElem_toArray, List.getElem_cons_zero, List.getElem_cons_succ]
            refine wpAnyH_take (i := 7) (v := ?_) rfl (by kernel_rfl) (by kernel_rfl) (by kernel_rfl) (fun _ _ _ h => h) (Or.inl ⟨by rfl, ?_⟩) (by assumption) ?_
            rotate_left 1
            · (intro w hSw; (try dsimp only at hSw); first | (go_simp; done) | (go_simp; with_reducible rfl))
            try simp only [Act.put, List.setIfInBounds_toArray, List.set_cons_zero, List.set_cons_succ, List.getElem_toArray, List.getElem_cons_zero, List.getElem_cons_succ]
            refine wpAnyH_take (i := 8) (v := ?_) rfl (by kernel_rfl) (by kernel_rfl) (by kernel_rfl) (fun _ _ _ h => h) (Or.inl ⟨by rfl, ?_⟩) (by assumption) ?_
            rotate_left 1
            · (intro w hSw; (try dsimp only at hSw); first | (go_simp; done) | (go_simp; with_reducible rfl))
            try simp only [Act.put, List.setIfInBounds_toArray, List.set_cons_zero, List.set_cons_succ, List.getElem_toArray, List.getElem_cons_zero, List.getElem_cons_succ]
            refine wpAnyH_take (i := 9) (v := ?_) rfl (by kernel_rfl) (by kernel_rfl) (by kernel_rfl) (fun _ _ _ h => h) (Or.inl ⟨by rfl, ?_⟩) (by assumption) ?_
            rotate_left 1
            · (intro w hSw; (try dsimp only at hSw); first | (go_simp; done) | (go_simp; with_reducible rfl))
            try simp only [Act.put, List.setIfInBounds_toArray, List.set_cons_zero, List.set_cons_succ, List.getElem_toArray, List.getElem_cons_zero, List.getElem_cons_succ]
            refine wpAnyH_take (i := 10) (v := ?_) rfl (by kernel_rfl) (by kernel_rfl) (by kernel_rfl) (fun _ _ _ h => h) (Or.inl ⟨by rfl, ?_⟩) (by assumption) ?_
            rotate_left 1
            · (intro w hSw; (try dsimp only at hSw); first | (go_simp; done) | (go_simp; with_reducible rfl))
            try simp only [Act.put, List.setIfInBounds_toArray, List.set_cons_zero, List.set_cons_succ, List.getElem_toArray, List.getElem_cons_zero, List.getElem_cons_succ]
            refine wpAnyH_take (i := 11) (v := ?_) rfl (by kernel_rfl) (by kernel_rfl) (by kernel_rfl) (fun _ _ _ h => h) (Or.inl ⟨by rfl, ?_⟩) (by assumption) ?_
            rotate_left 1
            · (intro w hSw; (try dsimp only at hSw); first | (go_simp; done) | (go_simp; with_reducible rfl))
            try simp only [Act.put, List.setIfInBounds_toArray, List.set_cons_zero, List.set_cons_succ, List.getElem_toArray, List.getElem_cons_zero, List.getElem_cons_succ]
            refine wpAnyH_take (i := 12) (v := ?_) rfl (by kernel_rfl) (by kernel_rfl) (by kernel_rfl) (fun _ _ _ h => h) (Or.inl ⟨by rfl, ?_⟩) (by assumption) ?_
            rotate_left 1
            · (intro w hSw; (try dsimp only at hSw); first | (go_simp; done) | (go_simp; with_reducible rfl))
            try simp only [Act.put, List.setIfInBounds_toArray, List.set_cons_zero, List.set_cons_succ, List.getElem_toArray, List.getElem_cons_zero, List.getElem_cons_succ]
            refine wpAnyH_ready (rs := [13]) (by kernel_rfl) (by simp) ?_
            refine AllReadyH.cons rfl (fun K hK => ?_) AllReadyH.nil
            go_simp
            go_at_call 84
            refine (HSM.out _ (below_drewN (Below.refl _ _) 1)).mono ?_
            rw [HGD.out]
            rintro e w7 ⟨rfl, hb7⟩
            have hb67 : Below w6.heap.size w6 w7 := (below_drewN (Below.refl w6.heap.size w6) 1).trans hb7
            have HBF := Lib.hid hb67
            clear hb7
            try go_wp2_with fail
            refine hK.out _ _ ?_ (fun hHeld => ?_)
            · ((try dsimp only); exact ⟨(hb67.cell (p := ⟨bl, ol + q * 14 + 3, none⟩) (Nat.lt_of_lt_of_le HBL.out HB6.out.size)).trans e3, (hb67.cell (p := ⟨w5.heap.size, 0, none⟩) (HH5.out)).trans a0, (hb67.cell (p := ⟨w5.heap.size, 1, none⟩) (HH5.out)).trans a1, (hb67.cell (p := ⟨w5.heap.size, 2, none⟩) (HH5.out)).trans a2, (hb67.cell (p := ⟨bl, ol + q * 14 + 11, none⟩) (Nat.lt_of_lt_of_le HBL.out HB6.out.size)).trans e11, (hb67.cell (p := ⟨bl, ol + q * 14 + 12, none⟩) (Nat.lt_of_lt_of_le HBL.out HB6.out.size)).trans e12, (hb67.cell (p := ⟨bl, ol + q * 14 + 13, none⟩) (Nat.lt_of_lt_of_le HBL.out HB6.out.size)).trans e13⟩)
            clear hK K
            try simp only [Act.put, List.setIfInBounds_toArray, List.set_cons_zero, List.set_cons_succ, List.getElem_toArray, List.getElem_cons_zero, List.getElem_cons_succ]
            refine wpAnyH_take (i := 14) (v := ?_) rfl (by kernel_rfl) (by kernel_rfl) (by kernel_rfl) (fun _ _ _ h => h) (Or.inl ⟨by rfl, ?_⟩) (by assumption) ?_
            rotate_left 1
            · (intro w hSw; (try dsimp only at hSw); first | (go_simp; done) | (go_simp; with_reducible rfl))
            try simp only [Act.put, List.setIfInBounds_toArray, List.set_cons_zero, List.set_cons_succ, List.getElem_toArray, List.getElem_cons_zero, List.getElem_cons_succ]
            refine wpAnyH_take (i := 15) (v := ?_) rfl (by kernel_rfl) (by kernel_rfl) (by kernel_rfl) (fun _ _ _ h => h) (Or.inl ⟨by rfl, ?_⟩) (by assumption) ?_
            rotate_left 1
            · (intro w hSw; (try dsimp only at hSw); first | (go_simp; done) | (go_simp; with_reducible rfl))
            try simp only [Act.put, List.setIfInBounds_toArray, List.set_cons_zero, List.set_cons_succ, List.getElem_toArray, List.getElem_cons_zero, List.getElem_cons_succ]
            refine wpAnyH_done (by kernel_rfl) ?_ _
            go_wp2_with fail
            go_ret
            exact ⟨⟨(q : Int), rfl, .inr ⟨HR.out, M, l, HLM.out, HPM.out, HRS.out, HG.out.symm⟩⟩, HB6.out.trans (HBF.out.mono HB6.out.size)⟩
      · have hd1 : decide ((i : Int) < (l.length : Int)) = false := decide_eq_false (by omega)
        have hd2 : decide (i < l.length) = false := decide_eq_false hlt
        have HG := Lib.hid (show runC L step good (s0 M) l = -1 by rw [HMS.out.2.2.2, List.drop_eq_nil_of_le (by omega)]; rfl)
        clear hbw hlt
        go_wp2_with fail
        go_ret
        exact ⟨⟨-1, rfl, .inr ⟨HR.out, M, l, HLM.out, HPM.out, HRS.out, HG.out.symm⟩⟩, HBW.out⟩
end Go.Proofs.YtdllgeanmlmmfaaGreatDoor.Hs
