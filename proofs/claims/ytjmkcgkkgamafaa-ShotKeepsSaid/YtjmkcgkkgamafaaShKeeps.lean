/-
  THE LAW ShotKeeps: its walk.
-/
import Derived.Test.YtjmkcgkkgamafaaShLaw
namespace Go.Proofs.Ytjmkcgkkgamafaa.Sh
open Go.RowKit Rw Pk Go.Maps Mm
set_option linter.unusedVariables false
theorem step_append_any {P : Program} (w : World) {ops : Array Oper} {o : Oper} {a : Act} {K : Act → World → Prop} {Q : Exit → Act → World → Prop} {E : Prop} (hgd : o.guard = none) (s x : Operand) (t t2 : TypeId)
    (ho : o.op = .call { callee := .builtin .append, args := #[s, x], argTypes := #[t, t2] })
    (base : Nat) (e e2 : TypeId) (i : TypeInfo) (z : Value) (size bytes : Nat) (ht : P.underlying t = some (.slice e)) (ht2 : P.underlying t2 = some (.slice e2)) (hi : P.info? e = some i) (hz : i.zero = some z)
    (hsize : i.size = size) (hby : i.bytes = bytes) (hzs : z.cells.size = size) (hsz : 0 < size)
    (v : Value) (n : Nat) (xs : List Value) (hs : a.eval s = v) (hown : w.ownsRow base e size v n xs)
    (A : Option Addr) (m c : Nat) (news : List Value) (hx : a.eval x = .slice A m c) (hl : news.length = m * size) (hr : Batch.Src w A m news) (h1 : ∀ u ∈ news, u.oneCell' = true)
    (h63 : n + m ≤ maxLen) (hbytes : (n + m) * bytes ≤ 140737488355328) (hbase : base ≤ w.heap.size)
    (h : ∀ v' w', w'.ownsRow base e size v' (n + m) (xs ++ news) → w.grownBy w' v.ownBlock → (v'.ownBlock = v.ownBlock ∨ v'.ownBlock = some w.heap.size) → K (a.put o.dst v') w') :
    if Region.wanted o (yielded ops a.tmps) = true then Oper.wp P o a w K Q else E := by
  have hw : Region.wanted o (yielded ops a.tmps) = true := by simp [Region.wanted, hgd]
  rw [if_pos hw]
  exact Batch.wp_append_any w s x t t2 ho base e e2 i z size bytes ht ht2 hi hz hsize hby hzs hsz v n xs hs hown A m c news hx hl hr h1 h63 hbytes hbase h
section
variable {n s np p a g : Nat} {tr V who : Int} {w w' w0 w1 : World} {fs zs zs' : List Nat} {tv v' : Value} {X X' T P : List Int} {D : List (Int × Int)} {M M' : Mm.St} {A : Sa} {k : Nat}
structure Kw (n : Nat) (w0 : World) (s np p : Nat) (tr : Int) (zs fs : List Nat) (tv : Value) (X : List Int) (M : Mm.St) (w : World) : Prop where
  hq : Sq n w0 w fs zs s ⟨p, 1, 1, np, tr⟩ M w
  ow : Own u64K w 0 53 tv X
  tf : ∀ g, tv.ownBlock = some g → g ∈ fs
theorem Kw.back (h : Kw n w0 s np p tr zs fs tv X M w) (hg : Sg n w0 w fs zs' a s ⟨p, 1, 1, np, tr⟩ A P T D M' w') : Kw n w0 s np p tr zs' fs tv X M' w' :=
  ⟨hg.sq.rebase hg.fz, own_block h.ow (fun g hg' => hg.fr g (h.tf g hg')), h.tf⟩
theorem Kw.next (h : Sq n w0 w1 fs zs s ⟨p, 1, 1, np, tr⟩ M w) (hb : Below w.heap.size w w') (ho : Own u64K w' w.heap.size 53 v' X') : ∃ zs' fs', Kw n w0 s np p tr zs' fs' v' X' M w' := by
  have hv : ∀ g, v'.ownBlock = some g → w.heap.size ≤ g ∧ g < w'.heap.size := fun g hg => World.ownsRow.lt ho g hg
  exact ⟨_, v'.ownBlock.toList, (h.all hb).rebase (fun j hj => by
    have := hv j (by simpa using hj)
    exact Rg.all_mem this.1 this.2), own_to0 ho, fun g hg => by simp [hg]⟩
theorem Kw.with (h : Kw n w0 s np p tr zs fs tv X M w) (hb : Below w.heap.size w w') {u : Value} (hu : ∀ g, u.ownBlock = some g → w.heap.size ≤ g ∧ g < w'.heap.size) : ∃ zs', Kw n w0 s np p tr zs' (u.ownBlock.toList ++ fs) tv X M w' := by
  refine ⟨_, (h.hq.all hb).rebase (fun j hj => ?_), own_block h.ow (fun g hg => (h.hq.mz.keep hb).2 g (.inr (h.hq.fz g (h.tf g hg)))), fun g hg => List.mem_append.2 (.inr (h.tf g hg))⟩
  rcases List.mem_append.1 hj with hj | hj
  · have := hu j (by simpa using hj)
    exact Rg.all_mem this.1 this.2
  · exact Rg.all_old _ (h.hq.fz j hj)
end
theorem own_le {w : World} {base base' : Nat} {T : TypeId} {size n : Nat} {v : Value} {xs : List Value} (h : w.ownsRow base T size v n xs) (hb : base' ≤ base) : w.ownsRow base' T size v n xs := by
  refine ⟨h.1, ?_⟩
  rcases h.2 with h2 | ⟨g, cap, cur, rfl, hg, rest⟩
  · exact .inl h2
  · exact .inr ⟨g, cap, cur, rfl, by omega, rest⟩
theorem own_form {w : World} {base : Nat} {T : TypeId} {size n : Nat} {v : Value} {xs : List Value} (h : w.ownsRow base T size v n xs) : ∃ ao c, v = .slice ao n c := by
  rcases h.2 with ⟨hv, h0⟩ | ⟨g, cap, cur, hv, _⟩
  · exact ⟨none, 0, by rw [hv, h0]⟩
  · exact ⟨_, _, hv⟩
/-- What lies behind the first one. -/
theorem src_tail {w : World} {base g cap : Nat} {T : TypeId} {x0 : Int} {X1 : List Int} (h : Own u64K w base T (.slice (some ⟨g, 0, none⟩) (x0 :: X1).length cap) (x0 :: X1)) {W : World} (hW : W.heap[g]? = w.heap[g]?) : Batch.Src W (some ⟨g, 1, none⟩) X1.length (u64K.flat X1) := by
  refine .inr ⟨_, rfl, fun j u hu => ?_⟩
  have h1 := World.ownsRow.cells h (g := g) rfl (j + 1) u (by show (u64K.flat (x0 :: X1))[j + 1]? = some u; exact hu)
  rw [show ((⟨g, 0, none⟩ : Addr).add (j + 1)) = ⟨g, j + 1, none⟩ by unfold Addr.add; split <;> simp_all] at h1
  rw [show ((⟨g, 1, none⟩ : Addr).add j) = ⟨g, j + 1, none⟩ by unfold Addr.add; split <;> simp_all; omega]
  exact (World.cell?_of_block (w := w) (a := ⟨g, j + 1, none⟩) hW).trans h1
theorem src_nil {W W' : World} {g : Nat} {X1 : List Int} (h : X1 = []) (_ : W.heap[g]? = W'.heap[g]?) : Batch.Src W (some ⟨g, 0, none⟩) X1.length (u64K.flat X1) := by
  subst h
  exact .inr ⟨_, rfl, fun j u hu => by simp [Kd.flat] at hu⟩
theorem src_own {S : Kd Int} {w : World} {base : Nat} {T : TypeId} {ao : Option Addr} {n cap : Nat} {X : List Int} (h : Own S w base T (.slice ao n cap) X) {W : World} (hk : 0 < S.k) (hw : ∀ x ∈ X, S.wf x) (hW : ∀ g, (Value.slice ao n cap).ownBlock = some g → W.heap[g]? = w.heap[g]?) (hz : w.heap.size ≤ W.heap.size) {m : Nat} (hm : m ≤ n) : Batch.Src W ao m (S.flat (X.take m)) :=
  Rr.src hk ((rr_block ((h.sl hw).rr) hz hW).take hm)
theorem own_one_block {g m cap : Nat} {w W : World} {g' : Nat} (e : (Value.slice (some ⟨g, 0, none⟩) m cap).ownBlock = some g') (h : W.heap[g]? = w.heap[g]?) : W.heap[g']? = w.heap[g']? := by
  have e' : g = g' := by simpa [Value.ownBlock] using e
  rw [← e']; exact h
theorem sub_one {np m : Nat} (h : np = m + 1) (h2 : np < 2 ^ 62) : IntKind.i64.wrap ((np : Int) - 1) = (m : Int) := by
  rw [IntKind.wrap_i64]; omega
theorem own_lit1 (w : World) (T : TypeId) (y : Int) : (w.alloc (.cells #[.int .u64 y] T)).ownsRow w.heap.size T 1 (.slice (some ⟨w.heap.size, 0, none⟩) 1 1) 1 [.int .u64 y] :=
  ⟨rfl, .inr ⟨w.heap.size, 1, _, rfl, Nat.le_refl _, heap_alloc_new w _, Nat.le_refl _, by decide, rfl, rfl⟩⟩
theorem src_one {W : World} {g : Nat} {x : Int} (h : W.cell? ⟨g, 0, none⟩ = some (.int .u64 x)) : Batch.Src W (some ⟨g, 0, none⟩) 1 [.int .u64 x] := by
  refine .inr ⟨_, rfl, fun j u hu => ?_⟩
  match j, hu with
  | 0, hu =>
    simp at hu
    subst hu
    rw [show ((⟨g, 0, none⟩ : Addr).add 0) = ⟨g, 0, none⟩ by unfold Addr.add; split <;> simp_all]
    exact h
  | k + 1, hu => simp at hu
theorem ownE (w : World) (T : TypeId) : (w.alloc (.cells #[] T)).ownsRow w.heap.size T 1 (.slice (some ⟨w.heap.size, 0, none⟩) 0 0) 0 [] :=
  ⟨rfl, .inr ⟨w.heap.size, 0, #[], rfl, Nat.le_refl _, heap_alloc_new w _, Nat.le_refl _, by decide, rfl, rfl⟩⟩
set_option maxRecDepth 1000000 in
set_option maxHeartbeats 16000000 in
theorem shotKeeps_any {w : World} (x : Int) {v1 v2 : Value} {L I : List Int} (hl : Rr u64K w v1 L) (hi' : Rr intK w v2 I) :
    Calls Try.prog 10 #[.int .i64 x, v1, v2] w fun e w' => e = .returned (.bool true) ∧ Below w.heap.size w w' := by
  obtain ⟨i0, hi, hz0, hz1, hz2⟩ := info_partsP infoU8
  have HI := Lib.hid hi'
  have HLL := Lib.hid hl
  obtain ⟨lo, lc, rfl, _⟩ := hl.form
  obtain ⟨io, ic, rfl, _⟩ := hi'.form
  clear hl hi'
  obtain ⟨q, hq, _, p2, p3⟩ := port_of (n := 64) x (by decide) (by decide)
  obtain ⟨np, hnp⟩ : ∃ np : Nat, np = q + 1 := ⟨_, rfl⟩
  have HP := Lib.hid (And.intro p2 p3)
  clear p2 p3
  have HN : Hid (1 ≤ np ∧ np ≤ 64) := Lib.hid (by omega)
  have hn0 : (0 : Int) ≤ (np : Int) := Int.natCast_nonneg _
  have hn64 : (np : Int) ≤ 64 := by have := HN.out; omega
  obtain ⟨p6, p7⟩ := one_more hnp (Nat.lt_trans hq (by decide))
  clear hq hnp
  have p4 : wrap64 ((IntKind.u64.wrap x).tmod 64) = (q : Int) := HP.out.1
  have p5 : IntKind.i64.wrap ((IntKind.u64.wrap x).tmod 64) = (q : Int) := HP.out.2
  go_enter Try.func10, Try.ntmps10
  go_wp2_with fail
  go_at_call 48
  try rw [p6]
  refine (shbegin_any np 1 HN.out (by decide) w).mono ?_
  rintro e w1 ⟨p, s, zs, rfl, hq⟩
  have HQ := Lib.hid hq
  clear hq p4 p5 p6 p7 HP
  go_wp2_with fail
  go_at_call 49
  refine (shtold_any w1).mono ?_
  rintro e w2 ⟨rfl, hb⟩
  have HQ2 := Lib.hid (HQ.out.below hb)
  clear hb HQ
  have HLL2 := Lib.hid (HLL.out.below HQ2.out.mz.kept)
  go_wp2_with fail
  go_at_call 59
  refine (fit_any HLL2.out HN.out.1 (by have := HN.out; omega)).mono ?_
  rintro e w3 ⟨v3, X0, rfl, hX1, hX2, ho, hb⟩
  obtain ⟨zs3, fs3, hk3⟩ := Kw.next HQ2.out hb ho
  have HK0 := Lib.hid hk3
  have HX0 := Lib.hid (And.intro hX1 hX2)
  have HW0 := Lib.hid (wm_init np)
  clear hb ho hk3 hX1 hX2
  go_wp2_with fail
  go_loopg [10, 11] 4 (fun k u t wr => ∃ (i : Nat) (zs fs : List Nat) (tv : Value) (X T : List Int) (M : Mm.St) (who : Int) (k' : Nat), tv = u ∧ i + k = 4 ∧ i ≤ 3 ∧ t = .int .i64 (i : Int) ∧ k' ≤ 100 * i ∧ Hid (Kw w.heap.size w s np p 1 zs fs tv X M wr) ∧ Hid (Wm np k' (2 * (i : Int)) T false who M) ∧ Hid (X.length = np ∧ ∀ x ∈ X, u64K.wf x) ∧ Hid (i ≠ 0 → ∃ x0 X1, T = x0 :: X1 ∧ X = X1 ++ [x0]))
  case atStart => exact ⟨0, _, _, _, X0, _, _, 0, 0, rfl, by omega, by omega, rfl, by omega, HK0, HW0, HX0, Lib.hid (fun h => absurd rfl h)⟩
  case round =>
    obtain ⟨i, zs, fs, tv, X, T, M, who, k', rfl, hik, hil, rfl, hk', HK, HM, HX, HTX⟩ := hrel
    have HIK := Lib.hid (And.intro hik hk')
    clear hik HK0 HW0 HX0 hk'
    have hi0 : (0 : Int) ≤ (i : Int) := Int.natCast_nonneg _
    obtain ⟨x0, X1, rfl⟩ : ∃ x0 X1, X = x0 :: X1 := by
      cases X with
      | nil => have := HX.out.1; have := HN.out; simp at *; omega
      | cons a b => exact ⟨a, b, rfl⟩
    have hx1 : X1.length + 1 = np := by have := HX.out.1; simpa using this
    obtain ⟨g, cap, rfl, hcap, hcm⟩ : ∃ g cap, tv = .slice (some ⟨g, 0, none⟩) (x0 :: X1).length cap ∧ (x0 :: X1).length ≤ cap ∧ cap ≤ 9223372036854775807 := by
      rcases HK.out.ow.form with ⟨h, _⟩ | ⟨g, cap, h, _, _, h1, h2⟩
      · cases h
      · exact ⟨g, cap, h, h1, h2⟩
    by_cases hlt : i < 3
    · have hlt' : (i : Int) < 3 := by omega
      have hik1 : IntKind.i64.wrap ((i : Int) + 1) = (i : Int) + 1 := by rw [IntKind.wrap_i64]; omega
      have HLT := Lib.hid hlt
      have HX1 := Lib.hid hx1
      have HCAP := Lib.hid (And.intro hcap hcm)
      clear hlt hx1 hcap hcm
      go_wp2_with fail
      go_at_call 60
      refine (shpublish_any HK.out.hq (np := np) ⟨rfl, HN.out⟩ ((HK.out.ow.sl HX.out.2).rr) HX.out.1 0 (by decide)).mono ?_
      rintro e w7 ⟨a, rfl, _, tv7, dv7, zs7, _, _, hs⟩
      have HS7 := Lib.hid hs
      clear hs
      go_wp2_with fail
      go_at_call 55
      refine (shpub_run HS7.out HM.out HN.out HX.out.1 (by decide) (by omega) (by have := HIK.out; omega)).mono ?_
      rintro e w8 ⟨rfl, zs8, tv8, dv8, mk, M8, hm1, hm2, hw8, hs8⟩
      have HS8 := Lib.hid hs8
      have HW8 : Hid (Wm np (k' + (np + 5)) (2 * ((i + 1 : Nat) : Int)) (x0 :: X1) false 0 M8) := Lib.hid (by
        have e : 2 * ((i + 1 : Nat) : Int) = 2 * (i : Int) + 2 := by omega
        rw [e]; exact hw8)
      have HK8 := Lib.hid (HK.out.back hs8)
      clear hm1 hm2 hw8 hs8
      go_wp2_with fail
      go_at_call 58
      refine (shvain_any HS8.out.sa).mono ?_
      rintro e w9 ⟨rfl, rfl⟩
      go_upto_region 12 with fail
      obtain ⟨d0, df⟩ := u64_at HK8.out.ow (i := 0) (by simp)
      replace d0 : w8.cell? ⟨g, 0, none⟩ = some (.int .u64 x0) := d0
      have hgl : g < w8.heap.size := Lib.lt_of_cell d0
      have hcpos : (0 : Int) < ((x0 :: X1).length : Int) := by first | (simp; done) | (simp; omega)
      have HONE := Lib.hid (flat_one (S := u64K) X1)
      have HSZ1 : Hid (∀ (o : Obj), (w8.drew.alloc o).heap.size = w8.heap.size + 1) := Lib.hid (fun o => by first | (simp; done) | (simp; rfl) | rfl)
      have HXL := Lib.hid (And.intro HX1.out HN.out)
      rcases (show cap = 1 ∨ cap ≠ 1 by omega) with rfl | hcap1
      · have HX00 : Hid (X1 = []) := Lib.hid (List.length_eq_zero_iff.1 (by have h := HCAP.out.1; rw [List.length_cons] at h; omega))
        have h1L : (1 : Int) ≤ (X1.length : Int) + 1 := by omega
        refine wp_region_held_drew (S := (fun w' => w'.cell? ⟨g, 0, none⟩ = some (.int .u64 x0))) (by kernel_rfl) ?_ (fun hHeld => ?_)
        · ((try dsimp only); exact d0)
        refine wpAnyH_take (i := 1) (v := ?_) rfl (by kernel_rfl) (by kernel_rfl) (by kernel_rfl) (fun _ _ _ h => h) (Or.inl ⟨by rfl, ?_⟩) (by assumption) ?_
        rotate_left 1
        · (intro w hSw; (try dsimp only at hSw); first | (go_simp; done) | (go_simp; with_reducible rfl))
        try simp only [Act.put, List.setIfInBounds_toArray, List.set_cons_zero, List.set_cons_succ, List.getElem_toArray, List.getElem_cons_zero, List.getElem_cons_succ]
        refine wpAnyH_take (i := 2) (v := ?_) rfl (by kernel_rfl) (by kernel_rfl) (by kernel_rfl) (fun _ _ _ h => h) (Or.inl ⟨by rfl, ?_⟩) (by assumption) ?_
        rotate_left 1
        · (intro w hSw; (try dsimp only at hSw); first | (go_simp; done) | (go_simp; with_reducible rfl))
        try simp only [Act.put, List.setIfInBounds_toArray, List.set_cons_zero, List.set_cons_succ, List.getElem_toArray, List.getElem_cons_zero, List.getElem_cons_succ]
        refine wpAnyH_take (i := 4) (v := ?_) rfl (by kernel_rfl) (by kernel_rfl) (by kernel_rfl) (fun _ _ _ h => h) (Or.inl ⟨by rfl, ?_⟩) (by assumption) ?_
        rotate_left 1
        · (intro w hSw; (try dsimp only at hSw); first | (go_simp; done) | (go_simp; with_reducible rfl))
        try simp only [Act.put, List.setIfInBounds_toArray, List.set_cons_zero, List.set_cons_succ, List.getElem_toArray, List.getElem_cons_zero, List.getElem_cons_succ]
        refine wpAnyH_take (i := 5) (v := ?_) rfl (by kernel_rfl) (by kernel_rfl) (by kernel_rfl) (fun _ _ _ h => h) (Or.inl ⟨by rfl, ?_⟩) (by assumption) ?_
        rotate_left 1
        · (intro w hSw; (try dsimp only at hSw); first | (go_simp; done) | (go_simp; with_reducible rfl))
        try simp only [Act.put, List.setIfInBounds_toArray, List.set_cons_zero, List.set_cons_succ, List.getElem_toArray, List.getElem_cons_zero, List.getElem_cons_succ]
        refine wpAnyH_take (i := 6) (v := ?_) rfl (by kernel_rfl) (by kernel_rfl) (by kernel_rfl) (fun _ _ _ h => h) (Or.inl ⟨by rfl, ?_⟩) (by assumption) ?_
        rotate_left 1
        · (intro w hSw; (try dsimp only at hSw); first | (go_simp; done) | (go_simp; with_reducible rfl))
        try simp only [Act.put, List.setIfInBounds_toArray, List.set_cons_zero, List.set_cons_succ, List.getElem_toArray, List.getElem_cons_zero, List.getElem_cons_succ]
        refine wpAnyH_ready (rs := [0, 7]) (by kernel_rfl) (by simp) ?_
        refine AllReadyH.cons rfl (fun K hK => ?_) (AllReadyH.cons rfl (fun K hK => ?_) AllReadyH.nil)
        · skip
          go_simp
          try go_wp2_with fail
          refine hK.out _ _ ?_ (fun hHeld => ?_)
          · ((try dsimp only); go_keep)
          clear hK K
          try simp only [Act.put, List.setIfInBounds_toArray, List.set_cons_zero, List.set_cons_succ, List.getElem_toArray, List.getElem_cons_zero, List.getElem_cons_succ]
          refine wpAnyH_ready (rs := [3, 7]) (by kernel_rfl) (by simp) ?_
          refine AllReadyH.cons rfl (fun K hK => ?_) (AllReadyH.cons rfl (fun K hK => ?_) AllReadyH.nil)
          · skip
            (refine step_append_any _ (by rfl) _ _ 92 92 (by rfl) w8.heap.size 53 53 i0 (.int .u64 0) 1 8 Try.underlying92 Try.underlying92 hi hz0 hz1 hz2 rfl (by decide) (.slice (some ⟨w8.heap.size, 0, none⟩) 0 0) 0 [] (by rfl) (ownE w8.drew _) (some ⟨g, 0, none⟩) X1.length 0 (u64K.flat X1) (by rfl) (by rw [flat_length]; rfl) (src_nil HX00.out (heap_alloc_old w8.drew _ hgl)) HONE.out (by have := HXL.out; unfold maxLen; omega) (by have := HXL.out; omega) (by simp; try omega) ?_; intro va wa hoa hga hba)
            have hoa' : wa.ownsRow w8.heap.size 53 1 va X1.length (u64K.flat X1) := by simpa using hoa
            obtain ⟨oa, ca, rfl⟩ := own_form hoa'
            have hgA : wa.heap[g]? = w8.heap[g]? := (hga.block g (by simp; omega) (by simp [Value.ownBlock]; omega)).trans (heap_alloc_old w8.drew _ hgl)
            have hbA : Below w8.heap.size w8 wa := (((Below.refl _ _).drew).alloc (Nat.le_refl _) _).grown hga (by simp) (fun k e => by have hd : w8.drew.heap.size = w8.heap.size := rfl; simp [Value.ownBlock] at e; omega)
            refine hK.out _ _ ?_ (fun hHeld => ?_)
            · ((try dsimp only); exact (World.cell?_of_block (w := w8) (a := ⟨g, 0, none⟩) hgA).trans d0)
            clear hK K
            try simp only [Act.put, List.setIfInBounds_toArray, List.set_cons_zero, List.set_cons_succ, List.getElem_toArray, List.getElem_cons_zero, List.getElem_cons_succ]
            refine wpAnyH_ready (rs := [7]) (by kernel_rfl) (by simp) ?_
            refine AllReadyH.cons rfl (fun K hK => ?_) AllReadyH.nil
            go_simp
            try go_wp2_with fail
            refine hK.out _ _ ?_ (fun hHeld => ?_)
            · ((try dsimp only); go_keep)
            clear hK K
            try simp only [Act.put, List.setIfInBounds_toArray, List.set_cons_zero, List.set_cons_succ, List.getElem_toArray, List.getElem_cons_zero, List.getElem_cons_succ]
            refine wpAnyH_ready (rs := [8]) (by kernel_rfl) (by simp) ?_
            refine AllReadyH.cons rfl (fun K hK => ?_) AllReadyH.nil
            (refine step_append_any _ (by rfl) _ _ 92 92 (by rfl) w8.heap.size 53 53 i0 (.int .u64 0) 1 8 Try.underlying92 Try.underlying92 hi hz0 hz1 hz2 rfl (by decide) (.slice oa X1.length ca) X1.length (u64K.flat X1) (by rfl) (hoa'.alloc _) (some ⟨wa.heap.size, 0, none⟩) 1 1 [.int .u64 x0] (by rfl) (by rfl) (src_one (cell_of_row _ _ _ _ _ _ (heap_alloc_new wa _))) (by intro z hz; simp at hz; subst hz; rfl) (by have := HXL.out; unfold maxLen; omega) (by have := HXL.out; omega) (by first | exact hbA.size | (have := hbA.size; simp; omega)) ?_; intro vb wb hob hgb hbb)
            obtain ⟨ob, cb, rfl⟩ := own_form hob
            have hgB : wb.heap[g]? = w8.heap[g]? := (hgb.block g (by have := hbA.size; simp; omega) (fun e => by have := (hoa'.lt g e.symm).1; omega)).trans ((heap_alloc_old wa _ (by have := hbA.size; omega)).trans hgA)
            have hBelow : Below w8.heap.size w8 wb := (hbA.alloc hbA.size _).grown hgb (by have := hbA.size; simp; omega) (fun k e => (hoa'.lt k e).1)
            refine hK.out _ _ ?_ (fun hHeld => ?_)
            · ((try dsimp only); exact (World.cell?_of_block (w := w8) (a := ⟨g, 0, none⟩) hgB).trans d0)
            clear hK K
            try simp only [Act.put, List.setIfInBounds_toArray, List.set_cons_zero, List.set_cons_succ, List.getElem_toArray, List.getElem_cons_zero, List.getElem_cons_succ]
            refine wpAnyH_take (i := 9) (v := ?_) rfl (by kernel_rfl) (by kernel_rfl) (by kernel_rfl) (fun _ _ _ h => h) (Or.inl ⟨by rfl, ?_⟩) (by assumption) ?_
            rotate_left 1
            · (intro w hSw; (try dsimp only at hSw); first | (go_simp; done) | (go_simp; with_reducible rfl))
            try simp only [Act.put, List.setIfInBounds_toArray, List.set_cons_zero, List.set_cons_succ, List.getElem_toArray, List.getElem_cons_zero, List.getElem_cons_succ]
            refine wpAnyH_done (by kernel_rfl) ?_ _
            have hnew : Own u64K wb w8.heap.size 53 (.slice ob (X1.length + 1) cb) (X1 ++ [x0]) := by
              unfold Own
              rw [flat_snoc, List.length_append]
              exact hob
            obtain ⟨zsn, fsn, hkn⟩ := Kw.next HK8.out.hq hBelow hnew
            have HKN := Lib.hid hkn
            have HXN := Lib.hid (show (X1 ++ [x0]).length = np ∧ ∀ x ∈ X1 ++ [x0], u64K.wf x from ⟨by simp; exact HXL.out.1, fun z hz => by
              rcases List.mem_append.1 hz with h | h
              · exact HX.out.2 z (List.mem_cons_of_mem _ h)
              · rw [List.mem_singleton.1 h]; exact HX.out.2 x0 (List.mem_cons_self ..)⟩)
            clear hnew hob hgb hbb hkn hBelow
            go_wp2_with fail
            go_roundg (gk - 1)
            case measure => have := HIK.out; have := HLT.out; omega
            case rel => exact ⟨i + 1, _, _, _, _, _, _, _, _, rfl, by have := HIK.out; have := HLT.out; omega, by have := HLT.out; omega, by simp, by have := HIK.out; have := HN.out; omega, HKN, HW8, HXN, Lib.hid (fun _ => ⟨x0, X1, rfl, rfl⟩)⟩
          · skip
            go_simp
            try go_wp2_with fail
            refine hK.out _ _ ?_ (fun hHeld => ?_)
            · ((try dsimp only); go_keep)
            clear hK K
            try simp only [Act.put, List.setIfInBounds_toArray, List.set_cons_zero, List.set_cons_succ, List.getElem_toArray, List.getElem_cons_zero, List.getElem_cons_succ]
            refine wpAnyH_ready (rs := [3]) (by kernel_rfl) (by simp) ?_
            refine AllReadyH.cons rfl (fun K hK => ?_) AllReadyH.nil
            (refine step_append_any _ (by rfl) _ _ 92 92 (by rfl) w8.heap.size 53 53 i0 (.int .u64 0) 1 8 Try.underlying92 Try.underlying92 hi hz0 hz1 hz2 rfl (by decide) (.slice (some ⟨w8.heap.size, 0, none⟩) 0 0) 0 [] (by rfl) ((ownE w8.drew _).alloc _) (some ⟨g, 0, none⟩) X1.length 0 (u64K.flat X1) (by rfl) (by rw [flat_length]; rfl) (src_nil HX00.out ((heap_alloc_old _ _ (by simp; omega)).trans (heap_alloc_old w8.drew _ hgl))) HONE.out (by have := HXL.out; unfold maxLen; omega) (by have := HXL.out; omega) (by simp; try omega) ?_; intro va wa hoa hga hba)
            have hoa' : wa.ownsRow w8.heap.size 53 1 va X1.length (u64K.flat X1) := by simpa using hoa
            obtain ⟨oa, ca, rfl⟩ := own_form hoa'
            have hgA : wa.heap[g]? = w8.heap[g]? := (hga.block g (by simp; omega) (by simp [Value.ownBlock]; omega)).trans ((heap_alloc_old _ _ (by simp; omega)).trans (heap_alloc_old w8.drew _ hgl))
            have hbA : Below w8.heap.size w8 wa := ((((Below.refl _ _).drew).alloc (Nat.le_refl _) _).alloc (by simp) _).grown hga (by simp; omega) (fun k e => by have hd : w8.drew.heap.size = w8.heap.size := rfl; simp [Value.ownBlock] at e; omega)
            have hxA : wa.cell? ⟨w8.heap.size + 1, 0, none⟩ = some (.int .u64 x0) := (World.cell?_of_block (a := ⟨w8.heap.size + 1, 0, none⟩) (hga.block (w8.heap.size + 1) (by simp) (by simp [Value.ownBlock]))).trans (cell_of_row _ _ _ _ _ _ (by have h := heap_alloc_new (w8.drew.alloc (.cells #[] 53)) (.cells #[.int .u64 x0] 53); rw [HSZ1.out] at h; exact h))
            refine hK.out _ _ ?_ (fun hHeld => ?_)
            · ((try dsimp only); exact (World.cell?_of_block (w := w8) (a := ⟨g, 0, none⟩) hgA).trans d0)
            clear hK K
            try simp only [Act.put, List.setIfInBounds_toArray, List.set_cons_zero, List.set_cons_succ, List.getElem_toArray, List.getElem_cons_zero, List.getElem_cons_succ]
            refine wpAnyH_ready (rs := [8]) (by kernel_rfl) (by simp) ?_
            refine AllReadyH.cons rfl (fun K hK => ?_) AllReadyH.nil
            (refine step_append_any _ (by rfl) _ _ 92 92 (by rfl) w8.heap.size 53 53 i0 (.int .u64 0) 1 8 Try.underlying92 Try.underlying92 hi hz0 hz1 hz2 rfl (by decide) (.slice oa X1.length ca) X1.length (u64K.flat X1) (by rfl) hoa' (some ⟨w8.heap.size + 1, 0, none⟩) 1 1 [.int .u64 x0] (by rfl) (by rfl) (src_one hxA) (by intro z hz; simp at hz; subst hz; rfl) (by have := HXL.out; unfold maxLen; omega) (by have := HXL.out; omega) (by first | exact hbA.size | (have := hbA.size; simp; omega)) ?_; intro vb wb hob hgb hbb)
            obtain ⟨ob, cb, rfl⟩ := own_form hob
            have hgB : wb.heap[g]? = w8.heap[g]? := (hgb.block g (by have := hbA.size; omega) (fun e => by have := (hoa'.lt g e.symm).1; omega)).trans hgA
            have hBelow : Below w8.heap.size w8 wb := hbA.grown hgb hbA.size (fun k e => (hoa'.lt k e).1)
            refine hK.out _ _ ?_ (fun hHeld => ?_)
            · ((try dsimp only); exact (World.cell?_of_block (w := w8) (a := ⟨g, 0, none⟩) hgB).trans d0)
            clear hK K
            try simp only [Act.put, List.setIfInBounds_toArray, List.set_cons_zero, List.set_cons_succ, List.getElem_toArray, List.getElem_cons_zero, List.getElem_cons_succ]
            refine wpAnyH_take (i := 9) (v := ?_) rfl (by kernel_rfl) (by kernel_rfl) (by kernel_rfl) (fun _ _ _ h => h) (Or.inl ⟨by rfl, ?_⟩) (by assumption) ?_
            rotate_left 1
            · (intro w hSw; (try dsimp only at hSw); first | (go_simp; done) | (go_simp; with_reducible rfl))
            try simp only [Act.put, List.setIfInBounds_toArray, List.set_cons_zero, List.set_cons_succ, List.getElem_toArray, List.getElem_cons_zero, List.getElem_cons_succ]
            refine wpAnyH_done (by kernel_rfl) ?_ _
            have hnew : Own u64K wb w8.heap.size 53 (.slice ob (X1.length + 1) cb) (X1 ++ [x0]) := by
              unfold Own
              rw [flat_snoc, List.length_append]
              exact hob
            obtain ⟨zsn, fsn, hkn⟩ := Kw.next HK8.out.hq hBelow hnew
            have HKN := Lib.hid hkn
            have HXN := Lib.hid (show (X1 ++ [x0]).length = np ∧ ∀ x ∈ X1 ++ [x0], u64K.wf x from ⟨by simp; exact HXL.out.1, fun z hz => by
              rcases List.mem_append.1 hz with h | h
              · exact HX.out.2 z (List.mem_cons_of_mem _ h)
              · rw [List.mem_singleton.1 h]; exact HX.out.2 x0 (List.mem_cons_self ..)⟩)
            clear hnew hob hgb hbb hkn hBelow
            go_wp2_with fail
            go_roundg (gk - 1)
            case measure => have := HIK.out; have := HLT.out; omega
            case rel => exact ⟨i + 1, _, _, _, _, _, _, _, _, rfl, by have := HIK.out; have := HLT.out; omega, by have := HLT.out; omega, by simp, by have := HIK.out; have := HN.out; omega, HKN, HW8, HXN, Lib.hid (fun _ => ⟨x0, X1, rfl, rfl⟩)⟩
        · skip
          go_simp
          try go_wp2_with fail
          refine hK.out _ _ ?_ (fun hHeld => ?_)
          · ((try dsimp only); go_keep)
          clear hK K
          try simp only [Act.put, List.setIfInBounds_toArray, List.set_cons_zero, List.set_cons_succ, List.getElem_toArray, List.getElem_cons_zero, List.getElem_cons_succ]
          refine wpAnyH_ready (rs := [0]) (by kernel_rfl) (by simp) ?_
          refine AllReadyH.cons rfl (fun K hK => ?_) AllReadyH.nil
          go_simp
          try go_wp2_with fail
          refine hK.out _ _ ?_ (fun hHeld => ?_)
          · ((try dsimp only); go_keep)
          clear hK K
          try simp only [Act.put, List.setIfInBounds_toArray, List.set_cons_zero, List.set_cons_succ, List.getElem_toArray, List.getElem_cons_zero, List.getElem_cons_succ]
          refine wpAnyH_ready (rs := [3]) (by kernel_rfl) (by simp) ?_
          refine AllReadyH.cons rfl (fun K hK => ?_) AllReadyH.nil
          (refine step_append_any _ (by rfl) _ _ 92 92 (by rfl) w8.heap.size 53 53 i0 (.int .u64 0) 1 8 Try.underlying92 Try.underlying92 hi hz0 hz1 hz2 rfl (by decide) (.slice (some ⟨w8.heap.size + 1, 0, none⟩) 0 0) 0 [] (by rfl) (own_le (by have h := ownE (w8.drew.alloc (.cells #[.int .u64 x0] 53)) 53; rw [HSZ1.out] at h; exact h) (Nat.le_succ _)) (some ⟨g, 0, none⟩) X1.length 0 (u64K.flat X1) (by rfl) (by rw [flat_length]; rfl) (src_nil HX00.out ((heap_alloc_old _ _ (by simp; omega)).trans (heap_alloc_old w8.drew _ hgl))) HONE.out (by have := HXL.out; unfold maxLen; omega) (by have := HXL.out; omega) (by simp; try omega) ?_; intro va wa hoa hga hba)
          have hoa' : wa.ownsRow w8.heap.size 53 1 va X1.length (u64K.flat X1) := by simpa using hoa
          obtain ⟨oa, ca, rfl⟩ := own_form hoa'
          have hgA : wa.heap[g]? = w8.heap[g]? := (hga.block g (by simp; omega) (by simp [Value.ownBlock]; omega)).trans ((heap_alloc_old _ _ (by simp; omega)).trans (heap_alloc_old w8.drew _ hgl))
          have hbA : Below w8.heap.size w8 wa := ((((Below.refl _ _).drew).alloc (Nat.le_refl _) _).alloc (by simp) _).grown hga (by simp; omega) (fun k e => by have hd : w8.drew.heap.size = w8.heap.size := rfl; simp [Value.ownBlock] at e; omega)
          have hxA : wa.cell? ⟨w8.heap.size, 0, none⟩ = some (.int .u64 x0) := (World.cell?_of_block (a := ⟨w8.heap.size, 0, none⟩) ((hga.block w8.heap.size (by simp; omega) (by simp [Value.ownBlock])).trans (heap_alloc_old _ _ (by simp)))).trans (cell_of_row _ _ _ _ _ _ (heap_alloc_new w8.drew (.cells #[.int .u64 x0] 53)))
          refine hK.out _ _ ?_ (fun hHeld => ?_)
          · ((try dsimp only); exact (World.cell?_of_block (w := w8) (a := ⟨g, 0, none⟩) hgA).trans d0)
          clear hK K
          try simp only [Act.put, List.setIfInBounds_toArray, List.set_cons_zero, List.set_cons_succ, List.getElem_toArray, List.getElem_cons_zero, List.getElem_cons_succ]
          refine wpAnyH_ready (rs := [8]) (by kernel_rfl) (by simp) ?_
          refine AllReadyH.cons rfl (fun K hK => ?_) AllReadyH.nil
          (refine step_append_any _ (by rfl) _ _ 92 92 (by rfl) w8.heap.size 53 53 i0 (.int .u64 0) 1 8 Try.underlying92 Try.underlying92 hi hz0 hz1 hz2 rfl (by decide) (.slice oa X1.length ca) X1.length (u64K.flat X1) (by rfl) hoa' (some ⟨w8.heap.size, 0, none⟩) 1 1 [.int .u64 x0] (by rfl) (by rfl) (src_one hxA) (by intro z hz; simp at hz; subst hz; rfl) (by have := HXL.out; unfold maxLen; omega) (by have := HXL.out; omega) (by first | exact hbA.size | (have := hbA.size; simp; omega)) ?_; intro vb wb hob hgb hbb)
          obtain ⟨ob, cb, rfl⟩ := own_form hob
          have hgB : wb.heap[g]? = w8.heap[g]? := (hgb.block g (by have := hbA.size; omega) (fun e => by have := (hoa'.lt g e.symm).1; omega)).trans hgA
          have hBelow : Below w8.heap.size w8 wb := hbA.grown hgb hbA.size (fun k e => (hoa'.lt k e).1)
          refine hK.out _ _ ?_ (fun hHeld => ?_)
          · ((try dsimp only); exact (World.cell?_of_block (w := w8) (a := ⟨g, 0, none⟩) hgB).trans d0)
          clear hK K
          try simp only [Act.put, List.setIfInBounds_toArray, List.set_cons_zero, List.set_cons_succ, List.getElem_toArray, List.getElem_cons_zero, List.getElem_cons_succ]
          refine wpAnyH_take (i := 9) (v := ?_) rfl (by kernel_rfl) (by kernel_rfl) (by kernel_rfl) (fun _ _ _ h => h) (Or.inl ⟨by rfl, ?_⟩) (by assumption) ?_
          rotate_left 1
          · (intro w hSw; (try dsimp only at hSw); first | (go_simp; done) | (go_simp; with_reducible rfl))
          try simp only [Act.put, List.setIfInBounds_toArray, List.set_cons_zero, List.set_cons_succ, List.getElem_toArray, List.getElem_cons_zero, List.getElem_cons_succ]
          refine wpAnyH_done (by kernel_rfl) ?_ _
          have hnew : Own u64K wb w8.heap.size 53 (.slice ob (X1.length + 1) cb) (X1 ++ [x0]) := by
            unfold Own
            rw [flat_snoc, List.length_append]
            exact hob
          obtain ⟨zsn, fsn, hkn⟩ := Kw.next HK8.out.hq hBelow hnew
          have HKN := Lib.hid hkn
          have HXN := Lib.hid (show (X1 ++ [x0]).length = np ∧ ∀ x ∈ X1 ++ [x0], u64K.wf x from ⟨by simp; exact HXL.out.1, fun z hz => by
            rcases List.mem_append.1 hz with h | h
            · exact HX.out.2 z (List.mem_cons_of_mem _ h)
            · rw [List.mem_singleton.1 h]; exact HX.out.2 x0 (List.mem_cons_self ..)⟩)
          clear hnew hob hgb hbb hkn hBelow
          go_wp2_with fail
          go_roundg (gk - 1)
          case measure => have := HIK.out; have := HLT.out; omega
          case rel => exact ⟨i + 1, _, _, _, _, _, _, _, _, rfl, by have := HIK.out; have := HLT.out; omega, by have := HLT.out; omega, by simp, by have := HIK.out; have := HN.out; omega, HKN, HW8, HXN, Lib.hid (fun _ => ⟨x0, X1, rfl, rfl⟩)⟩
      · have h1L : (1 : Int) ≤ (X1.length : Int) + 1 := by omega
        have hcp : 0 < cap - 1 := by have h := HCAP.out.1; rw [List.length_cons] at h; omega
        refine wp_region_held_drew (S := (fun w' => w'.cell? ⟨g, 0, none⟩ = some (.int .u64 x0))) (by kernel_rfl) ?_ (fun hHeld => ?_)
        · ((try dsimp only); exact d0)
        refine wpAnyH_take (i := 1) (v := ?_) rfl (by kernel_rfl) (by kernel_rfl) (by kernel_rfl) (fun _ _ _ h => h) (Or.inl ⟨by rfl, ?_⟩) (by assumption) ?_
        rotate_left 1
        · (intro w hSw; (try dsimp only at hSw); first | (go_simp; done) | (go_simp; with_reducible rfl))
        try simp only [Act.put, List.setIfInBounds_toArray, List.set_cons_zero, List.set_cons_succ, List.getElem_toArray, List.getElem_cons_zero, List.getElem_cons_succ]
        refine wpAnyH_take (i := 2) (v := ?_) rfl (by kernel_rfl) (by kernel_rfl) (by kernel_rfl) (fun _ _ _ h => h) (Or.inl ⟨by rfl, ?_⟩) (by assumption) ?_
        rotate_left 1
        · (intro w hSw; (try dsimp only at hSw); first | (go_simp; done) | (go_simp; with_reducible rfl))
        try simp only [Act.put, List.setIfInBounds_toArray, List.set_cons_zero, List.set_cons_succ, List.getElem_toArray, List.getElem_cons_zero, List.getElem_cons_succ]
        refine wpAnyH_take (i := 4) (v := ?_) rfl (by kernel_rfl) (by kernel_rfl) (by kernel_rfl) (fun _ _ _ h => h) (Or.inl ⟨by rfl, ?_⟩) (by assumption) ?_
        rotate_left 1
        · (intro w hSw; (try dsimp only at hSw); first | (go_simp; done) | (go_simp; with_reducible rfl))
        try simp only [Act.put, List.setIfInBounds_toArray, List.set_cons_zero, List.set_cons_succ, List.getElem_toArray, List.getElem_cons_zero, List.getElem_cons_succ]
        refine wpAnyH_take (i := 5) (v := ?_) rfl (by kernel_rfl) (by kernel_rfl) (by kernel_rfl) (fun _ _ _ h => h) (Or.inl ⟨by rfl, ?_⟩) (by assumption) ?_
        rotate_left 1
        · (intro w hSw; (try dsimp only at hSw); first | (go_simp; done) | (go_simp; with_reducible rfl))
        try simp only [Act.put, List.setIfInBounds_toArray, List.set_cons_zero, List.set_cons_succ, List.getElem_toArray, List.getElem_cons_zero, List.getElem_cons_succ]
        refine wpAnyH_take (i := 6) (v := ?_) rfl (by kernel_rfl) (by kernel_rfl) (by kernel_rfl) (fun _ _ _ h => h) (Or.inl ⟨by rfl, ?_⟩) (by assumption) ?_
        rotate_left 1
        · (intro w hSw; (try dsimp only at hSw); first | (go_simp; done) | (go_simp; with_reducible rfl))
        try simp only [Act.put, List.setIfInBounds_toArray, List.set_cons_zero, List.set_cons_succ, List.getElem_toArray, List.getElem_cons_zero, List.getElem_cons_succ]
        refine wpAnyH_ready (rs := [0, 7]) (by kernel_rfl) (by simp) ?_
        refine AllReadyH.cons rfl (fun K hK => ?_) (AllReadyH.cons rfl (fun K hK => ?_) AllReadyH.nil)
        · skip
          go_simp
          try go_wp2_with fail
          refine hK.out _ _ ?_ (fun hHeld => ?_)
          · ((try dsimp only); go_keep)
          clear hK K
          try simp only [Act.put, List.setIfInBounds_toArray, List.set_cons_zero, List.set_cons_succ, List.getElem_toArray, List.getElem_cons_zero, List.getElem_cons_succ]
          refine wpAnyH_ready (rs := [3, 7]) (by kernel_rfl) (by simp) ?_
          refine AllReadyH.cons rfl (fun K hK => ?_) (AllReadyH.cons rfl (fun K hK => ?_) AllReadyH.nil)
          · skip
            (refine step_append_any _ (by rfl) _ _ 92 92 (by rfl) w8.heap.size 53 53 i0 (.int .u64 0) 1 8 Try.underlying92 Try.underlying92 hi hz0 hz1 hz2 rfl (by decide) (.slice (some ⟨w8.heap.size, 0, none⟩) 0 0) 0 [] (by rfl) (ownE w8.drew _) (some ⟨g, 1, none⟩) X1.length (cap - 1) (u64K.flat X1) (by rfl) (by rw [flat_length]; rfl) (src_tail HK8.out.ow (heap_alloc_old w8.drew _ hgl)) HONE.out (by have := HXL.out; unfold maxLen; omega) (by have := HXL.out; omega) (by simp; try omega) ?_; intro va wa hoa hga hba)
            have hoa' : wa.ownsRow w8.heap.size 53 1 va X1.length (u64K.flat X1) := by simpa using hoa
            obtain ⟨oa, ca, rfl⟩ := own_form hoa'
            have hgA : wa.heap[g]? = w8.heap[g]? := (hga.block g (by simp; omega) (by simp [Value.ownBlock]; omega)).trans (heap_alloc_old w8.drew _ hgl)
            have hbA : Below w8.heap.size w8 wa := (((Below.refl _ _).drew).alloc (Nat.le_refl _) _).grown hga (by simp) (fun k e => by have hd : w8.drew.heap.size = w8.heap.size := rfl; simp [Value.ownBlock] at e; omega)
            refine hK.out _ _ ?_ (fun hHeld => ?_)
            · ((try dsimp only); exact (World.cell?_of_block (w := w8) (a := ⟨g, 0, none⟩) hgA).trans d0)
            clear hK K
            try simp only [Act.put, List.setIfInBounds_toArray, List.set_cons_zero, List.set_cons_succ, List.getElem_toArray, List.getElem_cons_zero, List.getElem_cons_succ]
            refine wpAnyH_ready (rs := [7]) (by kernel_rfl) (by simp) ?_
            refine AllReadyH.cons rfl (fun K hK => ?_) AllReadyH.nil
            go_simp
            try go_wp2_with fail
            refine hK.out _ _ ?_ (fun hHeld => ?_)
            · ((try dsimp only); go_keep)
            clear hK K
            try simp only [Act.put, List.setIfInBounds_toArray, List.set_cons_zero, List.set_cons_succ, List.getElem_toArray, List.getElem_cons_zero, List.getElem_cons_succ]
            refine wpAnyH_ready (rs := [8]) (by kernel_rfl) (by simp) ?_
            refine AllReadyH.cons rfl (fun K hK => ?_) AllReadyH.nil
            (refine step_append_any _ (by rfl) _ _ 92 92 (by rfl) w8.heap.size 53 53 i0 (.int .u64 0) 1 8 Try.underlying92 Try.underlying92 hi hz0 hz1 hz2 rfl (by decide) (.slice oa X1.length ca) X1.length (u64K.flat X1) (by rfl) (hoa'.alloc _) (some ⟨wa.heap.size, 0, none⟩) 1 1 [.int .u64 x0] (by rfl) (by rfl) (src_one (cell_of_row _ _ _ _ _ _ (heap_alloc_new wa _))) (by intro z hz; simp at hz; subst hz; rfl) (by have := HXL.out; unfold maxLen; omega) (by have := HXL.out; omega) (by first | exact hbA.size | (have := hbA.size; simp; omega)) ?_; intro vb wb hob hgb hbb)
            obtain ⟨ob, cb, rfl⟩ := own_form hob
            have hgB : wb.heap[g]? = w8.heap[g]? := (hgb.block g (by have := hbA.size; simp; omega) (fun e => by have := (hoa'.lt g e.symm).1; omega)).trans ((heap_alloc_old wa _ (by have := hbA.size; omega)).trans hgA)
            have hBelow : Below w8.heap.size w8 wb := (hbA.alloc hbA.size _).grown hgb (by have := hbA.size; simp; omega) (fun k e => (hoa'.lt k e).1)
            refine hK.out _ _ ?_ (fun hHeld => ?_)
            · ((try dsimp only); exact (World.cell?_of_block (w := w8) (a := ⟨g, 0, none⟩) hgB).trans d0)
            clear hK K
            try simp only [Act.put, List.setIfInBounds_toArray, List.set_cons_zero, List.set_cons_succ, List.getElem_toArray, List.getElem_cons_zero, List.getElem_cons_succ]
            refine wpAnyH_take (i := 9) (v := ?_) rfl (by kernel_rfl) (by kernel_rfl) (by kernel_rfl) (fun _ _ _ h => h) (Or.inl ⟨by rfl, ?_⟩) (by assumption) ?_
            rotate_left 1
            · (intro w hSw; (try dsimp only at hSw); first | (go_simp; done) | (go_simp; with_reducible rfl))
            try simp only [Act.put, List.setIfInBounds_toArray, List.set_cons_zero, List.set_cons_succ, List.getElem_toArray, List.getElem_cons_zero, List.getElem_cons_succ]
            refine wpAnyH_done (by kernel_rfl) ?_ _
            have hnew : Own u64K wb w8.heap.size 53 (.slice ob (X1.length + 1) cb) (X1 ++ [x0]) := by
              unfold Own
              rw [flat_snoc, List.length_append]
              exact hob
            obtain ⟨zsn, fsn, hkn⟩ := Kw.next HK8.out.hq hBelow hnew
            have HKN := Lib.hid hkn
            have HXN := Lib.hid (show (X1 ++ [x0]).length = np ∧ ∀ x ∈ X1 ++ [x0], u64K.wf x from ⟨by simp; exact HXL.out.1, fun z hz => by
              rcases List.mem_append.1 hz with h | h
              · exact HX.out.2 z (List.mem_cons_of_mem _ h)
              · rw [List.mem_singleton.1 h]; exact HX.out.2 x0 (List.mem_cons_self ..)⟩)
            clear hnew hob hgb hbb hkn hBelow
            go_wp2_with fail
            go_roundg (gk - 1)
            case measure => have := HIK.out; have := HLT.out; omega
            case rel => exact ⟨i + 1, _, _, _, _, _, _, _, _, rfl, by have := HIK.out; have := HLT.out; omega, by have := HLT.out; omega, by simp, by have := HIK.out; have := HN.out; omega, HKN, HW8, HXN, Lib.hid (fun _ => ⟨x0, X1, rfl, rfl⟩)⟩
          · skip
            go_simp
            try go_wp2_with fail
            refine hK.out _ _ ?_ (fun hHeld => ?_)
            · ((try dsimp only); go_keep)
            clear hK K
            try simp only [Act.put, List.setIfInBounds_toArray, List.set_cons_zero, List.set_cons_succ, List.getElem_toArray, List.getElem_cons_zero, List.getElem_cons_succ]
            refine wpAnyH_ready (rs := [3]) (by kernel_rfl) (by simp) ?_
            refine AllReadyH.cons rfl (fun K hK => ?_) AllReadyH.nil
            (refine step_append_any _ (by rfl) _ _ 92 92 (by rfl) w8.heap.size 53 53 i0 (.int .u64 0) 1 8 Try.underlying92 Try.underlying92 hi hz0 hz1 hz2 rfl (by decide) (.slice (some ⟨w8.heap.size, 0, none⟩) 0 0) 0 [] (by rfl) ((ownE w8.drew _).alloc _) (some ⟨g, 1, none⟩) X1.length (cap - 1) (u64K.flat X1) (by rfl) (by rw [flat_length]; rfl) (src_tail HK8.out.ow ((heap_alloc_old _ _ (by simp; omega)).trans (heap_alloc_old w8.drew _ hgl))) HONE.out (by have := HXL.out; unfold maxLen; omega) (by have := HXL.out; omega) (by simp; try omega) ?_; intro va wa hoa hga hba)
            have hoa' : wa.ownsRow w8.heap.size 53 1 va X1.length (u64K.flat X1) := by simpa using hoa
            obtain ⟨oa, ca, rfl⟩ := own_form hoa'
            have hgA : wa.heap[g]? = w8.heap[g]? := (hga.block g (by simp; omega) (by simp [Value.ownBlock]; omega)).trans ((heap_alloc_old _ _ (by simp; omega)).trans (heap_alloc_old w8.drew _ hgl))
            have hbA : Below w8.heap.size w8 wa := ((((Below.refl _ _).drew).alloc (Nat.le_refl _) _).alloc (by simp) _).grown hga (by simp; omega) (fun k e => by have hd : w8.drew.heap.size = w8.heap.size := rfl; simp [Value.ownBlock] at e; omega)
            have hxA : wa.cell? ⟨w8.heap.size + 1, 0, none⟩ = some (.int .u64 x0) := (World.cell?_of_block (a := ⟨w8.heap.size + 1, 0, none⟩) (hga.block (w8.heap.size + 1) (by simp) (by simp [Value.ownBlock]))).trans (cell_of_row _ _ _ _ _ _ (by have h := heap_alloc_new (w8.drew.alloc (.cells #[] 53)) (.cells #[.int .u64 x0] 53); rw [HSZ1.out] at h; exact h))
            refine hK.out _ _ ?_ (fun hHeld => ?_)
            · ((try dsimp only); exact (World.cell?_of_block (w := w8) (a := ⟨g, 0, none⟩) hgA).trans d0)
            clear hK K
            try simp only [Act.put, List.setIfInBounds_toArray, List.set_cons_zero, List.set_cons_succ, List.getElem_toArray, List.getElem_cons_zero, List.getElem_cons_succ]
            refine wpAnyH_ready (rs := [8]) (by kernel_rfl) (by simp) ?_
            refine AllReadyH.cons rfl (fun K hK => ?_) AllReadyH.nil
            (refine step_append_any _ (by rfl) _ _ 92 92 (by rfl) w8.heap.size 53 53 i0 (.int .u64 0) 1 8 Try.underlying92 Try.underlying92 hi hz0 hz1 hz2 rfl (by decide) (.slice oa X1.length ca) X1.length (u64K.flat X1) (by rfl) hoa' (some ⟨w8.heap.size + 1, 0, none⟩) 1 1 [.int .u64 x0] (by rfl) (by rfl) (src_one hxA) (by intro z hz; simp at hz; subst hz; rfl) (by have := HXL.out; unfold maxLen; omega) (by have := HXL.out; omega) (by first | exact hbA.size | (have := hbA.size; simp; omega)) ?_; intro vb wb hob hgb hbb)
            obtain ⟨ob, cb, rfl⟩ := own_form hob
            have hgB : wb.heap[g]? = w8.heap[g]? := (hgb.block g (by have := hbA.size; omega) (fun e => by have := (hoa'.lt g e.symm).1; omega)).trans hgA
            have hBelow : Below w8.heap.size w8 wb := hbA.grown hgb hbA.size (fun k e => (hoa'.lt k e).1)
            refine hK.out _ _ ?_ (fun hHeld => ?_)
            · ((try dsimp only); exact (World.cell?_of_block (w := w8) (a := ⟨g, 0, none⟩) hgB).trans d0)
            clear hK K
            try simp only [Act.put, List.setIfInBounds_toArray, List.set_cons_zero, List.set_cons_succ, List.getElem_toArray, List.getElem_cons_zero, List.getElem_cons_succ]
            refine wpAnyH_take (i := 9) (v := ?_) rfl (by kernel_rfl) (by kernel_rfl) (by kernel_rfl) (fun _ _ _ h => h) (Or.inl ⟨by rfl, ?_⟩) (by assumption) ?_
            rotate_left 1
            · (intro w hSw; (try dsimp only at hSw); first | (go_simp; done) | (go_simp; with_reducible rfl))
            try simp only [Act.put, List.setIfInBounds_toArray, List.set_cons_zero, List.set_cons_succ, List.getElem_toArray, List.getElem_cons_zero, List.getElem_cons_succ]
            refine wpAnyH_done (by kernel_rfl) ?_ _
            have hnew : Own u64K wb w8.heap.size 53 (.slice ob (X1.length + 1) cb) (X1 ++ [x0]) := by
              unfold Own
              rw [flat_snoc, List.length_append]
              exact hob
            obtain ⟨zsn, fsn, hkn⟩ := Kw.next HK8.out.hq hBelow hnew
            have HKN := Lib.hid hkn
            have HXN := Lib.hid (show (X1 ++ [x0]).length = np ∧ ∀ x ∈ X1 ++ [x0], u64K.wf x from ⟨by simp; exact HXL.out.1, fun z hz => by
              rcases List.mem_append.1 hz with h | h
              · exact HX.out.2 z (List.mem_cons_of_mem _ h)
              · rw [List.mem_singleton.1 h]; exact HX.out.2 x0 (List.mem_cons_self ..)⟩)
            clear hnew hob hgb hbb hkn hBelow
            go_wp2_with fail
            go_roundg (gk - 1)
            case measure => have := HIK.out; have := HLT.out; omega
            case rel => exact ⟨i + 1, _, _, _, _, _, _, _, _, rfl, by have := HIK.out; have := HLT.out; omega, by have := HLT.out; omega, by simp, by have := HIK.out; have := HN.out; omega, HKN, HW8, HXN, Lib.hid (fun _ => ⟨x0, X1, rfl, rfl⟩)⟩
        · skip
          go_simp
          try go_wp2_with fail
          refine hK.out _ _ ?_ (fun hHeld => ?_)
          · ((try dsimp only); go_keep)
          clear hK K
          try simp only [Act.put, List.setIfInBounds_toArray, List.set_cons_zero, List.set_cons_succ, List.getElem_toArray, List.getElem_cons_zero, List.getElem_cons_succ]
          refine wpAnyH_ready (rs := [0]) (by kernel_rfl) (by simp) ?_
          refine AllReadyH.cons rfl (fun K hK => ?_) AllReadyH.nil
          go_simp
          try go_wp2_with fail
          refine hK.out _ _ ?_ (fun hHeld => ?_)
          · ((try dsimp only); go_keep)
          clear hK K
          try simp only [Act.put, List.setIfInBounds_toArray, List.set_cons_zero, List.set_cons_succ, List.getElem_toArray, List.getElem_cons_zero, List.getElem_cons_succ]
          refine wpAnyH_ready (rs := [3]) (by kernel_rfl) (by simp) ?_
          refine AllReadyH.cons rfl (fun K hK => ?_) AllReadyH.nil
          (refine step_append_any _ (by rfl) _ _ 92 92 (by rfl) w8.heap.size 53 53 i0 (.int .u64 0) 1 8 Try.underlying92 Try.underlying92 hi hz0 hz1 hz2 rfl (by decide) (.slice (some ⟨w8.heap.size + 1, 0, none⟩) 0 0) 0 [] (by rfl) (own_le (by have h := ownE (w8.drew.alloc (.cells #[.int .u64 x0] 53)) 53; rw [HSZ1.out] at h; exact h) (Nat.le_succ _)) (some ⟨g, 1, none⟩) X1.length (cap - 1) (u64K.flat X1) (by rfl) (by rw [flat_length]; rfl) (src_tail HK8.out.ow ((heap_alloc_old _ _ (by simp; omega)).trans (heap_alloc_old w8.drew _ hgl))) HONE.out (by have := HXL.out; unfold maxLen; omega) (by have := HXL.out; omega) (by simp; try omega) ?_; intro va wa hoa hga hba)
          have hoa' : wa.ownsRow w8.heap.size 53 1 va X1.length (u64K.flat X1) := by simpa using hoa
          obtain ⟨oa, ca, rfl⟩ := own_form hoa'
          have hgA : wa.heap[g]? = w8.heap[g]? := (hga.block g (by simp; omega) (by simp [Value.ownBlock]; omega)).trans ((heap_alloc_old _ _ (by simp; omega)).trans (heap_alloc_old w8.drew _ hgl))
          have hbA : Below w8.heap.size w8 wa := ((((Below.refl _ _).drew).alloc (Nat.le_refl _) _).alloc (by simp) _).grown hga (by simp; omega) (fun k e => by have hd : w8.drew.heap.size = w8.heap.size := rfl; simp [Value.ownBlock] at e; omega)
          have hxA : wa.cell? ⟨w8.heap.size, 0, none⟩ = some (.int .u64 x0) := (World.cell?_of_block (a := ⟨w8.heap.size, 0, none⟩) ((hga.block w8.heap.size (by simp; omega) (by simp [Value.ownBlock])).trans (heap_alloc_old _ _ (by simp)))).trans (cell_of_row _ _ _ _ _ _ (heap_alloc_new w8.drew (.cells #[.int .u64 x0] 53)))
          refine hK.out _ _ ?_ (fun hHeld => ?_)
          · ((try dsimp only); exact (World.cell?_of_block (w := w8) (a := ⟨g, 0, none⟩) hgA).trans d0)
          clear hK K
          try simp only [Act.put, List.setIfInBounds_toArray, List.set_cons_zero, List.set_cons_succ, List.getElem_toArray, List.getElem_cons_zero, List.getElem_cons_succ]
          refine wpAnyH_ready (rs := [8]) (by kernel_rfl) (by simp) ?_
          refine AllReadyH.cons rfl (fun K hK => ?_) AllReadyH.nil
          (refine step_append_any _ (by rfl) _ _ 92 92 (by rfl) w8.heap.size 53 53 i0 (.int .u64 0) 1 8 Try.underlying92 Try.underlying92 hi hz0 hz1 hz2 rfl (by decide) (.slice oa X1.length ca) X1.length (u64K.flat X1) (by rfl) hoa' (some ⟨w8.heap.size, 0, none⟩) 1 1 [.int .u64 x0] (by rfl) (by rfl) (src_one hxA) (by intro z hz; simp at hz; subst hz; rfl) (by have := HXL.out; unfold maxLen; omega) (by have := HXL.out; omega) (by first | exact hbA.size | (have := hbA.size; simp; omega)) ?_; intro vb wb hob hgb hbb)
          obtain ⟨ob, cb, rfl⟩ := own_form hob
          have hgB : wb.heap[g]? = w8.heap[g]? := (hgb.block g (by have := hbA.size; omega) (fun e => by have := (hoa'.lt g e.symm).1; omega)).trans hgA
          have hBelow : Below w8.heap.size w8 wb := hbA.grown hgb hbA.size (fun k e => (hoa'.lt k e).1)
          refine hK.out _ _ ?_ (fun hHeld => ?_)
          · ((try dsimp only); exact (World.cell?_of_block (w := w8) (a := ⟨g, 0, none⟩) hgB).trans d0)
          clear hK K
          try simp only [Act.put, List.setIfInBounds_toArray, List.set_cons_zero, List.set_cons_succ, List.getElem_toArray, List.getElem_cons_zero, List.getElem_cons_succ]
          refine wpAnyH_take (i := 9) (v := ?_) rfl (by kernel_rfl) (by kernel_rfl) (by kernel_rfl) (fun _ _ _ h => h) (Or.inl ⟨by rfl, ?_⟩) (by assumption) ?_
          rotate_left 1
          · (intro w hSw; (try dsimp only at hSw); first | (go_simp; done) | (go_simp; with_reducible rfl))
          try simp only [Act.put, List.setIfInBounds_toArray, List.set_cons_zero, List.set_cons_succ, List.getElem_toArray, List.getElem_cons_zero, List.getElem_cons_succ]
          refine wpAnyH_done (by kernel_rfl) ?_ _
          have hnew : Own u64K wb w8.heap.size 53 (.slice ob (X1.length + 1) cb) (X1 ++ [x0]) := by
            unfold Own
            rw [flat_snoc, List.length_append]
            exact hob
          obtain ⟨zsn, fsn, hkn⟩ := Kw.next HK8.out.hq hBelow hnew
          have HKN := Lib.hid hkn
          have HXN := Lib.hid (show (X1 ++ [x0]).length = np ∧ ∀ x ∈ X1 ++ [x0], u64K.wf x from ⟨by simp; exact HXL.out.1, fun z hz => by
            rcases List.mem_append.1 hz with h | h
            · exact HX.out.2 z (List.mem_cons_of_mem _ h)
            · rw [List.mem_singleton.1 h]; exact HX.out.2 x0 (List.mem_cons_self ..)⟩)
          clear hnew hob hgb hbb hkn hBelow
          go_wp2_with fail
          go_roundg (gk - 1)
          case measure => have := HIK.out; have := HLT.out; omega
          case rel => exact ⟨i + 1, _, _, _, _, _, _, _, _, rfl, by have := HIK.out; have := HLT.out; omega, by have := HLT.out; omega, by simp, by have := HIK.out; have := HN.out; omega, HKN, HW8, HXN, Lib.hid (fun _ => ⟨x0, X1, rfl, rfl⟩)⟩
    · have hlt' : ¬ (i : Int) < 3 := by omega
      have hi3 : i = 3 := by omega
      subst hi3
      obtain ⟨t0, T1, hT, hXT⟩ := HTX.out (by decide)
      obtain ⟨m, hm⟩ : ∃ m, np = m + 1 := ⟨np - 1, by have := HN.out; omega⟩
      have HM1 := Lib.hid hm
      have hm0 : (0 : Int) ≤ (m : Int) := Int.natCast_nonneg _
      have hml : (m : Int) < ((x0 :: X1).length : Int) := by rw [HX.out.1]; omega
      have hmc : (m : Int) ≤ (cap : Int) := by have h := HX.out.1; omega
      have hlT : T1.length = m := by have h := HX.out.1; rw [hXT] at h; simp at h; omega
      obtain ⟨d0, df⟩ := u64_at HK.out.ow (i := m) (by rw [HX.out.1]; omega)
      have hy : (x0 :: X1).getD m 0 = t0 := by rw [hXT, List.getD_eq_getElem?_getD, List.getElem?_append_right (by omega), hlT]; simp
      rw [hy] at d0
      have HTK := Lib.hid (show (x0 :: X1).take m = T1 by rw [hXT, List.take_append_of_le_length (by omega), List.take_of_length_le (by omega)])
      have HTT := Lib.hid hT
      have HSR : Hid (∀ (W : World), (∀ g', (Value.slice (some ⟨g, 0, none⟩) (x0 :: X1).length cap).ownBlock = some g' → W.heap[g']? = wr.heap[g']?) → wr.heap.size ≤ W.heap.size → Batch.Src W (some ⟨g, 0, none⟩) m (u64K.flat T1)) := Lib.hid (fun W h1 h2 => by
        have h := src_own HK.out.ow (by decide) HX.out.2 h1 h2 (m := m) (by rw [HX.out.1]; omega)
        rw [HTK.out] at h
        exact h)
      have HTL := Lib.hid (And.intro hlT HN.out)
      have HONE := Lib.hid (flat_one (S := u64K) T1)
      have hgl : g < wr.heap.size := Lib.lt_of_cell d0
      have hmnp : m < np := by omega
      have HTW := Lib.hid (show ∀ x ∈ T, u64K.wf x from fun x hx => HX.out.2 x (by rw [hXT]; rw [hT] at hx; simp at hx ⊢; rcases hx with h | h <;> simp [h]))
      have hsub := sub_one hm (by have := HN.out; omega)
      clear hT hXT hm hy hlT
      go_upto_region 13 with fail
      refine wp_region_held_drew (S := (fun w' => w'.cell? ⟨g, m, none⟩ = some (.int .u64 t0))) (by kernel_rfl) ?_ (fun hHeld => ?_)
      · ((try dsimp only); exact d0)
      refine wpAnyH_take (i := 0) (v := ?_) rfl (by kernel_rfl) (by kernel_rfl) (by kernel_rfl) (fun _ _ _ h => h) (Or.inl ⟨by rfl, ?_⟩) (by assumption) ?_
      rotate_left 1
      · (intro w hSw; (try dsimp only at hSw); first | (go_simp; done) | (go_simp; with_reducible rfl))
      try simp only [Act.put, List.setIfInBounds_toArray, List.set_cons_zero, List.set_cons_succ, List.getElem_toArray, List.getElem_cons_zero]
      refine wpAnyH_take (i := 1) (v := ?_) rfl (by kernel_rfl) (by kernel_rfl) (by kernel_rfl) (fun _ _ _ h => h) (Or.inl ⟨by rfl, ?_⟩) (by assumption) ?_
      rotate_left 1
      · (intro w hSw; (try dsimp only at hSw); first | (go_simp; done) | (go_simp; with_reducible rfl))
      try simp only [Act.put, List.setIfInBounds_toArray, List.set_cons_zero, List.set_cons_succ, List.getElem_toArray, List.getElem_cons_zero, List.getElem_cons_succ]
      refine wpAnyH_take (i := 2) (v := ?_) rfl (by kernel_rfl) (by kernel_rfl) (by kernel_rfl) (fun _ _ _ h => h) (Or.inl ⟨by rfl, ?_⟩) (by assumption) ?_
      rotate_left 1
      · (intro w hSw; (try dsimp only at hSw); first | (go_simp; done) | (go_simp; with_reducible rfl))
      try simp only [Act.put, List.setIfInBounds_toArray, List.set_cons_zero, List.set_cons_succ, List.getElem_toArray, List.getElem_cons_zero, List.getElem_cons_succ]
      refine wpAnyH_take (i := 3) (v := ?_) rfl (by kernel_rfl) (by kernel_rfl) (by kernel_rfl) (fun _ _ _ h => h) (Or.inl ⟨by rfl, ?_⟩) (by assumption) ?_
      rotate_left 1
      · (intro w hSw; (try dsimp only at hSw); first | (go_simp; done) | (go_simp; with_reducible rfl))
      try simp only [Act.put, List.setIfInBounds_toArray, List.set_cons_zero, List.set_cons_succ, List.getElem_toArray, List.getElem_cons_zero, List.getElem_cons_succ]
      refine wpAnyH_take (i := 4) (v := ?_) rfl (by kernel_rfl) (by kernel_rfl) (by kernel_rfl) (fun _ _ _ h => h) (Or.inl ⟨by rfl, ?_⟩) (by assumption) ?_
      rotate_left 1
      · (intro w hSw; (try dsimp only at hSw); first | (go_simp; done) | (go_simp; with_reducible rfl))
      try simp only [Act.put, List.setIfInBounds_toArray, List.set_cons_zero, List.set_cons_succ, List.getElem_toArray, List.getElem_cons_zero, List.getElem_cons_succ]
      refine wpAnyH_take (i := 6) (v := ?_) rfl (by kernel_rfl) (by kernel_rfl) (by kernel_rfl) (fun _ _ _ h => h) (Or.inl ⟨by rfl, ?_⟩) (by assumption) ?_
      rotate_left 1
      · (intro w hSw; (try dsimp only at hSw); first | (go_simp; done) | (go_simp; with_reducible rfl))
      try simp only [Act.put, List.setIfInBounds_toArray, List.set_cons_zero, List.set_cons_succ, List.getElem_toArray, List.getElem_cons_zero, List.getElem_cons_succ]
      refine wpAnyH_take (i := 7) (v := ?_) rfl (by kernel_rfl) (by kernel_rfl) (by kernel_rfl) (fun _ _ _ h => h) (Or.inl ⟨by rfl, ?_⟩) (by assumption) ?_
      rotate_left 1
      · (intro w hSw; (try dsimp only at hSw); first | (go_simp; done) | (go_simp; with_reducible rfl))
      try simp only [Act.put, List.setIfInBounds_toArray, List.set_cons_zero, List.set_cons_succ, List.getElem_toArray, List.getElem_cons_zero, List.getElem_cons_succ]
      refine wpAnyH_take (i := 8) (v := ?_) rfl (by kernel_rfl) (by kernel_rfl) (by kernel_rfl) (fun _ _ _ h => h) (Or.inl ⟨by rfl, ?_⟩) (by assumption) ?_
      rotate_left 1
      · (intro w hSw; (try dsimp only at hSw); first | (go_simp; done) | (go_simp; with_reducible rfl))
      try simp only [Act.put, List.setIfInBounds_toArray, List.set_cons_zero, List.set_cons_succ, List.getElem_toArray, List.getElem_cons_zero, List.getElem_cons_succ]
      refine wpAnyH_take (i := 9) (v := ?_) rfl (by kernel_rfl) (by kernel_rfl) (by kernel_rfl) (fun _ _ _ h => h) (Or.inl ⟨by rfl, ?_⟩) (by assumption) ?_
      rotate_left 1
      · (intro w hSw; (try dsimp only at hSw); first | (go_simp; done) | (go_simp; with_reducible rfl))
      try simp only [Act.put, List.setIfInBounds_toArray, List.set_cons_zero, List.set_cons_succ, List.getElem_toArray, List.getElem_cons_zero, List.getElem_cons_succ]
      refine wpAnyH_ready (rs := [5]) (by kernel_rfl) (by simp) ?_
      refine AllReadyH.cons rfl (fun K hK => ?_) AllReadyH.nil
      go_simp
      try go_wp2_with fail
      refine hK.out _ _ ?_ (fun hHeld => ?_)
      · ((try dsimp only); go_keep)
      clear hK K
      try simp only [Act.put, List.setIfInBounds_toArray, List.set_cons_zero, List.set_cons_succ, List.getElem_toArray, List.getElem_cons_zero, List.getElem_cons_succ]
      refine wpAnyH_ready (rs := [10]) (by kernel_rfl) (by simp) ?_
      refine AllReadyH.cons rfl (fun K hK => ?_) AllReadyH.nil
      clear hsub
      (refine step_append_any _ (by rfl) _ _ 92 92 (by rfl) wr.heap.size 53 53 i0 (.int .u64 0) 1 8 Try.underlying92 Try.underlying92 hi hz0 hz1 hz2 rfl (by decide) (.slice (some ⟨wr.heap.size, 0, none⟩) 1 1) 1 [.int .u64 t0] (by rfl) (own_lit1 wr.drew _ _) (some ⟨g, 0, none⟩) m cap (u64K.flat T1) (by rfl) (by rw [flat_length, HTL.out.1]; rfl) (HSR.out _ (fun g' e => own_one_block e (heap_alloc_old wr.drew _ hgl)) (by simp; try omega)) HONE.out (by have := HTL.out; unfold maxLen; omega) (by have := HTL.out; omega) (by simp; try omega) ?_; intro vb wb hob hgb hbb)
      obtain ⟨ob, cb, rfl⟩ := own_form hob
      have hBelow : Below wr.heap.size wr wb := (((Below.refl _ _).drew).alloc (Nat.le_refl _) _).grown hgb (by simp) (fun k e => by have hd : wr.drew.heap.size = wr.heap.size := rfl; simp [Value.ownBlock] at e; omega)
      have hgB : wb.heap[g]? = wr.heap[g]? := hBelow.block g hgl
      have hnew : Own u64K wb wr.heap.size 53 (.slice ob (1 + m) cb) T := by
        have e : u64K.flat T = [.int .u64 t0] ++ u64K.flat T1 := by rw [HTT.out]; rfl
        unfold Own
        rw [e, show T.length = 1 + m from by rw [HTT.out, List.length_cons, HTL.out.1]; omega]
        exact hob
      obtain ⟨zsn, fsn, hkn⟩ := Kw.next HK.out.hq hBelow hnew
      have HKN := Lib.hid hkn
      refine hK.out _ _ ?_ (fun hHeld => ?_)
      · ((try dsimp only); exact (World.cell?_of_block (w := wr) (a := ⟨g, m, none⟩) hgB).trans d0)
      clear hK K
      try simp only [Act.put, List.setIfInBounds_toArray, List.set_cons_zero, List.set_cons_succ, List.getElem_toArray, List.getElem_cons_zero, List.getElem_cons_succ]
      refine wpAnyH_take (i := 11) (v := ?_) rfl (by kernel_rfl) (by kernel_rfl) (by kernel_rfl) (fun _ _ _ h => h) (Or.inl ⟨by rfl, ?_⟩) (by assumption) ?_
      rotate_left 1
      · (intro w hSw; (try dsimp only at hSw); first | (go_simp; done) | (go_simp; with_reducible rfl))
      try simp only [Act.put, List.setIfInBounds_toArray, List.set_cons_zero, List.set_cons_succ, List.getElem_toArray, List.getElem_cons_zero, List.getElem_cons_succ]
      refine wpAnyH_done (by kernel_rfl) ?_ _
      clear hnew hob hgb hbb hkn hBelow hgB d0 df hHeld hgl
      have HI2 := Lib.hid (HI.out.below HKN.out.hq.mz.kept)
      go_wp2_with fail
      go_at_call 50
      refine (some_any HI2.out HN.out.1 (by have := HN.out; omega)).mono ?_
      rintro e w5 ⟨vp, Q, rfl, hQ1, hQ2, hQ3, ho, hb⟩
      obtain ⟨vpo, vpc, rfl⟩ := ho.form2
      obtain ⟨j0, hj, hj0, hj1, hj2⟩ := info_partsP Ck.infoI8
      have HQ := Lib.hid (And.intro hQ1 (And.intro hQ2 hQ3))
      have HWQ : Hid (∀ x ∈ castQ Q, intK.wf x) := Lib.hid (fun x hx => by have := castQ_mem hQ3 x hx; have := HN.out; exact ⟨by omega, by omega⟩)
      have hlq : (castQ Q).length = Q.length := by simp [castQ]
      have HLQ := Lib.hid hlq
      have HO5 := Lib.hid ho
      have HB5 := Lib.hid hb
      have HSQ : Hid (Batch.Src w5 vpo (castQ Q).length (intK.flat (castQ Q))) := Lib.hid (by
        have h := src_own ho (by decide) HWQ.out (W := w5) (fun g _ => rfl) (Nat.le_refl _) (m := (castQ Q).length) (Nat.le_refl _)
        rwa [List.take_length] at h)
      clear ho hb hQ1 hQ2 hQ3 hlq
      go_wp2_with (at_builtin; refine Batch.wpList_append_any _ rfl _ _ 50 50 rfl wb.heap.size 3 3 j0 (.int .i64 0) 1 8 Try.underlying50 Try.underlying50 hj hj0 hj1 hj2 rfl (by decide) (.slice vpo (castQ Q).length vpc) (castQ Q).length (intK.flat (castQ Q)) rfl HO5.out vpo (castQ Q).length vpc (intK.flat (castQ Q)) rfl ?c1 HSQ.out ?c2 ?c3 ?c4 ?c5 ?_)
      case c1 => rw [flat_length]; rfl
      case c2 => exact flat_one (S := intK) _
      case c3 => have := HQ.out; have := HLQ.out; unfold maxLen; omega
      case c4 => have := HQ.out; have := HLQ.out; omega
      case c5 => exact HB5.out.size
      intro vq w6 hoq hgq hbq
      have hB6 : Below wb.heap.size wb w6 := HB5.out.grown hgq HB5.out.size (fun k e => (World.ownsRow.lt HO5.out k e).1)
      obtain ⟨Q2, HQ2⟩ : ∃ Q2, Hid (Q2 = Q ++ Q) := ⟨_, Lib.hid rfl⟩
      have hl2 : (castQ Q2).length = (castQ Q).length + (castQ Q).length := by rw [HQ2.out]; simp [castQ]
      have hown6 : Own intK w6 wb.heap.size 3 vq (castQ Q2) := by
        have e : intK.flat (castQ Q2) = intK.flat (castQ Q) ++ intK.flat (castQ Q) := by rw [HQ2.out]; simp [castQ, Kd.flat]
        unfold Own
        rw [e, hl2]
        exact hoq
      obtain ⟨zs6, hk6⟩ := HKN.out.with hB6 (fun g hg => World.ownsRow.lt hown6 g hg)
      obtain ⟨vqo, vqc, rfl⟩ := hown6.form2
      have HQL2 : Hid (1 ≤ (castQ Q2).length ∧ (castQ Q2).length ≤ 26 ∧ Q2.length = (castQ Q2).length ∧ (∀ q ∈ Q2, q < np)) := Lib.hid ⟨by have := HQ.out; have := HLQ.out; omega, by have := HQ.out; have := HLQ.out; omega, by simp [castQ], by rw [HQ2.out]; intro q hq; rcases List.mem_append.1 hq with h | h <;> exact HQ.out.2.2 q h⟩
      have HP6 := Lib.hid ((hown6.sl (fun x hx => by have := castQ_mem HQL2.out.2.2.2 x hx; have := HN.out; exact ⟨by omega, by omega⟩)).rr)
      have HK6 := Lib.hid hk6
      have HVF := Lib.hid (show ∀ g, (Value.slice vqo (castQ Q2).length vqc).ownBlock = some g → g ∈ (Value.slice vqo (castQ Q2).length vqc).ownBlock.toList ++ fsn from fun g hg => List.mem_append.2 (.inl (by simp [hg])))
      have hcq : (castQ Q2).length ≤ vqc := by
        obtain ⟨_, _, e, h1, h2⟩ := HP6.out.form
        injection e with e1 e2 e3
        subst e3
        first | exact h2.1 | omega
      have hc64 : ((castQ Q2).length : Int) ≤ 64 := by have := HQL2.out; omega
      have hc0 : (0 : Int) ≤ ((castQ Q2).length : Int) := Int.natCast_nonneg _
      clear hoq hgq hbq hB6 hl2 hown6 hk6
      generalize (Value.slice vqo (castQ Q2).length vqc).ownBlock.toList ++ fsn = fs6 at *
      have HNE : Hid (castQ Q2 ≠ []) := Lib.hid (fun e => by have h := HQL2.out.1; rw [e] at h; simp at h)
      generalize (castQ Q2).length = c at *
      have hc0' : ¬ (64 : Int) < (c : Int) := by omega
      clear hj hj0 hj1 hj2
      go_wp2_with fail
      have hmin : (min (c : Int) 64).toNat = c := by omega
      go_at_call 51
      rw [hmin]
      refine (shread_any HK6.out.hq HP6.out (castQ_mem HQL2.out.2.2.2) (by show (np : Int) ≤ 64; have := HN.out; omega) HNE.out (by have := HQL2.out; simp [castQ]; omega) 9 (by decide)).mono ?_
      rintro e w7 ⟨a, rfl, ha, pv, dv, zs7, hpf, hdf, hs⟩
      have HS7 := Lib.hid hs
      clear hs ha hpf hdf
      have hmin2 : min (c : Int) 64 = (c : Int) := by omega
      go_upto_region 17 with fail
      refine wp_region_held_drew (S := (fun _ => True)) (by kernel_rfl) ?_ (fun hHeld => ?_)
      · trivial
      refine wpAnyH_take (i := 0) (v := ?_) rfl (by kernel_rfl) (by kernel_rfl) (by kernel_rfl) (fun _ _ _ h => h) (Or.inl ⟨by rfl, ?_⟩) (by assumption) ?_
      rotate_left 1
      · (intro w hSw; (try dsimp only at hSw); first | (go_simp; done) | (go_simp; with_reducible rfl))
      try simp only [Act.put, List.setIfInBounds_toArray, List.set_cons_zero, List.set_cons_succ, List.getElem_toArray, List.getElem_cons_zero]
      refine wpAnyH_ready (rs := [1]) (by kernel_rfl) (by simp) ?_
      refine AllReadyH.cons rfl (fun K hK => ?_) AllReadyH.nil
      go_simp
      (go_at_call 55)
      refine (shrd_run (HS7.out.below ((Below.refl _ _).drew)) HM.out HN.out (by have := HQL2.out; omega) HQL2.out.2.2.2 (by decide) (ev_of 3) (by have := HIK.out; omega)).mono ?_
      rintro e w8 ⟨rfl, zs8, pv8, tv8, dv8, M8, hlg8, hw8, hs8⟩
      have HS8 := Lib.hid hs8
      have HK8 := Lib.hid (HK6.out.back hs8)
      have HP8 := Lib.hid (rr_block HP6.out hs8.sz (fun g hg => hs8.fr g (HVF.out g hg)))
      have HT8 := Lib.hid ((HK8.out.ow.sl HTW.out).rr)
      have HLT := Lib.hid HM.out.lt
      have HGW := Lib.hid (gotT_wf HTW.out HLT.out HQL2.out.2.2.2)
      have HGN : Hid (gotT T Q2 ≠ [] ∧ (gotT T Q2).length ≤ 1000) := Lib.hid ⟨fun e => by have h := congrArg List.length e; have := HQL2.out; simp [gotT] at h; rw [h] at this; simp at this; omega, by have := HQL2.out; simp [gotT]; omega⟩
      clear hlg8 hw8 hs8
      try go_wp2_with fail
      refine hK.out _ _ ?_ (fun hHeld => ?_)
      · ((try dsimp only); try trivial)
      clear hK K
      try simp only [Act.put, List.setIfInBounds_toArray, List.set_cons_zero, List.set_cons_succ, List.getElem_toArray, List.getElem_cons_zero, List.getElem_cons_succ]
      refine wpAnyH_take (i := 2) (v := ?_) rfl (by kernel_rfl) (by kernel_rfl) (by kernel_rfl) (fun _ _ _ h => h) (Or.inl ⟨by rfl, ?_⟩) (by assumption) ?_
      rotate_left 1
      · (intro w hSw; (try dsimp only at hSw); first | (go_simp; done) | (go_simp; with_reducible rfl))
      try simp only [Act.put, List.setIfInBounds_toArray, List.set_cons_zero, List.set_cons_succ, List.getElem_toArray, List.getElem_cons_zero, List.getElem_cons_succ]
      refine wpAnyH_take (i := 3) (v := ?_) rfl (by kernel_rfl) (by kernel_rfl) (by kernel_rfl) (fun _ _ _ h => h) (Or.inl ⟨by rfl, ?_⟩) (by assumption) ?_
      rotate_left 1
      · (intro w hSw; (try dsimp only at hSw); first | (go_simp; done) | (go_simp; with_reducible rfl))
      try simp only [Act.put, List.setIfInBounds_toArray, List.set_cons_zero, List.set_cons_succ, List.getElem_toArray, List.getElem_cons_zero, List.getElem_cons_succ]
      refine wpAnyH_take (i := 5) (v := ?_) rfl (by kernel_rfl) (by kernel_rfl) (by kernel_rfl) (fun _ _ _ h => h) (Or.inl ⟨by rfl, ?_⟩) (by assumption) ?_
      rotate_left 1
      · (intro w hSw; (try dsimp only at hSw); first | (go_simp; done) | (go_simp; with_reducible rfl))
      try simp only [Act.put, List.setIfInBounds_toArray, List.set_cons_zero, List.set_cons_succ, List.getElem_toArray, List.getElem_cons_zero, List.getElem_cons_succ]
      refine wpAnyH_take (i := 6) (v := ?_) rfl (by kernel_rfl) (by kernel_rfl) (by kernel_rfl) (fun _ _ _ h => h) (Or.inl ⟨by rfl, ?_⟩) (by assumption) ?_
      rotate_left 1
      · (intro w hSw; (try dsimp only at hSw); first | (go_simp; done) | (go_simp; with_reducible rfl))
      try simp only [Act.put, List.setIfInBounds_toArray, List.set_cons_zero, List.set_cons_succ, List.getElem_toArray, List.getElem_cons_zero, List.getElem_cons_succ]
      refine wpAnyH_take (i := 8) (v := ?_) rfl (by kernel_rfl) (by kernel_rfl) (by kernel_rfl) (fun _ _ _ h => h) (Or.inl ⟨by rfl, ?_⟩) (by assumption) ?_
      rotate_left 1
      · (intro w hSw; (try dsimp only at hSw); first | (go_simp; done) | (go_simp; with_reducible rfl))
      try simp only [Act.put, List.setIfInBounds_toArray, List.set_cons_zero, List.set_cons_succ, List.getElem_toArray, List.getElem_cons_zero, List.getElem_cons_succ]
      refine wpAnyH_take (i := 9) (v := ?_) rfl (by kernel_rfl) (by kernel_rfl) (by kernel_rfl) (fun _ _ _ h => h) (Or.inl ⟨by rfl, ?_⟩) (by assumption) ?_
      rotate_left 1
      · (intro w hSw; (try dsimp only at hSw); first | (go_simp; done) | (go_simp; with_reducible rfl))
      try simp only [Act.put, List.setIfInBounds_toArray, List.set_cons_zero, List.set_cons_succ, List.getElem_toArray, List.getElem_cons_zero, List.getElem_cons_succ]
      refine wpAnyH_take (i := 10) (v := ?_) rfl (by kernel_rfl) (by kernel_rfl) (by kernel_rfl) (fun _ _ _ h => h) (Or.inl ⟨by rfl, ?_⟩) (by assumption) ?_
      rotate_left 1
      · (intro w hSw; (try dsimp only at hSw); first | (go_simp; done) | (go_simp; with_reducible rfl))
      try simp only [Act.put, List.setIfInBounds_toArray, List.set_cons_zero, List.set_cons_succ, List.getElem_toArray, List.getElem_cons_zero, List.getElem_cons_succ]
      refine wpAnyH_take (i := 11) (v := ?_) rfl (by kernel_rfl) (by kernel_rfl) (by kernel_rfl) (fun _ _ _ h => h) (Or.inl ⟨by rfl, ?_⟩) (by assumption) ?_
      rotate_left 1
      · (intro w hSw; (try dsimp only at hSw); first | (go_simp; done) | (go_simp; with_reducible rfl))
      try simp only [Act.put, List.setIfInBounds_toArray, List.set_cons_zero, List.set_cons_succ, List.getElem_toArray, List.getElem_cons_zero, List.getElem_cons_succ]
      refine wpAnyH_take (i := 12) (v := ?_) rfl (by kernel_rfl) (by kernel_rfl) (by kernel_rfl) (fun _ _ _ h => h) (Or.inl ⟨by rfl, ?_⟩) (by assumption) ?_
      rotate_left 1
      · (intro w hSw; (try dsimp only at hSw); first | (go_simp; done) | (go_simp; with_reducible rfl))
      try simp only [Act.put, List.setIfInBounds_toArray, List.set_cons_zero, List.set_cons_succ, List.getElem_toArray, List.getElem_cons_zero, List.getElem_cons_succ]
      refine wpAnyH_ready (rs := [4, 7]) (by kernel_rfl) (by simp) ?_
      refine AllReadyH.cons rfl (fun K hK => ?_) (AllReadyH.cons rfl (fun K hK => ?_) AllReadyH.nil)
      · skip
        go_simp
        (go_at_call 54)
        refine (shtimes_yes HS8.out.sa HS8.out.tod rfl HS8.out.ti HGW.out HGN.out.1 HGN.out.2).mono ?_
        rintro e w9 ⟨v9, rfl, ho9, hb9⟩
        obtain ⟨o9, c9, rfl⟩ := ho9.form2
        have HR9 := Lib.hid ((ho9.sl HGW.out).rr)
        have HB9 := Lib.hid hb9
        clear ho9 hb9
        try go_wp2_with fail
        refine hK.out _ _ ?_ (fun hHeld => ?_)
        · ((try dsimp only); try trivial)
        clear hK K
        try simp only [Act.put, List.setIfInBounds_toArray, List.set_cons_zero, List.set_cons_succ, List.getElem_toArray, List.getElem_cons_zero, List.getElem_cons_succ]
        refine wpAnyH_ready (rs := [7]) (by kernel_rfl) (by simp) ?_
        refine AllReadyH.cons rfl (fun K hK => ?_) AllReadyH.nil
        go_simp
        try go_wp2_with fail
        refine hK.out _ _ ?_ (fun hHeld => ?_)
        · ((try dsimp only); try trivial)
        clear hK K
        try simp only [Act.put, List.setIfInBounds_toArray, List.set_cons_zero, List.set_cons_succ, List.getElem_toArray, List.getElem_cons_zero, List.getElem_cons_succ]
        have HRS : Hid (RSh (w9.alloc (.cells #[.slice ob (1 + m) cb] 94)) w9.heap.size (.slice ob (1 + m) cb)) := Lib.hid ⟨_, heap_alloc_new w9 _⟩
        have HBx : Hid (Below w8.heap.size w8 (w9.alloc (.cells #[.slice ob (1 + m) cb] 94))) := Lib.hid (HB9.out.alloc HB9.out.size _)
        have HR9x : Hid (Rr u64K (w9.alloc (.cells #[.slice ob (1 + m) cb] 94)) (.slice o9 (gotT T Q2).length c9) (gotT T Q2)) := Lib.hid (HR9.out.below ((Below.refl _ _).alloc (Nat.le_refl _) _))
        refine wpAnyH_ready (rs := [13]) (by kernel_rfl) (by simp) ?_
        refine AllReadyH.cons rfl (fun K hK => ?_) AllReadyH.nil
        go_simp
        (go_at_call 57)
        refine (refread13_any (r := w9.heap.size) (np := np) HRS.out (HT8.out.below HBx.out) HLT.out (by have := HN.out; omega) (HP8.out.below HBx.out) HQL2.out.2.2.2 (by have := HQL2.out; omega)).mono ?_
        rintro e w10 ⟨v10, rfl, ho10, hb10⟩
        obtain ⟨o10, c10, rfl⟩ := ho10.form2
        have HR10 := Lib.hid ((ho10.sl HGW.out).rr)
        have HR9' := Lib.hid (HR9x.out.below hb10)
        have HB10 := Lib.hid (HBx.out.trans (hb10.mono HBx.out.size))
        clear ho10 hb10
        try go_wp2_with fail
        refine hK.out _ _ ?_ (fun hHeld => ?_)
        · ((try dsimp only); try trivial)
        clear hK K
        try simp only [Act.put, List.setIfInBounds_toArray, List.set_cons_zero, List.set_cons_succ, List.getElem_toArray, List.getElem_cons_zero, List.getElem_cons_succ]
        refine wpAnyH_ready (rs := [14]) (by kernel_rfl) (by simp) ?_
        refine AllReadyH.cons rfl (fun K hK => ?_) AllReadyH.nil
        go_simp
        (go_at_call 56; refine (refsame13_any HR9'.out HR10.out).mono ?_; rintro e w11 ⟨rfl, hb11⟩; have HB11 := Lib.hid (HB10.out.trans (hb11.mono HB10.out.size)); clear hb11)
        try go_wp2_with fail
        refine hK.out _ _ ?_ (fun hHeld => ?_)
        · ((try dsimp only); try trivial)
        clear hK K
        try simp only [Act.put, List.setIfInBounds_toArray, List.set_cons_zero, List.set_cons_succ, List.getElem_toArray, List.getElem_cons_zero, List.getElem_cons_succ]
        refine wpAnyH_take (i := 15) (v := ?_) rfl (by kernel_rfl) (by kernel_rfl) (by kernel_rfl) (fun _ _ _ h => h) (Or.inl ⟨by rfl, ?_⟩) (by assumption) ?_
        rotate_left 1
        · (intro w hSw; (try dsimp only at hSw); first | (go_simp; done) | (go_simp; with_reducible rfl))
        try simp only [Act.put, List.setIfInBounds_toArray, List.set_cons_zero, List.set_cons_succ, List.getElem_toArray, List.getElem_cons_zero, List.getElem_cons_succ]
        refine wpAnyH_take (i := 16) (v := ?_) rfl (by kernel_rfl) (by kernel_rfl) (by kernel_rfl) (fun _ _ _ h => h) (Or.inl ⟨by rfl, ?_⟩) (by assumption) ?_
        rotate_left 1
        · (intro w hSw; (try dsimp only at hSw); first | (go_simp; done) | (go_simp; with_reducible rfl))
        try simp only [Act.put, List.setIfInBounds_toArray, List.set_cons_zero, List.set_cons_succ, List.getElem_toArray, List.getElem_cons_zero, List.getElem_cons_succ]
        refine wpAnyH_done (by kernel_rfl) ?_ _
        have HLB := Lib.hid ((HK8.out.hq.below HB11.out).mz.kept)
        go_wp2_with fail
        go_ret
        exact ⟨rfl, HLB.out⟩
      · skip
        go_simp
        try go_wp2_with fail
        refine hK.out _ _ ?_ (fun hHeld => ?_)
        · ((try dsimp only); try trivial)
        clear hK K
        try simp only [Act.put, List.setIfInBounds_toArray, List.set_cons_zero, List.set_cons_succ, List.getElem_toArray, List.getElem_cons_zero, List.getElem_cons_succ]
        have hB1 : Below w8.heap.size w8 (w8.alloc (.cells #[.slice ob (1 + m) cb] 94)) := (Below.refl _ _).alloc (Nat.le_refl _) _
        have HB1 := Lib.hid hB1
        have HS9 := Lib.hid (HS8.out.below hB1)
        have HRS1 : Hid (RSh (w8.alloc (.cells #[.slice ob (1 + m) cb] 94)) w8.heap.size (.slice ob (1 + m) cb)) := Lib.hid ⟨_, heap_alloc_new w8 _⟩
        clear hB1
        refine wpAnyH_ready (rs := [4]) (by kernel_rfl) (by simp) ?_
        refine AllReadyH.cons rfl (fun K hK => ?_) AllReadyH.nil
        go_simp
        (go_at_call 54)
        refine (shtimes_yes HS9.out.sa HS9.out.tod rfl HS9.out.ti HGW.out HGN.out.1 HGN.out.2).mono ?_
        rintro e w9 ⟨v9, rfl, ho9, hb9⟩
        obtain ⟨o9, c9, rfl⟩ := ho9.form2
        have HR9x := Lib.hid ((ho9.sl HGW.out).rr)
        have HBx := Lib.hid (HB1.out.trans (hb9.mono HB1.out.size))
        have HRS : Hid (RSh w9 w8.heap.size (.slice ob (1 + m) cb)) := Lib.hid (by obtain ⟨T', h⟩ := HRS1.out; exact ⟨T', (hb9.block _ (by simp)).trans h⟩)
        clear ho9 hb9
        try go_wp2_with fail
        refine hK.out _ _ ?_ (fun hHeld => ?_)
        · ((try dsimp only); try trivial)
        clear hK K
        try simp only [Act.put, List.setIfInBounds_toArray, List.set_cons_zero, List.set_cons_succ, List.getElem_toArray, List.getElem_cons_zero, List.getElem_cons_succ]
        refine wpAnyH_ready (rs := [13]) (by kernel_rfl) (by simp) ?_
        refine AllReadyH.cons rfl (fun K hK => ?_) AllReadyH.nil
        go_simp
        (go_at_call 57)
        refine (refread13_any (r := w8.heap.size) (np := np) HRS.out (HT8.out.below HBx.out) HLT.out (by have := HN.out; omega) (HP8.out.below HBx.out) HQL2.out.2.2.2 (by have := HQL2.out; omega)).mono ?_
        rintro e w10 ⟨v10, rfl, ho10, hb10⟩
        obtain ⟨o10, c10, rfl⟩ := ho10.form2
        have HR10 := Lib.hid ((ho10.sl HGW.out).rr)
        have HR9' := Lib.hid (HR9x.out.below hb10)
        have HB10 := Lib.hid (HBx.out.trans (hb10.mono HBx.out.size))
        clear ho10 hb10
        try go_wp2_with fail
        refine hK.out _ _ ?_ (fun hHeld => ?_)
        · ((try dsimp only); try trivial)
        clear hK K
        try simp only [Act.put, List.setIfInBounds_toArray, List.set_cons_zero, List.set_cons_succ, List.getElem_toArray, List.getElem_cons_zero, List.getElem_cons_succ]
        refine wpAnyH_ready (rs := [14]) (by kernel_rfl) (by simp) ?_
        refine AllReadyH.cons rfl (fun K hK => ?_) AllReadyH.nil
        go_simp
        (go_at_call 56; refine (refsame13_any HR9'.out HR10.out).mono ?_; rintro e w11 ⟨rfl, hb11⟩; have HB11 := Lib.hid (HB10.out.trans (hb11.mono HB10.out.size)); clear hb11)
        try go_wp2_with fail
        refine hK.out _ _ ?_ (fun hHeld => ?_)
        · ((try dsimp only); try trivial)
        clear hK K
        try simp only [Act.put, List.setIfInBounds_toArray, List.set_cons_zero, List.set_cons_succ, List.getElem_toArray, List.getElem_cons_zero, List.getElem_cons_succ]
        refine wpAnyH_take (i := 15) (v := ?_) rfl (by kernel_rfl) (by kernel_rfl) (by kernel_rfl) (fun _ _ _ h => h) (Or.inl ⟨by rfl, ?_⟩) (by assumption) ?_
        rotate_left 1
        · (intro w hSw; (try dsimp only at hSw); first | (go_simp; done) | (go_simp; with_reducible rfl))
        try simp only [Act.put, List.setIfInBounds_toArray, List.set_cons_zero, List.set_cons_succ, List.getElem_toArray, List.getElem_cons_zero, List.getElem_cons_succ]
        refine wpAnyH_take (i := 16) (v := ?_) rfl (by kernel_rfl) (by kernel_rfl) (by kernel_rfl) (fun _ _ _ h => h) (Or.inl ⟨by rfl, ?_⟩) (by assumption) ?_
        rotate_left 1
        · (intro w hSw; (try dsimp only at hSw); first | (go_simp; done) | (go_simp; with_reducible rfl))
        try simp only [Act.put, List.setIfInBounds_toArray, List.set_cons_zero, List.set_cons_succ, List.getElem_toArray, List.getElem_cons_zero, List.getElem_cons_succ]
        refine wpAnyH_done (by kernel_rfl) ?_ _
        have HLB := Lib.hid ((HK8.out.hq.below HB11.out).mz.kept)
        go_wp2_with fail
        go_ret
        exact ⟨rfl, HLB.out⟩
end Go.Proofs.Ytjmkcgkkgamafaa.Sh
