/-
  PACKAGE marchlandref08: Do: Set.
-/
import Derived.Test.YtneegocbknkhjaaRmDo
namespace Go.Proofs.Ytneegocbknkhjaa.Rm
open Go.RowKit Rw Pk Mm
set_option linter.unusedVariables false

section
variable {P : Program} (w : World)
theorem step_append_any {ops : Array Oper} {o : Oper} {a : Act} {K : Act → World → Prop} {Q : Exit → Act → World → Prop} {E : Prop} (hgd : o.guard = none) (s x : Operand) (t t2 : TypeId)
    (ho : o.op = .call { callee := .builtin .append, args := #[s, x], argTypes := #[t, t2] })
    (base : Nat) (e e2 : TypeId) (i : TypeInfo) (z : Value) (size bytes : Nat) (ht : P.underlying t = some (.slice e)) (ht2 : P.underlying t2 = some (.slice e2)) (hi : P.info? e = some i) (hz : i.zero = some z)
    (hsize : i.size = size) (hby : i.bytes = bytes) (hzs : z.cells.size = size) (hsz : 0 < size)
    (v : Value) (n : Nat) (xs : List Value) (hs : a.eval s = v) (hown : w.ownsRow base e size v n xs)
    (A : Option Addr) (m c : Nat) (news : List Value) (hx : a.eval x = .slice A m c) (hl : news.length = m * size) (hr : Batch.Src w A m news) (h1 : ∀ u ∈ news, u.oneCell' = true)
    (h63 : n + m ≤ maxLen) (hbytes : (n + m) * bytes ≤ 140737488355328) (hbase : base ≤ w.heap.size)
    (h : ∀ ao nn cc w', w'.ownsRow base e size (.slice ao nn cc) (n + m) (xs ++ news) → w.grownBy w' v.ownBlock → K (a.put o.dst (.slice ao nn cc)) w') :
    if Region.wanted o (yielded ops a.tmps) = true then Oper.wp P o a w K Q else E := by
  have hw : Region.wanted o (yielded ops a.tmps) = true := by simp [Region.wanted, hgd]
  rw [if_pos hw]
  refine Batch.wp_append_any w s x t t2 ho base e e2 i z size bytes ht ht2 hi hz hsize hby hzs hsz v n xs hs hown A m c news hx hl hr h1 h63 hbytes hbase fun v' w' h2 h3 _ => ?_
  rcases id h2.2 with ⟨rfl, _⟩ | ⟨g, cap, cur, rfl, _⟩
  · exact h _ _ _ w' h2 h3
  · exact h _ _ _ w' h2 h3
end
theorem own_nil_k (w : World) (T : TypeId) (k : Nat) {n base : Nat} (hn : w.heap.size = n) (hb : base ≤ n) : (w.alloc (.cells #[] T)).ownsRow base T k (.slice (some ⟨n, 0, none⟩) 0 0) 0 [] := by
  subst hn
  exact ⟨by simp, .inr ⟨w.heap.size, 0, #[], rfl, hb, heap_alloc_new w _, Nat.le_refl _, by unfold maxLen; omega, by simp, by simp⟩⟩
theorem rset_step {τ : Nat → Nat} {w w' : World} {b : Nat} {R : Rs} {V : Vr} (hV : RefIs τ w b R V) (hb : Below w.heap.size w w') {ao : Option Addr} {n c : Nat} {l l0 : List Batch.Ch}
    (ho : Batch.Own w' w.heap.size 119 (.slice ao n c) l) {i g m cap : Nat} (hx : R.bs[i]? = some l0) (hv : V.vb = .slice (some ⟨g, 0, none⟩) m cap) (hg : τ g = 3) :
    RefP τ w b { R with bs := R.bs.set i l } (w'.setCell ⟨g, i, none⟩ (.slice ao n c)) := by
  have hil := (List.getElem?_eq_some_iff.1 hx).1
  have hs := hb.size
  obtain ⟨s, hs0⟩ : ∃ s, V.bv[i]? = some s := ⟨_, List.getElem?_eq_getElem (by rw [hV.bl]; exact hil)⟩
  have ho' : Own chK w' 0 119 (Sv.val ⟨ao, n, c⟩) l := Batch.Own.mono ho (Nat.zero_le _)
  have hglt : g < w.heap.size := own_block_lt hV.bs.1 (by rw [hv]; rfl)
  have hbase : ∀ k, (Value.slice ao n c).ownBlock = some k → w.heap.size ≤ k := fun k e => (World.ownsRow.lt ho k e).1
  obtain ⟨τ', he, ht, hz⟩ := grow_tag (τ := τ) (w := w) (t := 7) (by decide) ho' (fun k hk hlt => by have := hbase k hk; omega) hV.tz hs
  have hset : ∀ j, j ≠ g → (w'.setCell ⟨g, i, none⟩ (.slice ao n c)).heap[j]? = w'.heap[j]? := fun j hj => Below.heap_setCell _ _ _ _ hj
  have hk : Keep τ (fun q => q = 3) w (w'.setCell ⟨g, i, none⟩ (.slice ao n c)) := ⟨by rw [size_setCell]; exact hs, fun j hj _ hq => (hset j (fun h => hq (by rw [h]; exact hg))).trans (hb.block j hj)⟩
  have hrow' : Row svK w' τ 3 31 V.vb V.bv := hV.bs.keep (q := fun _ => False) ⟨hs, fun j hj _ _ => hb.block j hj⟩ (ext_refl _ _) (by decide) id
  have hr : Row svK (w'.setCell ⟨g, i, none⟩ (.slice ao n c)) τ' 3 31 V.vb (V.bv.set i ⟨ao, n, c⟩) := by
    have h1 := hrow'
    rw [hv] at h1 ⊢
    have h2 := row_set1 (S := svK) rfl h1 hs0 (y := ⟨ao, n, c⟩) rfl
    refine ⟨h2.1, fun k hk' => ?_⟩
    have : k = g := by simpa [Value.ownBlock] using hk'.symm
    rw [this, he g hglt]
    exact hg
  have hn : Row chK (w'.setCell ⟨g, i, none⟩ (.slice ao n c)) τ' 7 119 (Sv.val ⟨ao, n, c⟩) l :=
    ⟨own_of_block ho' fun k hk' => hset k (fun h => by have := hbase k hk'; omega), ht⟩
  exact ⟨τ', ⟨_, hV.box hil hk he hr hn fun j hj => by rw [size_setCell]; exact hz j hj⟩, ⟨he, (hb.mono (Nat.zero_le _)).setCell (Nat.zero_le _) _, fun j hj h0 => (hset j (fun h => by rw [h, hg] at h0; cases h0)).trans (hb.block j hj)⟩⟩
theorem infoRch : (Try.prog.info? 119).map (fun i => (i.zero, i.size, i.bytes)) = some (some (.agg #[.int .i64 0, .int .u64 0, .int .i64 0]), 3, 24) := by kernel_rfl
theorem sl_src {w : World} {ao : Option Addr} {n cap : Nat} {l : List Batch.Ch} (h : Batch.Sl w (.slice ao n cap) l) : n = l.length ∧ Batch.Src w ao l.length (chK.flat l) := Batch.Sl.src h
set_option maxRecDepth 1000000 in
set_option maxHeartbeats 8000000 in
theorem do_set {w : World} {τ : Nat → Nat} {b : Nat} {R : Rs} (hR : RefAt τ w b R) (hB : RBnd R) (who v : Int) (vb : Value) (hw : 0 ≤ who) (hn : inBed R who = false) {i : Nat} {l l0 : List Batch.Ch} (hx : R.bs[i]? = some l0) (hvb : Batch.Sl w vb l) (hll : l.length ≤ 1000) :
    Calls Try.prog 19 #[.pointer (some ⟨b, 0, none⟩), .int .i64 who, .int .i64 3, .int .i64 (i : Int), .int .u64 v, vb] w (fun e w' => DoP τ b w 0 (.slice none 0 0) true (({ R with bs := R.bs.set i l } : Rs).note ⟨who, 3, (i : Int), true⟩) e w') := by
  obtain ⟨i0, hi, hz0, hz1, hz2⟩ := info_partsP infoRev
  have HAS := Lib.hid (rasleep_any hR hB.2.2.2.1 who)
  rw [hn] at HAS
  obtain ⟨hb0, hb1, hb2, hb3, hb4⟩ := hB
  obtain ⟨V, hV⟩ := hR
  obtain ⟨c0, c1, c2, c3, c4, cf⟩ := five_r hV.st
  obtain ⟨ao0, cap0, hv0⟩ := row_form hV.ws
  obtain ⟨ao1, cap1, hv1⟩ := row_form hV.bs
  obtain ⟨ao2, cap2, hv2⟩ := row_form hV.la
  have HV := Lib.hid hV
  have hi0 : (0 : Int) ≤ (i : Int) := Int.natCast_nonneg _
  have hwn : decide (who < 0) = false := decide_eq_false (by omega)
  have hil := (List.getElem?_eq_some_iff.1 hx).1
  have hi1 : (i : Int) < (R.bs.length : Int) := by omega
  obtain ⟨s, hs⟩ : ∃ s, V.bv[i]? = some s := ⟨_, List.getElem?_eq_getElem (by rw [hV.bl]; exact hil)⟩
  obtain ⟨g, cap, hv, hglt, hτ, q, hf⟩ := row_at hV.bs hs
  have d0 : w.cell? ⟨g, i, none⟩ = some (.slice s.ao s.n s.c) := by have := q 0 _ (by decide) rfl; rwa [show i * svK.k + 0 = i from Nat.mul_one i] at this
  have df := hf i
  obtain ⟨vo, vn, vc, rfl⟩ : ∃ ao n c, vb = .slice ao n c := by obtain ⟨ao, c, h, _⟩ := hvb; exact ⟨_, _, _, h⟩
  have hvn := (sl_src hvb).1
  have HSRC := Lib.hid (fun (w' : World) (h : Below w.heap.size w w') => (sl_src (hvb.below h)).2)
  obtain ⟨j0, hj, hj0, hj1, hj2⟩ := info_partsP infoRch
  have HX := Lib.hid hx
  have HVB := Lib.hid hv
  have HT := Lib.hid hτ
  have hblt := (Array.getElem?_eq_some_iff.1 hV.st).1
  have HLL := Lib.hid hll
  have hll2 : vn ≤ 1000 := by omega
  have HVN := Lib.hid hvn
  rw [hv, hV.bl] at c1
  rw [hv2] at c2
  clear q hv hv0 hv1 hv2 c0 c3 c4 cf hV hx hf hτ hs hvb hvn hll
  go_enter Try.func19, Try.ntmps19
  go_wp2_with fail
  go_at_call 24
  refine HAS.out.mono ?_
  rintro e w1 ⟨rfl, rfl⟩
  go_upto_region 19 with fail
  go_region_law (refine step_append_any _ (by rfl) _ _ 31 31 (by rfl) w.heap.size 119 119 j0 _ 3 24 Try.underlying31 Try.underlying31 hj hj0 hj1 hj2 rfl (by decide) (.slice (some ⟨w.heap.size, 0, none⟩) 0 0) 0 [] (by rfl) ((own_nil_k w _ 3 rfl (Nat.le_refl _)).drew) vo vn vc (chK.flat l) (by rfl) (by rw [flat_length, HVN.out]; rfl) (by rw [HVN.out]; exact HSRC.out _ ((Below.refl _ _).alloc (Nat.le_refl _) _).drew) (flat_one l) (by unfold maxLen; omega) (by omega) (by simp) ?_; intro xo xn xc w3 hownx hgrowx; have hb3 : Below w.heap.size w w3 := ((Below.refl _ _).alloc (Nat.le_refl _) _).drew.grown hgrowx (by simp) (fun k e => by simp [Value.ownBlock] at e; omega); have f1 : w3.cell? ⟨b, 1, none⟩ = some (.slice (some ⟨g, 0, none⟩) R.bs.length cap) := (hb3.cell (p := ⟨b, 1, none⟩) hblt).trans c1; have f2 : w3.cell? ⟨g, i, none⟩ = some (.slice s.ao s.n s.c) := (hb3.cell (p := ⟨g, i, none⟩) hglt).trans d0; have f3 : w3.frozen? ⟨g, i, none⟩ = false := (hb3.frozen (p := ⟨g, i, none⟩) hglt).trans df)
  all_goals
    have hP3 := rset_step HV.out hb3 (show Batch.Own w3 w.heap.size 119 (.slice xo xn xc) l from by
      unfold Batch.Own
      rw [← HVN.out]
      rw [Nat.zero_add, List.nil_append] at hownx
      exact hownx) HX.out HVB.out HT.out
    have HP3 := Lib.hid hP3
    clear hP3 hownx hgrowx hb3
    go_upto_region 41 with fail
    clear f1 f2 f3 d0 df c1 c2
    generalize hwn : (World.setCell _ _ _) = wn at HP3 ⊢
    clear hwn
    obtain ⟨τ3, ⟨V3, hV3⟩, hS3⟩ := HP3.out
    obtain ⟨_, _, _, _, e4, _⟩ := five_r hV3.st
    have HV3 := Lib.hid hV3
    have HS3 := Lib.hid hS3
    clear hV3 hS3 HP3
    have hownL : wn.ownsRow 0 131 4 V3.vg R.lg.length (evK.flat R.lg) := HV3.out.lg.1
    go_wp2_with (at_builtin; refine Batch.wpList_append_any _ rfl _ _ 48 48 rfl 0 131 131 i0 (.agg #[.int .i64 0, .int .i64 0, .int .i64 0, .bool false]) 4 32 Try.underlying48 Try.underlying48 hi hz0 hz1 hz2 rfl (by decide) V3.vg R.lg.length (evK.flat R.lg) rfl (hownL.alloc _) (some ⟨wn.heap.size, 0, none⟩) 1 1 [.int .i64 who, .int .i64 3, .int .i64 (i : Int), .bool true] rfl rfl (.inr ⟨_, rfl, World.news_of_block (cs := #[.int .i64 who, .int .i64 3, .int .i64 (i : Int), .bool true]) (heap_alloc_new wn _)⟩) (by intro u hu; simp at hu; rcases hu with rfl | rfl | rfl | rfl <;> rfl) (by unfold maxLen; omega) (by omega) (Nat.zero_le _) ?_)
    intro v' w2 hown1 hgrow hblk
    have hown2 : Own evK w2 0 131 v' (R.lg ++ [⟨who, 3, (i : Int), true⟩]) := own_any hown1 (by simp) (by rw [flat_snoc]; rfl)
    obtain ⟨ao', n', cap', rfl⟩ : ∃ ao n c, v' = .slice ao n c := by obtain ⟨ao, c, h⟩ := hown2.form2; exact ⟨ao, _, c, h⟩
    obtain ⟨hP, d4, df4, hoth⟩ := rlog_step HV3.out _ ⟨who, 3, (i : Int), true⟩ hown2 hgrow hblk
    have HP := Lib.hid hP
    clear hownL hown1 hown2 hgrow hblk hP hoth
    go_wp2_with fail
    go_ret3
    exact ⟨rfl, RefP.trans HS3.out HP.out⟩

end Go.Proofs.Ytneegocbknkhjaa.Rm
