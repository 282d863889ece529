/-
  PACKAGE mem: Set.
  PACKAGE mem, PLAIN MATHEMATICS: what stays so while few things are done.
-/
import Derived.Test.YtmggnalobfihnaaMemWord
import Derived.Deep.CutBlock
import Derived.Deep.CutRange
import Derived.Test.YtmggnalobfihnaaMemLog
namespace Go.Proofs.Ytmggnalobfihnaa.Mm
open Go.RowKit Rw Pk Go.Maps
set_option linter.unusedVariables false

theorem set_step {τ : Nat → Nat} {w w' : World} {b : Nat} {M : St} {V : Vs} (hV : MemIs τ w b M V) (hb : Below w.heap.size w w') {ao : Option Addr} {n c : Nat} {l l0 : List Batch.Ch} {T : TypeId} (hT : T = 58)
    (ho : Batch.Own w' w.heap.size T (.slice ao n c) l) {i g m cap : Nat} (hx : M.bs[i]? = some l0) (hv : V.vb = .slice (some ⟨g, 0, none⟩) m cap) (hg : τ g = 3) :
    ∃ τ', MemAt τ' (w'.setCell ⟨g, i, none⟩ (.slice ao n c)) b { M with bs := M.bs.set i l } ∧ Step τ τ' w (w'.setCell ⟨g, i, none⟩ (.slice ao n c)) := by
  subst hT
  have hil := (List.getElem?_eq_some_iff.1 hx).1
  have hs := hb.size
  obtain ⟨s, hs0⟩ : ∃ s, V.bv[i]? = some s := ⟨_, List.getElem?_eq_getElem (by rw [hV.bl]; exact hil)⟩
  have ho' : Own chK w' 0 58 (Sv.val ⟨ao, n, c⟩) l := Batch.Own.mono ho (Nat.zero_le _)
  have hglt : g < w.heap.size := own_block_lt hV.bs.1 (by rw [hv]; rfl)
  have hbase : ∀ k, (Value.slice ao n c).ownBlock = some k → w.heap.size ≤ k := fun k e => (World.ownsRow.lt ho k e).1
  obtain ⟨τ', hτ⟩ : ∃ τ' : Nat → Nat, τ' = fun i => if i < w.heap.size then τ i else if (Value.slice ao n c).ownBlock = some i then 7 else 0 := ⟨_, rfl⟩
  have hlt : ∀ j, j < w.heap.size → τ' j = τ j := fun j hj => by rw [hτ]; exact if_pos hj
  have hset : ∀ j, j ≠ g → (w'.setCell ⟨g, i, none⟩ (.slice ao n c)).heap[j]? = w'.heap[j]? := fun j hj => Below.heap_setCell _ _ _ _ hj
  have hk : Keep τ (fun q => q = 3) w (w'.setCell ⟨g, i, none⟩ (.slice ao n c)) := ⟨by rw [size_setCell]; exact hs, fun j hj _ hq => (hset j (fun h => hq (by rw [h]; exact hg))).trans (hb.block j hj)⟩
  have hrow' : Row svK w' τ 3 50 V.vb V.bv := hV.bs.keep (q := fun _ => False) ⟨hs, fun j hj _ _ => hb.block j hj⟩ (ext_refl _ _) (by decide) id
  have hr : Row svK (w'.setCell ⟨g, i, none⟩ (.slice ao n c)) τ' 3 50 V.vb (V.bv.set i ⟨ao, n, c⟩) := by
    have h1 := hrow'
    rw [hv] at h1 ⊢
    have h2 := row_set1 (S := svK) rfl h1 hs0 (y := ⟨ao, n, c⟩) rfl
    refine ⟨h2.1, fun k hk' => ?_⟩
    have : k = g := by simpa [Value.ownBlock] using hk'.symm
    rw [this, hlt g hglt]
    exact hg
  have hn : Row chK (w'.setCell ⟨g, i, none⟩ (.slice ao n c)) τ' 7 58 (Sv.val ⟨ao, n, c⟩) l := by
    refine ⟨own_of_block ho' fun k hk' => hset k (fun h => by have := hbase k hk'; omega), fun k hk' => ?_⟩
    have := hbase k hk'
    rw [hτ]
    show (if k < w.heap.size then τ k else if (Value.slice ao n c).ownBlock = some k then 7 else 0) = 7
    rw [if_neg (by omega), if_pos (show (Value.slice ao n c).ownBlock = some k from hk')]
  refine ⟨τ', ⟨_, hV.box hil hk hlt hr hn fun j hj => ?_⟩, ⟨hlt, ?_, fun j hj h0 => (hset j (fun h => by rw [h, hg] at h0; cases h0)).trans (hb.block j hj)⟩⟩
  · rw [size_setCell]
    by_cases hjl : j < w.heap.size
    · omega
    · rw [hτ] at hj
      simp only [if_neg hjl] at hj
      by_cases hv' : (Value.slice ao n c).ownBlock = some j
      · exact own_block_lt ho' hv'
      · rw [if_neg hv'] at hj; exact absurd rfl hj
  · exact (hb.mono (Nat.zero_le _)).setCell (Nat.zero_le _) _
theorem bown_form {w : World} {base : Nat} {T : TypeId} {v : Value} {l : List Batch.Ch} (h : Batch.Own w base T v l) : ∃ ao n c, v = .slice ao n c := by
  rcases Batch.Own.form h with ⟨_, h⟩ | ⟨g, c, h, _⟩
  · exact ⟨_, _, _, h⟩
  · exact ⟨_, _, _, h⟩
theorem sl_step {τ τ' : Nat → Nat} {w w' : World} {v : Value} {l : List Batch.Ch} (h : Batch.Sl w v l) (h0 : ∀ g, v.ownBlock = some g → τ g = 0) (hs : Step τ τ' w w') : Batch.Sl w' v l := by
  obtain ⟨ao, cp, rfl, h1, h2⟩ := h
  refine ⟨ao, cp, rfl, ?_, h2⟩
  rcases h1 with h1 | ⟨b', off, rfl, h3⟩
  · exact .inl h1
  · refine .inr ⟨b', off, rfl, fun i x hx => ?_⟩
    obtain ⟨c0, c1, c2⟩ := h3 i x hx
    have hb := hs.out b' (Lib.lt_of_cell c0) (h0 b' rfl)
    have e : ∀ o, w'.cell? ⟨b', o, none⟩ = w.cell? ⟨b', o, none⟩ := fun o => World.cell?_of_block (w := w) hb
    exact ⟨(e _).trans c0, (e _).trans c1, (e _).trans c2⟩
def setS (M : St) (who a : Int) (l : List Batch.Ch) : St := if mayB M who 3 a = true then { M.note ⟨who, 3, a, true⟩ with bs := M.bs.set a.toNat l } else M
set_option maxRecDepth 1000000 in
set_option maxHeartbeats 8000000 in
theorem set_any {w : World} {τ : Nat → Nat} {b : Nat} {M : St} {v : Value} {l : List Batch.Ch} (hM : MemAt τ w b M) (hB : Bnd2 M) (who a : Int) (hw : I64 who) (ha : I64 a) (hv : Batch.Sl w v l) (hl : l.length ≤ 20000) (hv0 : ∀ g, v.ownBlock = some g → τ g = 0) :
    Calls Try.prog 51 #[.pointer (some ⟨b, 0, none⟩), .int .i64 who, .int .i64 a, v] w
      fun e w' => e = .returned (.tuple #[]) ∧ MemP τ w b (setS M who a l) w' := by
  have HMAY := Lib.hid (may_any hM hB.1 who 3 a (by decide) ha hw)
  have HM := Lib.hid hM
  have HB := Lib.hid hB
  have HL := Lib.hid hl
  have HSL := Lib.hid hv
  have HV0 := Lib.hid hv0
  obtain ⟨vo, vc, rfl, _⟩ : ∃ vo vc, v = .slice vo l.length vc ∧ True := by obtain ⟨vo, vc, h, _⟩ := hv; exact ⟨vo, vc, h, trivial⟩
  clear hM hB hv hv0
  by_cases h : mayB M who 3 a = true
  · have HS : Hid (setS M who a l = { M.note ⟨who, 3, a, true⟩ with bs := M.bs.set a.toNat l }) := Lib.hid (if_pos h)
    obtain ⟨h0, h1, _, _⟩ := mayB_yes h
    obtain ⟨i, l0, rfl, hi, hx⟩ := cnt_box 3 (.inr rfl) h0 h1
    rw [show ((i : Int)).toNat = i by omega] at HS
    have HX := Lib.hid hx
    have hl0 : (0 : Int) ≤ (i : Int) := Int.natCast_nonneg _
    have hl1 : (i : Int) < (M.bs.length : Int) := by omega
    rw [h] at HMAY
    clear h h0 h1 hx ha hw
    go_enter Try.func51, Try.ntmps51
    go_wp2_with fail
    go_at_call 63
    refine HMAY.out.mono ?_
    rintro e w1 ⟨rfl, rfl⟩
    go_wp2_with fail
    go_at_call 64
    refine (note_any HM.out HB.out.1 who 3 (i : Int) true).mono ?_
    rintro e w2 ⟨rfl, τ', hM', hS'⟩
    have HS' := Lib.hid hS'
    obtain ⟨V, hV⟩ := hM'
    have HVV := Lib.hid hV
    obtain ⟨_, c1, _, _, _, _⟩ := five hV.st
    have hblt := (Array.getElem?_eq_some_iff.1 hV.st).1
    obtain ⟨g, cap, s, hv, _, hglt, hτg, d0, df, _⟩ := box_at hV (show (M.note ⟨who, 3, (i : Int), true⟩).bs[i]? = some l0 from HX.out)
    have HVB := Lib.hid hv
    have HTG := Lib.hid hτg
    have hgb : g ≠ b := fun h => by rw [h, hV.tb] at hτg; cases hτg
    rw [hv] at c1
    have c1' : w2.cell? ⟨b, 1, none⟩ = some (.slice (some ⟨g, 0, none⟩) M.bs.length cap) := c1
    have HV : Hid (Batch.Sl w2 (.slice vo l.length vc) l) := Lib.hid (sl_step HSL.out HV0.out hS')
    clear hV hv hS' c1 hτg
    go_upto_region 2 with fail
    refine wp_region_held_drew (S := (fun w' => w'.cell? ⟨b, 1, none⟩ = some (.slice (some ⟨g, 0, none⟩) M.bs.length cap))) (by kernel_rfl) ?_ (fun hHeld => ?_)
    · ((try dsimp only); exact c1')
    refine wpAnyH_take (i := 0) (v := ?_) rfl (by kernel_rfl) (by kernel_rfl) (by kernel_rfl) (fun _ _ _ h => h) (Or.inl ⟨by rfl, ?_⟩) (by assumption) ?_
    rotate_left 1
    · (intro w hSw; (try dsimp only at hSw); first | (go_simp; done) | (go_simp; with_reducible rfl))
    try simp only [Act.put, List.setIfInBounds_toArray, List.set_cons_zero, List.set_cons_succ, List.getElem_toArray, List.getElem_cons_zero]
    refine wpAnyH_take (i := 1) (v := ?_) rfl (by kernel_rfl) (by kernel_rfl) (by kernel_rfl) (fun _ _ _ h => h) (Or.inl ⟨by rfl, ?_⟩) (by assumption) ?_
    rotate_left 1
    · (intro w hSw; (try dsimp only at hSw); first | (go_simp; done) | (go_simp; with_reducible rfl))
    try simp only [Act.put, List.setIfInBounds_toArray, List.set_cons_zero, List.set_cons_succ, List.getElem_toArray, List.getElem_cons_zero, List.getElem_cons_succ]
    refine wpAnyH_take (i := 2) (v := ?_) rfl (by kernel_rfl) (by kernel_rfl) (by kernel_rfl) (fun _ _ _ h => h) (Or.inl ⟨by rfl, ?_⟩) (by assumption) ?_
    rotate_left 1
    · (intro w hSw; (try dsimp only at hSw); first | (go_simp; done) | (go_simp; with_reducible rfl))
    try simp only [Act.put, List.setIfInBounds_toArray, List.set_cons_zero, List.set_cons_succ, List.getElem_toArray, List.getElem_cons_zero, List.getElem_cons_succ]
    refine wpAnyH_take (i := 3) (v := ?_) rfl (by kernel_rfl) (by kernel_rfl) (by kernel_rfl) (fun _ _ _ h => h) (Or.inl ⟨by rfl, ?_⟩) (by assumption) ?_
    rotate_left 1
    · (intro w hSw; (try dsimp only at hSw); first | (go_simp; done) | (go_simp; with_reducible rfl))
    try simp only [Act.put, List.setIfInBounds_toArray, List.set_cons_zero, List.set_cons_succ, List.getElem_toArray, List.getElem_cons_zero, List.getElem_cons_succ]
    refine wpAnyH_take (i := 4) (v := ?_) rfl (by kernel_rfl) (by kernel_rfl) (by kernel_rfl) (fun _ _ _ h => h) (Or.inl ⟨by rfl, ?_⟩) (by assumption) ?_
    rotate_left 1
    · (intro w hSw; (try dsimp only at hSw); first | (go_simp; done) | (go_simp; with_reducible rfl))
    try simp only [Act.put, List.setIfInBounds_toArray, List.set_cons_zero, List.set_cons_succ, List.getElem_toArray, List.getElem_cons_zero, List.getElem_cons_succ]
    refine wpAnyH_take (i := 5) (v := ?_) rfl (by kernel_rfl) (by kernel_rfl) (by kernel_rfl) (fun _ _ _ h => h) (Or.inl ⟨by rfl, ?_⟩) (by assumption) ?_
    rotate_left 1
    · (intro w hSw; (try dsimp only at hSw); first | (go_simp; done) | (go_simp; with_reducible rfl))
    try simp only [Act.put, List.setIfInBounds_toArray, List.set_cons_zero, List.set_cons_succ, List.getElem_toArray, List.getElem_cons_zero, List.getElem_cons_succ]
    refine wpAnyH_ready (rs := [6]) (by kernel_rfl) (by simp) ?_
    refine AllReadyH.cons rfl (fun K hK => ?_) AllReadyH.nil
    go_simp
    go_at_call 38
    refine (Batch.cloneB_any (HV.out.below (Below.refl _ _).drew) (by have := HL.out; omega)).mono ?_
    rintro e w3 ⟨v', rfl, ho, hb⟩
    obtain ⟨ao', n', cap', rfl⟩ : ∃ ao n c, v' = .slice ao n c := bown_form ho
    have HO := Lib.hid ho
    have hb' : Below w2.heap.size w2 w3 := (Below.refl _ _).drew.trans hb
    have HB3 := Lib.hid hb'
    have hs1 : w3.cell? ⟨b, 1, none⟩ = some (.slice (some ⟨g, 0, none⟩) M.bs.length cap) := (hb'.cell (p := ⟨b, 1, none⟩) hblt).trans c1'
    have hs2 : w3.cell? ⟨g, i, none⟩ = some s.val := (hb'.cell (p := ⟨g, i, none⟩) hglt).trans d0
    have hs3 : w3.frozen? ⟨g, i, none⟩ = false := (hb'.frozen (p := ⟨g, i, none⟩) hglt).trans (df i)
    clear ho hb hb'
    try go_wp2_with fail
    refine hK.out _ _ ?_ (fun hHeld => ?_)
    · ((try dsimp only); exact hs1)
    clear hK K
    try simp only [Act.put, List.setIfInBounds_toArray, List.set_cons_zero, List.set_cons_succ, List.getElem_toArray, List.getElem_cons_zero, List.getElem_cons_succ]
    refine wpAnyH_take (i := 7) (v := ?_) rfl (by kernel_rfl) (by kernel_rfl) (by kernel_rfl) (fun _ _ _ h => h) (Or.inl ⟨by rfl, ?_⟩) (by assumption) ?_
    rotate_left 1
    · (intro w hSw; (try dsimp only at hSw); first | (go_simp; done) | (go_simp; with_reducible rfl))
    try simp only [Act.put, List.setIfInBounds_toArray, List.set_cons_zero, List.set_cons_succ, List.getElem_toArray, List.getElem_cons_zero, List.getElem_cons_succ]
    refine wpAnyH_ready (rs := [8]) (by kernel_rfl) (by simp) ?_
    refine AllReadyH.cons rfl (fun K hK => ?_) AllReadyH.nil
    go_simp
    skip
    try go_wp2_with fail
    refine hK.out _ _ ?_ (fun hHeld => ?_)
    · ((try dsimp only); (rw [World.cell?_setCell_far _ _ _ _ hgb]; exact hs1))
    clear hK K
    try simp only [Act.put, List.setIfInBounds_toArray, List.set_cons_zero, List.set_cons_succ, List.getElem_toArray, List.getElem_cons_zero, List.getElem_cons_succ]
    refine wpAnyH_done (by kernel_rfl) ?_ _
    go_wp2_with fail
    go_end0
    exact ⟨rfl, by
      rw [HS.out]
      obtain ⟨τ'', h1, h2⟩ := set_step HVV.out HB3.out rfl HO.out HX.out HVB.out HTG.out
      exact ⟨τ'', h1, HS'.out.trans h2⟩⟩
  · have HS : Hid (setS M who a l = M) := Lib.hid (if_neg h)
    rw [show mayB M who 3 a = false by simpa using h] at HMAY
    clear h
    go_enter Try.func51, Try.ntmps51
    go_wp2_with fail
    go_at_call 63
    refine HMAY.out.mono ?_
    rintro e w1 ⟨rfl, rfl⟩
    go_wp2_with fail
    go_end0
    exact ⟨rfl, by rw [HS.out]; exact ⟨τ, HM.out, Step.refl _ _⟩⟩
end Go.Proofs.Ytmggnalobfihnaa.Mm
namespace Go.Proofs.Ytmggnalobfihnaa.Mm
open Rw
set_option linter.unusedVariables false

structure Good (A B C k : Nat) (M : St) : Prop where
  a : M.ws.length = A
  b : M.bs.length = B
  c : M.ls.length = C
  l : M.lg.length ≤ k
  n : M.nb ≤ k
  bx : ∀ l ∈ M.bs, l.length ≤ 20000 ∧ ∀ x ∈ l, x.Wf
  la : ∀ L ∈ M.ls, L.sl.length ≤ k ∧ (∀ x ∈ L.sl, I64 x) ∧ I64 L.wh
  ev : ∀ e ∈ M.lg, evK.wf e
variable {A B C k : Nat} {M : St}
theorem Good.bnd (h : Good A B C k M) (ha : A ≤ 65536) (hb : B ≤ 65536) (hc : C ≤ 65536) (hk : k ≤ 1000000) : Bnd3 M := by
  have h1 := h.a; have h2 := h.b; have h3 := h.c; have h4 := h.l; have h5 := h.n
  exact ⟨⟨⟨by omega, by omega, by omega, by omega, by omega⟩, h.bx⟩, fun L hL => by obtain ⟨q1, q2, q3⟩ := h.la L hL; exact ⟨by omega, q2, q3⟩⟩
theorem good_init (a b c : Nat) : Good a b c 0 (initS a b c) :=
  ⟨by simp [initS], by simp [initS], by simp [initS], by simp [initS], by simp [initS], fun l hl => by
    obtain rfl := (List.mem_replicate.1 (show l ∈ List.replicate b [] from hl)).2
    exact ⟨by simp, by simp⟩, fun L hL => by
    obtain rfl := (List.mem_replicate.1 (show L ∈ List.replicate c ⟨false, 0, []⟩ from hL)).2
    exact ⟨by simp, by simp, by decide, by decide⟩, by simp [initS]⟩
theorem Good.more (h : Good A B C k M) {k' : Nat} (hk : k ≤ k') : Good A B C k' M :=
  ⟨h.a, h.b, h.c, Nat.le_trans h.l hk, Nat.le_trans h.n hk, h.bx, fun L hL => by obtain ⟨q1, q2, q3⟩ := h.la L hL; exact ⟨Nat.le_trans q1 hk, q2, q3⟩, h.ev⟩
theorem Good.note (h : Good A B C k M) {e : Ev} (he : evK.wf e) : Good A B C (k + 1) (M.note e) :=
  ⟨h.a, h.b, h.c, by show (M.lg ++ [e]).length ≤ _; have := h.l; simp; omega, Nat.le_trans h.n (Nat.le_succ k), h.bx, fun L hL => by obtain ⟨q1, q2, q3⟩ := h.la L hL; exact ⟨by omega, q2, q3⟩, fun x hx => by
    rcases List.mem_append.1 (show x ∈ M.lg ++ [e] from hx) with hx | hx
    · exact h.ev x hx
    · obtain rfl := List.mem_singleton.1 hx; exact he⟩
theorem Good.latch (h : Good A B C k M) {i : Nat} {L : La} (hL : L.sl.length ≤ k ∧ (∀ x ∈ L.sl, I64 x) ∧ I64 L.wh) : Good A B C k { M with ls := M.ls.set i L } :=
  ⟨h.a, h.b, by show (M.ls.set i L).length = C; rw [List.length_set]; exact h.c, h.l, h.n, h.bx, fun L' hL' => by
    rcases List.mem_or_eq_of_mem_set (show L' ∈ M.ls.set i L from hL') with h1 | rfl
    · exact h.la L' h1
    · exact hL, h.ev⟩
theorem Good.latA (h : Good A B C k M) (a : Int) : (latA M a).sl.length ≤ k ∧ (∀ x ∈ (latA M a).sl, I64 x) ∧ I64 (latA M a).wh := by
  unfold Mm.latA
  rw [List.getD_eq_getElem?_getD]
  cases hx : M.ls[a.toNat]? with
  | none => exact ⟨by simp, by simp, by decide, by decide⟩
  | some L => exact h.la L (List.mem_of_getElem? hx)
theorem wf_ev {who k a : Int} {ok : Bool} (hw : I64 who) (hk : 0 ≤ k ∧ k ≤ 7) (ha : I64 a) : evK.wf ⟨who, k, a, ok⟩ := ⟨hw, show I64 k from ⟨by omega, by omega⟩, ha⟩
theorem Good.look (h : Good A B C k M) {who q a : Int} (hw : I64 who) (hq : 0 ≤ q ∧ q ≤ 7) (ha : I64 a) : Good A B C (k + 1) (lookS M who q a) := by
  unfold lookS
  split
  · exact h.note (wf_ev hw hq ha)
  · exact h.more (Nat.le_succ k)
theorem Good.store (h : Good A B C k M) {who a v : Int} (hw : I64 who) (ha : I64 a) : Good A B C (k + 1) (storeS M who a v) := by
  unfold storeS
  split
  · have := h.note (e := ⟨who, 1, a, true⟩) (wf_ev hw (by decide) ha)
    exact ⟨by show (M.ws.set _ v).length = A; rw [List.length_set]; exact h.a, this.b, this.c, this.l, this.n, this.bx, this.la, this.ev⟩
  · exact h.more (Nat.le_succ k)
theorem Good.set (h : Good A B C k M) {who a : Int} {l : List Batch.Ch} (hw : I64 who) (ha : I64 a) (hl : l.length ≤ 20000 ∧ ∀ x ∈ l, x.Wf) : Good A B C (k + 1) (setS M who a l) := by
  unfold setS
  split
  · have := h.note (e := ⟨who, 3, a, true⟩) (wf_ev hw (by decide) ha)
    exact ⟨this.a, by show (M.bs.set _ l).length = B; rw [List.length_set]; exact h.b, this.c, this.l, this.n, fun l' hl' => by
      rcases List.mem_or_eq_of_mem_set (show l' ∈ M.bs.set _ l from hl') with h1 | rfl
      · exact h.bx l' h1
      · exact hl, this.la, this.ev⟩
  · exact h.more (Nat.le_succ k)
theorem Good.take (h : Good A B C k M) {who a : Int} (hw : I64 who) (ha : I64 a) : Good A B C (k + 1) (takeS M who a) := by
  unfold takeS
  obtain ⟨q1, q2, q3⟩ := h.latA a
  split
  · split
    · exact h.note (wf_ev hw (by decide) ha)
    · exact (h.note (wf_ev hw (by decide) ha)).latch ⟨by show (Mm.latA M a).sl.length ≤ k + 1; omega, q2, hw⟩
  · exact h.more (Nat.le_succ k)
theorem Good.rel (h : Good A B C k M) {who q a : Int} (hw : I64 who) (hq : 0 ≤ q ∧ q ≤ 7) (ha : I64 a) : Good A B C (k + 1) (relS M who q a) := by
  unfold relS
  obtain ⟨q1, q2, q3⟩ := h.latA a
  split
  · split
    · exact (h.note (wf_ev hw hq ha)).latch ⟨by show (Mm.latA M a).sl.length ≤ k + 1; omega, q2, q3⟩
    · exact h.note (wf_ev hw hq ha)
  · exact h.more (Nat.le_succ k)
theorem Good.sleep (h : Good A B C k M) {who a : Int} (hw : I64 who) (ha : I64 a) : Good A B C (k + 1) (sleepS M who a) := by
  unfold sleepS
  obtain ⟨q1, q2, q3⟩ := h.latA a
  split
  · have h1 := (h.note (e := ⟨who, 6, a, true⟩) (wf_ev hw (by decide) ha)).latch (i := a.toNat) (L := ⟨false, (Mm.latA M a).wh, (Mm.latA M a).sl ++ [who]⟩) ⟨by simp; omega, fun x hx => by
      rcases List.mem_append.1 hx with hx | hx
      · exact q2 x hx
      · obtain rfl := List.mem_singleton.1 hx; exact hw, q3⟩
    exact ⟨h1.a, h1.b, h1.c, h1.l, Nat.succ_le_succ h.n, h1.bx, h1.la, h1.ev⟩
  · exact h.rel hw (by decide) ha
theorem Good.wake (h : Good A B C k M) {who a : Int} (hw : I64 who) (ha : I64 a) : Good A B C (k + 1) (wakeS M who a) := by
  unfold wakeS
  obtain ⟨q1, q2, q3⟩ := h.latA a
  split
  · have h1 := (h.note (e := ⟨who, 7, a, true⟩) (wf_ev hw (by decide) ha)).latch (i := a.toNat) (L := ⟨(Mm.latA M a).tk, (Mm.latA M a).wh, []⟩) ⟨by simp, by simp, q3⟩
    exact ⟨h1.a, h1.b, h1.c, h1.l, h1.n, h1.bx, h1.la, h1.ev⟩
  · split
    · exact h.note (wf_ev hw (by decide) ha)
    · exact h.more (Nat.le_succ k)
end Go.Proofs.Ytmggnalobfihnaa.Mm
