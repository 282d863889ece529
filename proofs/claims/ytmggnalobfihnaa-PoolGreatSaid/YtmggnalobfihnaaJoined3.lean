/-
  PACKAGE mem: note: an access is told.
  PACKAGE mem: one of a Mem's rows is changed in place.
-/
import Derived.Test.YtmggnalobfihnaaMemMap
namespace Go.Proofs.Ytmggnalobfihnaa.Mm
open Go.RowKit Rw Pk Go.Maps
set_option linter.unusedVariables false

def St.note (M : St) (e : Ev) : St := { M with lg := M.lg ++ [e] }
theorem infoEv : (Try.prog.info? 98).map (fun i => (i.zero, i.size, i.bytes)) = some (some (.agg #[.int .i64 0, .int .i64 0, .int .i64 0, .bool false]), 4, 32) := by kernel_rfl
theorem own_any {α : Type} {S : Kd α} {w : World} {T : TypeId} {v : Value} {n : Nat} {xs : List Value} {l : List α} (h : w.ownsRow 0 T S.k v n xs) (hn : n = l.length) (hx : xs = S.flat l) : Own S w 0 T v l := by subst hn hx; exact h
theorem note_step {τ : Nat → Nat} {w w1 : World} {b : Nat} {M : St} {V : Vs} (hV : MemIs τ w b M V) (o : Obj) (e : Ev) {v' : Value} (hown : Own evK w1 0 98 v' (M.lg ++ [e]))
    (hg : (w.alloc o).grownBy w1 V.vg.ownBlock) (hblk : v'.ownBlock = V.vg.ownBlock ∨ v'.ownBlock = some (w.heap.size + 1)) :
    ∃ τ', MemAt τ' (w1.setCell ⟨b, 4, none⟩ v') b (M.note e) ∧ Step τ τ' w (w1.setCell ⟨b, 4, none⟩ v') := by
  have hb := (Array.getElem?_eq_some_iff.1 hV.st).1
  have hs0 : (w.alloc o).heap.size = w.heap.size + 1 := by simp
  have hs1 : w.heap.size + 1 ≤ w1.heap.size := by rw [← hs0]; exact hg.size
  have hold : ∀ i, i < w.heap.size → some i ≠ V.vg.ownBlock → w1.heap[i]? = w.heap[i]? := fun i hi hne => (hg.block i (by omega) hne).trans (heap_alloc_old w o hi)
  have hnb : some b ≠ V.vg.ownBlock := fun h => by have := hV.lg.2 b h.symm; rw [hV.tb] at this; cases this
  have hset : ∀ i, i ≠ b → (w1.setCell ⟨b, 4, none⟩ v').heap[i]? = w1.heap[i]? := fun i hi => Below.heap_setCell _ _ _ _ hi
  have hsz2 : (w1.setCell ⟨b, 4, none⟩ v').heap.size = w1.heap.size := by simp [World.setCell]
  obtain ⟨τ', hτ⟩ : ∃ τ' : Nat → Nat, τ' = fun i => if i < w.heap.size then τ i else if v'.ownBlock = some i then 6 else 0 := ⟨_, rfl⟩
  have hlt : ∀ i, i < w.heap.size → τ' i = τ i := fun i hi => by rw [hτ]; exact if_pos hi
  have hk : Keep τ (fun t => t = 1 ∨ t = 6) w (w1.setCell ⟨b, 4, none⟩ v') := ⟨by omega, fun i hi h0 hq => (hset i (fun h => hq (by rw [h, hV.tb]; exact .inl rfl))).trans (hold i hi (fun h => hq (.inr (hV.lg.2 i h.symm))))⟩
  refine ⟨τ', ⟨{ V with vg := v' }, ?_⟩, ⟨hlt, ?_, fun i hi h0 => ?_⟩⟩
  · refine ⟨?_, by rw [hlt b hb]; exact hV.tb, hV.ws.keep hk hlt (by decide) (by decide), hV.bs.keep hk hlt (by decide) (by decide), hV.ls.keep hk hlt (by decide) (by decide), ?_, by rw [hlt _ hV.mp.lt]; exact hV.tm, ⟨?_, fun g hgg => ?_⟩, hV.bl,
      fun i s l hs hl => (hV.be i s l hs hl).keep hk hlt (by decide) (by decide), hV.ll, fun i x L hx hL => ?_, fun i hi => ?_⟩
    · have h1 : w1.heap[b]? = some (.cells #[V.vw, V.vb, V.vl, .map (some V.mb), V.vg] 87 (0, 0)) := (hold b hb hnb).trans hV.st
      have h2 := heap_setCell_same w1 b 4 _ _ v' h1
      simpa using h2
    · exact hV.mp.of_block (hk.2 _ hV.mp.lt (by rw [hV.tm]; decide) (by rw [hV.tm]; decide))
    · exact own_of_block hown fun g hgg => hset g fun h => by
        subst h
        rcases hblk with h | h
        · exact hnb (by rw [← h]; exact hgg.symm)
        · rw [h] at hgg
          have := Option.some.inj hgg
          omega
    · by_cases hgl : g < w.heap.size
      · rw [hlt g hgl]
        rcases hblk with h | h
        · exact hV.lg.2 g (by rw [← h]; exact hgg)
        · rw [h] at hgg
          have := Option.some.inj hgg
          omega
      · rw [hτ]
        simp only
        rw [if_neg hgl, if_pos hgg]
    · obtain ⟨h1, h2, h3⟩ := hV.le i x L hx hL
      exact ⟨h1, h2, h3.keep hk hlt (by omega) (by omega)⟩
    · rw [hsz2]
      by_cases hil : i < w.heap.size
      · omega
      · rw [hτ] at hi
        simp only [if_neg hil] at hi
        by_cases hv : v'.ownBlock = some i
        · exact own_block_lt hown hv
        · rw [if_neg hv] at hi; exact absurd rfl hi
  · exact (((Below.refl 0 w).alloc (Nat.zero_le _) o).grown hg (Nat.zero_le _) (fun _ _ => Nat.zero_le _)).setCell (Nat.zero_le _) _
  · exact (hset i (fun h => by rw [h, hV.tb] at h0; cases h0)).trans (hold i hi (fun h => by rw [hV.lg.2 i h.symm] at h0; cases h0))

set_option maxRecDepth 1000000 in
set_option maxHeartbeats 8000000 in
theorem note_any {w : World} {τ : Nat → Nat} {b : Nat} {M : St} (hM : MemAt τ w b M) (hB : Bnd M) (who kind at' : Int) (ok : Bool) :
    Calls Try.prog 64 #[.pointer (some ⟨b, 0, none⟩), .int .i64 who, .int .i64 kind, .int .i64 at', .bool ok] w
      fun e w' => e = .returned (.tuple #[]) ∧ ∃ τ', MemAt τ' w' b (M.note ⟨who, kind, at', ok⟩) ∧ Step τ τ' w w' := by
  obtain ⟨i0, hi, hz0, hz1, hz2⟩ := info_partsP infoEv
  obtain ⟨V, hV⟩ := hM
  obtain ⟨_, _, _, _, c4, cf⟩ := five hV.st
  have hlg := hB.2.2.2.1
  have hb := (Array.getElem?_eq_some_iff.1 hV.st).1
  have hown : w.ownsRow 0 98 4 V.vg M.lg.length (evK.flat M.lg) := hV.lg.1
  have HV := Lib.hid hV
  have hnb : some b ≠ V.vg.ownBlock := fun h => by have := hV.lg.2 b h.symm; rw [hV.tb] at this; cases this
  clear hV cf
  go_enter Try.func64, Try.ntmps64
  go_wp2_with (at_builtin; refine Batch.wpList_append_any _ rfl _ _ 54 54 rfl 0 98 98 i0 (.agg #[.int .i64 0, .int .i64 0, .int .i64 0, .bool false]) 4 32 Try.underlying54 Try.underlying54 hi hz0 hz1 hz2 rfl (by decide) V.vg M.lg.length (evK.flat M.lg) rfl (hown.alloc _) (some ⟨w.heap.size, 0, none⟩) 1 1 [.int .i64 who, .int .i64 kind, .int .i64 at', .bool ok] rfl rfl ?c1 ?c2 ?c3 ?c4 ?c5 ?_)
  case c1 => exact .inr ⟨_, rfl, World.news_of_block (cs := #[.int .i64 who, .int .i64 kind, .int .i64 at', .bool ok]) (heap_alloc_new w _)⟩
  case c2 => intro u hu; simp at hu; rcases hu with rfl | rfl | rfl | rfl <;> rfl
  case c3 => unfold maxLen; omega
  case c4 => omega
  case c5 => exact Nat.zero_le _
  intro v' w1 hown1 hgrow hblk
  have hown2 : Own evK w1 0 98 v' (M.lg ++ [⟨who, kind, at', ok⟩]) := own_any hown1 (by simp) (by rw [flat_snoc]; rfl)
  obtain ⟨ao', n', cap', rfl⟩ : ∃ ao n c, v' = .slice ao n c := by obtain ⟨ao, c, h⟩ := hown2.form2; exact ⟨ao, _, c, h⟩
  have hst1 := (hgrow.block b (by simp; omega) hnb).trans ((heap_alloc_old w _ hb).trans HV.out.st)
  obtain ⟨_, _, _, _, d4, df⟩ := five hst1
  have df4 := df 4
  obtain ⟨τ', hM', hS'⟩ := note_step HV.out _ ⟨who, kind, at', ok⟩ hown2 hgrow hblk
  have HM := Lib.hid hM'
  have HS := Lib.hid hS'
  clear hown hown1 hown2 hgrow hblk hst1 df hM' hS' hnb c4
  go_wp2_with fail
  go_end0
  exact ⟨rfl, τ', HM.out, HS.out⟩
end Go.Proofs.Ytmggnalobfihnaa.Mm
namespace Go.Proofs.Ytmggnalobfihnaa.Mm
open Go.RowKit Rw Pk Go.Maps
set_option linter.unusedVariables false

theorem size_setCell (w : World) (a : Addr) (u : Value) : (w.setCell a u).heap.size = w.heap.size := by simp [World.setCell]
theorem keep_set {τ : Nat → Nat} {w : World} {g t : Nat} (hg : τ g = t) (o : Nat) (u : Value) : Keep τ (fun q => q = t) w (w.setCell ⟨g, o, none⟩ u) :=
  ⟨by rw [size_setCell]; exact Nat.le_refl _, fun i _ _ hq => Below.heap_setCell _ _ _ _ (fun h => hq (by rw [← hg]; exact congrArg τ h))⟩
theorem step_set {τ : Nat → Nat} {w : World} {g : Nat} (hg : τ g ≠ 0) (o : Nat) (u : Value) : Step τ τ w (w.setCell ⟨g, o, none⟩ u) :=
  ⟨fun _ _ => rfl, (Below.refl 0 w).setCell (Nat.zero_le _) _, fun i _ h0 => Below.heap_setCell _ _ _ _ (fun h => hg (by rw [← h0]; exact (congrArg τ h).symm))⟩
theorem ext_refl (n : Nat) (τ : Nat → Nat) : Ext n τ τ := fun _ _ => rfl
/-- The words. -/
theorem MemIs.words {τ : Nat → Nat} {w w' : World} {b : Nat} {M : St} {V : Vs} (h : MemIs τ w b M V) {ws : List Int} (hk : Keep τ (fun q => q = 2) w w') (hr : Row u64K w' τ 2 24 V.vw ws) : MemIs τ w' b { M with ws := ws } V := by
  have hb := (Array.getElem?_eq_some_iff.1 h.st).1
  have he := ext_refl w.heap.size τ
  refine ⟨(hk.2 b hb (by rw [h.tb]; decide) (by rw [h.tb]; decide)).trans h.st, h.tb, hr, h.bs.keep hk he (by decide) (by decide), h.ls.keep hk he (by decide) (by decide), h.mp.of_block (hk.2 _ h.mp.lt (by rw [h.tm]; decide) (by rw [h.tm]; decide)), h.tm, h.lg.keep hk he (by decide) (by decide), h.bl,
    fun i s l hs hl => (h.be i s l hs hl).keep hk he (by decide) (by decide), h.ll, fun i x L hx hL => ?_, fun i hi => Nat.lt_of_lt_of_le (h.tz i hi) hk.1⟩
  obtain ⟨h1, h2, h3⟩ := h.le i x L hx hL
  exact ⟨h1, h2, h3.keep hk he (by omega) (by omega)⟩
/-- A box; the new one's block is one of those of boxes. -/
theorem MemIs.box {τ τ' : Nat → Nat} {w w' : World} {b : Nat} {M : St} {V : Vs} (h : MemIs τ w b M V) {i : Nat} {s : Sv} {l : List Batch.Ch} (hi : i < M.bs.length) (hk : Keep τ (fun q => q = 3) w w') (he : Ext w.heap.size τ τ')
    (hr : Row svK w' τ' 3 50 V.vb (V.bv.set i s)) (hn : Row chK w' τ' 7 58 s.val l) (hz : ∀ i, τ' i ≠ 0 → i < w'.heap.size) : MemIs τ' w' b { M with bs := M.bs.set i l } { V with bv := V.bv.set i s } := by
  have hb := (Array.getElem?_eq_some_iff.1 h.st).1
  refine ⟨(hk.2 b hb (by rw [h.tb]; decide) (by rw [h.tb]; decide)).trans h.st, by rw [he b hb]; exact h.tb, h.ws.keep hk he (by decide) (by decide), hr, h.ls.keep hk he (by decide) (by decide), h.mp.of_block (hk.2 _ h.mp.lt (by rw [h.tm]; decide) (by rw [h.tm]; decide)), by rw [he _ h.mp.lt]; exact h.tm, h.lg.keep hk he (by decide) (by decide), by simp [h.bl],
    fun j s' l' hs hl => ?_, h.ll, fun i x L hx hL => ?_, hz⟩
  · by_cases e : i = j
    · subst e
      have hs' : some s = some s' := by rw [← hs]; exact (List.getElem?_set_self (by rw [h.bl]; exact hi)).symm
      have hl' : some l = some l' := by rw [← hl]; exact (List.getElem?_set_self hi).symm
      cases hs'
      cases hl'
      exact hn
    · have hs' : V.bv[j]? = some s' := by rw [← hs]; exact (List.getElem?_set_ne e).symm
      have hl' : M.bs[j]? = some l' := by rw [← hl]; exact (List.getElem?_set_ne e).symm
      exact (h.be j s' l' hs' hl').keep hk he (by decide) (by decide)
  · obtain ⟨h1, h2, h3⟩ := h.le i x L hx hL
    exact ⟨h1, h2, h3.keep hk he (by omega) (by omega)⟩
/-- A latch; the sleepers' list may be another one. -/
theorem MemIs.lat {τ τ' : Nat → Nat} {w w' : World} {b : Nat} {M : St} {V : Vs} (h : MemIs τ w b M V) {i : Nat} {x : Lv} {L : La} (hi : i < M.ls.length) (hk : Keep τ (fun q => q = 4 ∨ q = 8 + i) w w') (he : Ext w.heap.size τ τ')
    (hr : Row laK w' τ' 4 102 V.vl (V.lv.set i x)) (hn : x.tk = L.tk ∧ x.wh = L.wh ∧ Row intK w' τ' (8 + i) 3 x.s.val L.sl) (hz : ∀ i, τ' i ≠ 0 → i < w'.heap.size) : MemIs τ' w' b { M with ls := M.ls.set i L } { V with lv := V.lv.set i x } := by
  have hb := (Array.getElem?_eq_some_iff.1 h.st).1
  refine ⟨(hk.2 b hb (by rw [h.tb]; decide) (by rw [h.tb]; omega)).trans h.st, by rw [he b hb]; exact h.tb, h.ws.keep hk he (by decide) (by omega), h.bs.keep hk he (by decide) (by omega), hr, h.mp.of_block (hk.2 _ h.mp.lt (by rw [h.tm]; decide) (by rw [h.tm]; omega)), by rw [he _ h.mp.lt]; exact h.tm, h.lg.keep hk he (by decide) (by omega), h.bl,
    fun j s' l' hs hl => (h.be j s' l' hs hl).keep hk he (by decide) (by omega), by simp [h.ll], fun j y L' hy hL' => ?_, hz⟩
  by_cases e : i = j
  · subst e
    have hs' : some x = some y := by rw [← hy]; exact (List.getElem?_set_self (by rw [h.ll]; exact hi)).symm
    have hl' : some L = some L' := by rw [← hL']; exact (List.getElem?_set_self hi).symm
    cases hs'
    cases hl'
    exact hn
  · have hs' : V.lv[j]? = some y := by rw [← hy]; exact (List.getElem?_set_ne e).symm
    have hl' : M.ls[j]? = some L' := by rw [← hL']; exact (List.getElem?_set_ne e).symm
    obtain ⟨h1, h2, h3⟩ := h.le j y L' hs' hl'
    exact ⟨h1, h2, h3.keep hk he (by omega) (by omega)⟩
/-- Who sleeps. -/
theorem MemIs.sleep {τ : Nat → Nat} {w w' : World} {b : Nat} {M : St} {V : Vs} (h : MemIs τ w b M V) {sp : Int → Bool} {nb : Nat} (hk : Keep τ (fun q => q = 5) w w') (hm : MapAs w' V.mb nb sp) : MemIs τ w' b { M with sp := sp, nb := nb } V := by
  have hb := (Array.getElem?_eq_some_iff.1 h.st).1
  have he := ext_refl w.heap.size τ
  refine ⟨(hk.2 b hb (by rw [h.tb]; decide) (by rw [h.tb]; decide)).trans h.st, h.tb, h.ws.keep hk he (by decide) (by decide), h.bs.keep hk he (by decide) (by decide), h.ls.keep hk he (by decide) (by decide), hm, h.tm, h.lg.keep hk he (by decide) (by decide), h.bl,
    fun i s l hs hl => (h.be i s l hs hl).keep hk he (by decide) (by decide), h.ll, fun i x L hx hL => ?_, fun i hi => Nat.lt_of_lt_of_le (h.tz i hi) hk.1⟩
  obtain ⟨h1, h2, h3⟩ := h.le i x L hx hL
  exact ⟨h1, h2, h3.keep hk he (by omega) (by omega)⟩

/-! ### where things lie -/
theorem row_at {α : Type} {S : Kd α} {w : World} {τ : Nat → Nat} {t : Nat} {T : TypeId} {v : Value} {l : List α} (h : Row S w τ t T v l) {i : Nat} {x : α} (hx : l[i]? = some x) :
    ∃ g cap, v = .slice (some ⟨g, 0, none⟩) l.length cap ∧ g < w.heap.size ∧ τ g = t ∧ AtK S w g (i * S.k) x ∧ (∀ o, w.frozen? ⟨g, o, none⟩ = false) := by
  rcases h.1.form with ⟨h0, _⟩ | ⟨g, cap, hv, _, hg, _⟩
  · rw [h0] at hx; simp at hx
  have ho := h.1
  rw [hv] at ho
  exact ⟨g, cap, hv, hg, h.2 g (by rw [hv]; rfl), ho.at hx, fun o => ho.free o⟩
theorem flat_set1 {α : Type} {S : Kd α} (hk : S.k = 1) {l : List α} {i : Nat} {x y : α} (h : l[i]? = some x) {u : Value} (hu : S.cells y = [u]) : S.flat (l.set i y) = (S.flat l).set i u := by
  have hl := (List.getElem?_eq_some_iff.1 h).1
  have hfl : (S.flat l).length = l.length := by rw [flat_length, hk, Nat.mul_one]
  rw [flat_set h, hu, hk, Nat.mul_one, Nat.mul_one, List.set_eq_take_append_cons_drop, if_pos (by rw [hfl]; exact hl)]
  simp
theorem row_set1 {α : Type} {S : Kd α} (hk : S.k = 1) {w : World} {τ : Nat → Nat} {t g n cap : Nat} {T : TypeId} {l : List α} (h : Row S w τ t T (.slice (some ⟨g, 0, none⟩) n cap) l) {i : Nat} {x y : α} (hx : l[i]? = some x) {u : Value} (hu : S.cells y = [u]) :
    Row S (w.setCell ⟨g, i, none⟩ u) τ t T (.slice (some ⟨g, 0, none⟩) n cap) (l.set i y) := by
  refine ⟨?_, h.2⟩
  have hl := (List.getElem?_eq_some_iff.1 hx).1
  unfold Own
  rw [List.length_set, flat_set1 hk hx hu]
  exact row_set h.1 (by rw [hk]; omega) _
theorem mayB_yes {M : St} {who kind a : Int} (h : mayB M who kind a = true) : 0 ≤ a ∧ a < (cnt M kind : Int) ∧ 0 ≤ who ∧ M.sp who = false := by
  unfold mayB thB at h
  simp only [Bool.and_eq_true, decide_eq_true_eq, Bool.not_eq_true'] at h
  exact ⟨h.1.1, h.1.2, h.2.1, h.2.2⟩
def Bnd2 (M : St) : Prop := Bnd M ∧ ∀ l ∈ M.bs, l.length ≤ 20000 ∧ ∀ x ∈ l, x.Wf
end Go.Proofs.Ytmggnalobfihnaa.Mm
