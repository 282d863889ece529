/-
  PACKAGE mem: note: an access is told.
-/
import Derived.Test.YtkeldggdllaheaaMemMap
namespace Go.Proofs.Ytkeldggdllaheaa.Mm
open Go.RowKit Rw Pk Go.Maps
set_option linter.unusedVariables false

def St.note (M : St) (e : Ev) : St := { M with lg := M.lg ++ [e] }
theorem infoEv : (Try.prog.info? 107).map (fun i => (i.zero, i.size, i.bytes)) = some (some (.agg #[.int .i64 0, .int .i64 0, .int .i64 0, .bool false]), 4, 32) := by kernel_rfl
theorem own_any {α : Type} {S : Kd α} {w : World} {T : TypeId} {v : Value} {n : Nat} {xs : List Value} {l : List α} (h : w.ownsRow 0 T S.k v n xs) (hn : n = l.length) (hx : xs = S.flat l) : Own S w 0 T v l := by subst hn hx; exact h
theorem note_step {τ : Nat → Nat} {w w1 : World} {b : Nat} {M : St} {V : Vs} (hV : MemIs τ w b M V) (o : Obj) (e : Ev) {v' : Value} (hown : Own evK w1 0 107 v' (M.lg ++ [e]))
    (hg : (w.alloc o).grownBy w1 V.vg.ownBlock) (hblk : v'.ownBlock = V.vg.ownBlock ∨ v'.ownBlock = some (w.heap.size + 1)) :
    ∃ τ', MemAt τ' (w1.setCell ⟨b, 4, none⟩ v') b (M.note e) ∧ Step τ τ' w (w1.setCell ⟨b, 4, none⟩ v') := by
  have hb := (Array.getElem?_eq_some_iff.1 hV.st).1
  have hs0 : (w.alloc o).heap.size = w.heap.size + 1 := by simp
  have hs1 : w.heap.size + 1 ≤ w1.heap.size := by rw [← hs0]; exact hg.size
  have hold : ∀ i, i < w.heap.size → some i ≠ V.vg.ownBlock → w1.heap[i]? = w.heap[i]? := fun i hi hne => (hg.block i (by omega) hne).trans (heap_alloc_old w o hi)
  have hnb : some b ≠ V.vg.ownBlock := fun h => by have := hV.lg.2 b h.symm; rw [hV.tb] at this; cases this
  have hset : ∀ i, i ≠ b → (w1.setCell ⟨b, 4, none⟩ v').heap[i]? = w1.heap[i]? := fun i hi => Below.heap_setCell _ _ _ _ hi
  have hsz2 : (w1.setCell ⟨b, 4, none⟩ v').heap.size = w1.heap.size := by simp [World.setCell]
  obtain ⟨τ', hτ⟩ : ∃ τ' : Nat → Nat, τ' = fun i => if i < w.heap.size then τ i else if v'.ownBlock = some i then 6 else 0 := ⟨_, rfl⟩
  have hlt : ∀ i, i < w.heap.size → τ' i = τ i := fun i hi => by rw [hτ]; exact if_pos hi
  have hk : Keep τ (fun t => t = 1 ∨ t = 6) w (w1.setCell ⟨b, 4, none⟩ v') := ⟨by omega, fun i hi h0 hq => (hset i (fun h => hq (by rw [h, hV.tb]; exact .inl rfl))).trans (hold i hi (fun h => hq (.inr (hV.lg.2 i h.symm))))⟩
  refine ⟨τ', ⟨{ V with vg := v' }, ?_⟩, ⟨hlt, ?_, fun i hi h0 => ?_⟩⟩
  · refine ⟨?_, by rw [hlt b hb]; exact hV.tb, hV.ws.keep hk hlt (by decide) (by decide), hV.bs.keep hk hlt (by decide) (by decide), hV.ls.keep hk hlt (by decide) (by decide), ?_, by rw [hlt _ hV.mp.lt]; exact hV.tm, ⟨?_, fun g hgg => ?_⟩, hV.bl,
      fun i s l hs hl => (hV.be i s l hs hl).keep hk hlt (by decide) (by decide), hV.ll, fun i x L hx hL => ?_, fun i hi => ?_⟩
    · have h1 : w1.heap[b]? = some (.cells #[V.vw, V.vb, V.vl, .map (some V.mb), V.vg] 99 (0, 0)) := (hold b hb hnb).trans hV.st
      have h2 := heap_setCell_same w1 b 4 _ _ v' h1
      simpa using h2
    · exact hV.mp.of_block (hk.2 _ hV.mp.lt (by rw [hV.tm]; decide) (by rw [hV.tm]; decide))
    · exact own_of_block hown fun g hgg => hset g fun h => by
        subst h
        rcases hblk with h | h
        · exact hnb (by rw [← h]; exact hgg.symm)
        · rw [h] at hgg
          have := Option.some.inj hgg
          omega
    · by_cases hgl : g < w.heap.size
      · rw [hlt g hgl]
        rcases hblk with h | h
        · exact hV.lg.2 g (by rw [← h]; exact hgg)
        · rw [h] at hgg
          have := Option.some.inj hgg
          omega
      · rw [hτ]
        simp only
        rw [if_neg hgl, if_pos hgg]
    · obtain ⟨h1, h2, h3⟩ := hV.le i x L hx hL
      exact ⟨h1, h2, h3.keep hk hlt (by omega) (by omega)⟩
    · rw [hsz2]
      by_cases hil : i < w.heap.size
      · omega
      · rw [hτ] at hi
        simp only [if_neg hil] at hi
        by_cases hv : v'.ownBlock = some i
        · exact own_block_lt hown hv
        · rw [if_neg hv] at hi; exact absurd rfl hi
  · exact (((Below.refl 0 w).alloc (Nat.zero_le _) o).grown hg (Nat.zero_le _) (fun _ _ => Nat.zero_le _)).setCell (Nat.zero_le _) _
  · exact (hset i (fun h => by rw [h, hV.tb] at h0; cases h0)).trans (hold i hi (fun h => by rw [hV.lg.2 i h.symm] at h0; cases h0))

set_option maxRecDepth 1000000 in
set_option maxHeartbeats 8000000 in
theorem note_any {w : World} {τ : Nat → Nat} {b : Nat} {M : St} (hM : MemAt τ w b M) (hB : Bnd M) (who kind at' : Int) (ok : Bool) :
    Calls Try.prog 49 #[.pointer (some ⟨b, 0, none⟩), .int .i64 who, .int .i64 kind, .int .i64 at', .bool ok] w
      fun e w' => e = .returned (.tuple #[]) ∧ ∃ τ', MemAt τ' w' b (M.note ⟨who, kind, at', ok⟩) ∧ Step τ τ' w w' := by
  obtain ⟨i0, hi, hz0, hz1, hz2⟩ := info_partsP infoEv
  obtain ⟨V, hV⟩ := hM
  obtain ⟨_, _, _, _, c4, cf⟩ := five hV.st
  have hlg := hB.2.2.2.1
  have hb := (Array.getElem?_eq_some_iff.1 hV.st).1
  have hown : w.ownsRow 0 107 4 V.vg M.lg.length (evK.flat M.lg) := hV.lg.1
  have HV := Lib.hid hV
  have hnb : some b ≠ V.vg.ownBlock := fun h => by have := hV.lg.2 b h.symm; rw [hV.tb] at this; cases this
  clear hV cf
  go_enter Try.func49, Try.ntmps49
  go_wp2_with (at_builtin; refine Batch.wpList_append_any _ rfl _ _ 61 61 rfl 0 107 107 i0 (.agg #[.int .i64 0, .int .i64 0, .int .i64 0, .bool false]) 4 32 Try.underlying61 Try.underlying61 hi hz0 hz1 hz2 rfl (by decide) V.vg M.lg.length (evK.flat M.lg) rfl (hown.alloc _) (some ⟨w.heap.size, 0, none⟩) 1 1 [.int .i64 who, .int .i64 kind, .int .i64 at', .bool ok] rfl rfl ?c1 ?c2 ?c3 ?c4 ?c5 ?_)
  case c1 => exact .inr ⟨_, rfl, World.news_of_block (cs := #[.int .i64 who, .int .i64 kind, .int .i64 at', .bool ok]) (heap_alloc_new w _)⟩
  case c2 => intro u hu; simp at hu; rcases hu with rfl | rfl | rfl | rfl <;> rfl
  case c3 => unfold maxLen; omega
  case c4 => omega
  case c5 => exact Nat.zero_le _
  intro v' w1 hown1 hgrow hblk
  have hown2 : Own evK w1 0 107 v' (M.lg ++ [⟨who, kind, at', ok⟩]) := own_any hown1 (by simp) (by rw [flat_snoc]; rfl)
  obtain ⟨ao', n', cap', rfl⟩ : ∃ ao n c, v' = .slice ao n c := by obtain ⟨ao, c, h⟩ := hown2.form2; exact ⟨ao, _, c, h⟩
  have hst1 := (hgrow.block b (by simp; omega) hnb).trans ((heap_alloc_old w _ hb).trans HV.out.st)
  obtain ⟨_, _, _, _, d4, df⟩ := five hst1
  have df4 := df 4
  obtain ⟨τ', hM', hS'⟩ := note_step HV.out _ ⟨who, kind, at', ok⟩ hown2 hgrow hblk
  have HM := Lib.hid hM'
  have HS := Lib.hid hS'
  clear hown hown1 hown2 hgrow hblk hst1 df hM' hS' hnb c4
  go_wp2_with fail
  go_end0
  exact ⟨rfl, τ', HM.out, HS.out⟩
end Go.Proofs.Ytkeldggdllaheaa.Mm
