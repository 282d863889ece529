/-
  PACKAGE mem: Sleep.
-/
import Derived.Test.YtneegocbknkhjaaMemTake
import Derived.Deep.AppendLies
import Derived.Deep.RegionHeld3
import Derived.Deep.RegionHeldLaw
namespace Go.Proofs.Ytneegocbknkhjaa.Mm
open Go.RowKit Rw Pk Go.Maps
set_option linter.unusedVariables false

theorem sleep_step {τ : Nat → Nat} {w w0 w1 : World} {b : Nat} {M : St} {V : Vs} (hV : MemIs τ w b M V) {i g n cap gg m cap' : Nat} {L : La} {s : Sv} {who : Int} (hL : M.ls[i]? = some L) (hv : V.vl = .slice (some ⟨g, 0, none⟩) n cap) (hg : τ g = 4) (hx : V.lv[i]? = some ⟨L.tk, L.wh, s⟩)
    (h0 : Below w.heap.size w w0) (hs0 : w0.heap.size = w.heap.size + 1) (hown : Own intK w1 0 3 (.slice (some ⟨gg, 0, none⟩) m cap') (L.sl ++ [who])) (hgrow : w0.grownBy w1 s.val.ownBlock) (hat : s.val.ownBlock = some gg ∨ gg = w.heap.size + 1) :
    MemP τ w b { M with ls := M.ls.set i ⟨L.tk, L.wh, L.sl ++ [who]⟩ } (w1.setCell ⟨g, i * 3 + 2, none⟩ (.slice (some ⟨gg, 0, none⟩) m cap')) := by
  have hil := (List.getElem?_eq_some_iff.1 hL).1
  have hrs := (hV.le i _ L hx hL).2.2
  have hs1 : w.heap.size + 1 ≤ w1.heap.size := by rw [← hs0]; exact hgrow.size
  have hglt : g < w.heap.size := own_block_lt hV.ls.1 (by rw [hv]; rfl)
  have hold : ∀ j, j < w.heap.size → some j ≠ s.val.ownBlock → w1.heap[j]? = w.heap[j]? := fun j hj hne => (hgrow.block j (by omega) hne).trans (h0.block j hj)
  have hgg : gg < w.heap.size → τ gg = 8 + i := fun h => by
    rcases hat with h1 | h1
    · exact hrs.2 gg h1
    · omega
  obtain ⟨τ', hτ⟩ : ∃ τ' : Nat → Nat, τ' = fun j => if j < w.heap.size then τ j else if j = gg then 8 + i else 0 := ⟨_, rfl⟩
  have hlt : ∀ j, j < w.heap.size → τ' j = τ j := fun j hj => by rw [hτ]; exact if_pos hj
  have hgne : gg ≠ g := fun h => by
    rw [h] at hgg
    have := hgg hglt
    rw [hg] at this
    omega
  have hset : ∀ j, j ≠ g → (w1.setCell ⟨g, i * 3 + 2, none⟩ (.slice (some ⟨gg, 0, none⟩) m cap')).heap[j]? = w1.heap[j]? := fun j hj => Below.heap_setCell _ _ _ _ hj
  have hk1 : Keep τ (fun q => q = 8 + i) w w1 := ⟨by omega, fun j hj _ hq => hold j hj (fun h => hq (hrs.2 j h.symm))⟩
  have hk : Keep τ (fun q => q = 4 ∨ q = 8 + i) w (w1.setCell ⟨g, i * 3 + 2, none⟩ (.slice (some ⟨gg, 0, none⟩) m cap')) := ⟨by rw [size_setCell]; omega, fun j hj h0' hq => (hset j (fun h => hq (by rw [h]; exact .inl hg))).trans (hk1.2 j hj h0' (fun h => hq (.inr h)))⟩
  have hrow := hV.ls.keep hk1 hlt (by decide) (by omega)
  rw [hv] at hrow
  have h1 := row_setc (c := 2) (u := .slice (some ⟨gg, 0, none⟩) m cap') (y := ⟨L.tk, L.wh, ⟨some ⟨gg, 0, none⟩, m, cap'⟩⟩) hrow hx (by decide) rfl
  have hn : Row intK (w1.setCell ⟨g, i * 3 + 2, none⟩ (.slice (some ⟨gg, 0, none⟩) m cap')) τ' (8 + i) 3 (Sv.val ⟨some ⟨gg, 0, none⟩, m, cap'⟩) (L.sl ++ [who]) := by
    refine ⟨own_of_block (show Own intK w1 0 3 (Sv.val ⟨some ⟨gg, 0, none⟩, m, cap'⟩) (L.sl ++ [who]) from hown) fun k hk' => hset k ?_, fun k hk' => ?_⟩
    · have : k = gg := by simpa [Value.ownBlock, Sv.val] using hk'.symm
      rw [this]; exact hgne
    · have : k = gg := by simpa [Value.ownBlock, Sv.val] using hk'.symm
      subst this
      by_cases hl : k < w.heap.size
      · rw [hlt k hl]; exact hgg hl
      · rw [hτ]; simp only [if_neg hl, if_pos]
  refine ⟨τ', ⟨_, hV.lat (x := ⟨L.tk, L.wh, ⟨some ⟨gg, 0, none⟩, m, cap'⟩⟩) hil hk hlt (by rw [hv]; exact h1) ⟨rfl, rfl, hn⟩ fun j hj => ?_⟩, ⟨hlt, ?_, fun j hj hz => (hset j (fun h => by rw [h, hg] at hz; cases hz)).trans (hold j hj (fun h => by rw [hrs.2 j h.symm] at hz; omega))⟩⟩
  · rw [size_setCell]
    by_cases hjl : j < w.heap.size
    · omega
    · rw [hτ] at hj
      simp only [if_neg hjl] at hj
      by_cases hjg : j = gg
      · rw [hjg]; exact own_block_lt hown rfl
      · rw [if_neg hjg] at hj; exact absurd rfl hj
  · exact ((h0.mono (Nat.zero_le _)).grown hgrow (Nat.zero_le _) (fun _ _ => Nat.zero_le _)).setCell (Nat.zero_le _) _
def sleepS (M : St) (who a : Int) : St := if relV M who 6 a = true then { M.note ⟨who, 6, a, true⟩ with ls := M.ls.set a.toNat ⟨false, (latA M a).wh, (latA M a).sl ++ [who]⟩, sp := putB M.sp who true, nb := M.nb + 1 } else relS M who 6 a
theorem keep_turned {τ : Nat → Nat} {w w' : World} {mb : Nat} (h : w.mapTurned w' mb) (ht : τ mb = 5) : Keep τ (fun q => q = 5) w w' := by
  have hg := h.grown
  exact ⟨hg.size, fun j hj _ hq => hg.block j hj (fun e => hq (by have := Option.some.inj e; rw [this]; exact ht))⟩
theorem step_turned {τ : Nat → Nat} {w w' : World} {mb : Nat} (h : w.mapTurned w' mb) (ht : τ mb = 5) : Step τ τ w w' := by
  have hg := h.grown
  exact ⟨fun _ _ => rfl, (Below.refl 0 w).grown hg (Nat.zero_le _) (fun _ _ => Nat.zero_le _), fun j hj h0 => hg.block j hj (fun e => by have := Option.some.inj e; rw [this, ht] at h0; cases h0)⟩
set_option maxRecDepth 1000000 in
set_option maxHeartbeats 8000000 in
theorem sleep_any {w : World} {τ : Nat → Nat} {b : Nat} {M : St} (hM : MemAt τ w b M) (hB : Bnd2 M) (hS : ∀ L ∈ M.ls, L.sl.length ≤ 1000000) (who a : Int) (hw : I64 who) (ha : I64 a) :
    Calls Try.prog 69 #[.pointer (some ⟨b, 0, none⟩), .int .i64 who, .int .i64 a] w
      fun e w' => e = .returned (.bool (relV M who 6 a)) ∧ MemP τ w b (sleepS M who a) w' := by
  obtain ⟨i0, hi, hz0, hz1, hz2⟩ := info_partsP infoIn
  have HREL := Lib.hid (release_any hM hB who 6 a (by decide) (by decide) hw ha)
  have HB := Lib.hid hB
  by_cases h : relV M who 6 a = true
  · have HS : Hid (sleepS M who a = { M.note ⟨who, 6, a, true⟩ with ls := M.ls.set a.toNat ⟨false, (latA M a).wh, (latA M a).sl ++ [who]⟩, sp := putB M.sp who true, nb := M.nb + 1 }) := Lib.hid (if_pos h)
    have hmay : mayB M who 6 a = true := by unfold relV at h; simp only [Bool.and_eq_true] at h; exact h.1
    have hhas : hasB M who (latA M a) = true := by unfold relV at h; simp only [Bool.and_eq_true] at h; exact h.2
    obtain ⟨h0, h1, _, _⟩ := mayB_yes hmay
    obtain ⟨i, L, rfl, hil, hx⟩ := cnt_lat 6 (by decide) h0 h1
    have hla := latA_of hx
    have hRS : relS M who 6 (i : Int) = { M.note ⟨who, 6, (i : Int), true⟩ with ls := M.ls.set i ⟨false, L.wh, L.sl⟩ } := by unfold relS; rw [if_pos hmay, if_pos hhas, hla, show ((i : Int)).toNat = i by omega]
    have HVV := Lib.hid h
    rw [h, hRS] at HREL
    rw [hla, show ((i : Int)).toNat = i by omega] at HS
    obtain ⟨M1, hM1⟩ : ∃ M1 : St, M1 = { M.note ⟨who, 6, (i : Int), true⟩ with ls := M.ls.set i ⟨false, L.wh, L.sl⟩ } := ⟨_, rfl⟩
    have hX1 : M1.ls[i]? = some ⟨false, L.wh, L.sl⟩ := by rw [hM1]; exact List.getElem?_set_self hil
    have hlen1 : M1.ls.length = M.ls.length := by rw [hM1]; simp
    have hnb1 : M1.nb = M.nb := by rw [hM1]; rfl
    have hE : { M.note ⟨who, 6, (i : Int), true⟩ with ls := M.ls.set i ⟨false, L.wh, L.sl ++ [who]⟩, sp := putB M.sp who true, nb := M.nb + 1 } = ({ ({ M1 with sp := putB M1.sp who true, nb := M1.nb + 1 } : St) with ls := M1.ls.set i ⟨false, L.wh, L.sl ++ [who]⟩ } : St) := by
      rw [hM1]; simp [St.note]
    rw [hE] at HS
    rw [← hM1] at HREL
    have HX1 := Lib.hid hX1
    have hslen : L.sl.length ≤ 1000000 := hS L (List.mem_of_getElem? hx)
    have hl0 : (0 : Int) ≤ (i : Int) := Int.natCast_nonneg _
    have hl1 : (i : Int) < (M.ls.length : Int) := by omega
    have hlm := hB.1.2.2.1
    have hnb := hB.1.2.2.2.2
    have HN1 := Lib.hid hnb1
    have HLEN := Lib.hid hlen1
    clear hM hB hS h hmay hhas h0 h1 hx hla hRS hM1 hX1 hE hnb1 hlen1 ha
    go_enter Try.func69, Try.ntmps69
    go_wp2_with fail
    go_at_call 83
    refine HREL.out.mono ?_
    rintro e w1 ⟨rfl, τ1, hM', hS'⟩
    have HS1 := Lib.hid hS'
    obtain ⟨V, hV⟩ := hM'
    obtain ⟨_, _, _, c3, _, _⟩ := five hV.st
    obtain ⟨D, hD1, hD2⟩ := hV.mp
    have HV := Lib.hid hV
    have HD2 := Lib.hid hD2
    have hkey := keyI_mk hw
    have hval := plain_bool true
    have hnm : M1.nb < maxLen := by rw [HN1.out]; unfold maxLen; omega
    have HIM := Lib.hid hD1.isMap
    have HKEY := Lib.hid hkey
    have HVAL := Lib.hid hval
    have HNM := Lib.hid hnm
    clear hV hS' hD2 hkey hval hnm
    go_wp2_with (at_mapUpdate; refine wpList_mapUpdate_in _ rfl _ _ _ MT rfl 3 4 keyI Try.underlying125 _ V.mb M1.nb D rfl hD1 HNM.out (.int .i64 who) (.bool true) (.int .i64 who) rfl rfl HKEY.out (.lit (.bool true)) [] HVAL.out ?_)
    intro w2 hmap hturn
    have hV2 := HV.out.sleep (keep_turned hturn HV.out.tm) (mapAs_put HD2.out HIM.out who hmap)
    have hS2 := HS1.out.trans (step_turned hturn HV.out.tm)
    have HV2 := Lib.hid hV2
    have HS2 := Lib.hid hS2
    obtain ⟨_, _, c2, _, _, _⟩ := five hV2.st
    obtain ⟨g, cap, s, hv, hlv, hglt, hτ, _, _, d2, df, hrow⟩ := la_at hV2 (show ({ M1 with sp := putB M1.sp who true, nb := M1.nb + 1 } : St).ls[i]? = some ⟨false, L.wh, L.sl⟩ from HX1.out)
    have HVL := Lib.hid hv
    have HLV := Lib.hid hlv
    have HT := Lib.hid hτ
    rw [hv] at c2
    have c2' : w2.cell? ⟨b, 2, none⟩ = some (.slice (some ⟨g, 0, none⟩) M1.ls.length cap) := c2
    rw [HLEN.out] at c2'
    have d2' : w2.cell? ⟨g, i * 3 + 2, none⟩ = some (.slice s.ao s.n s.c) := d2
    have df2 := df (i * 3 + 2)
    have hgb : g ≠ b := fun h => by rw [h, hV2.tb] at hτ; cases hτ
    have hbg : b ≠ g := fun h => hgb h.symm
    have hsb : s.val.ownBlock ≠ some b := fun h => by have := hrow.2 b h; rw [hV2.tb] at this; omega
    have hsg : s.val.ownBlock ≠ some g := fun h => by have := hrow.2 g h; rw [hτ] at this; omega
    have hblt := (Array.getElem?_eq_some_iff.1 hV2.st).1
    have hown : w2.ownsRow 0 3 1 (.slice s.ao s.n s.c) L.sl.length (intK.flat L.sl) := hrow.1
    clear hV2 hS2 hv hlv hτ c2 d2 df hrow hmap hturn hD1 c3 HV HS1
    go_wp2_with fail
    go_region_law (refine step_append_lies _ (by rfl) _ _ _ (by rfl) 0 3 i0 _ 1 8 Try.underlying46 hi hz0 hz1 hz2 rfl (by decide) (.slice s.ao s.n s.c) L.sl.length (intK.flat L.sl) (by rfl) ((hown.alloc _).drew) ⟨w2.heap.size, 0, none⟩ 1 1 [.int .i64 who] (by rfl) (by rfl) (World.news_of_block (cs := #[.int .i64 who]) (t := 3) (fr := (0, 0)) (heap_alloc_new w2 _)) (by simp [Value.oneCell']) (by omega) (by unfold maxLen; omega) (by omega) (by omega) (w2.heap.size + 1) (by simp) ?_; intro gg cap' w3 hown3 hgrow hat hlt3; have hbk : w3.heap[g]? = w2.heap[g]? := (hgrow.block g (by simp; omega) (fun h => hsg h.symm)).trans (heap_alloc_old w2 _ hglt); have hc3 : w3.cell? ⟨g, i * 3 + 2, none⟩ = some (.slice s.ao s.n s.c) := (World.cell?_of_block (w := w2) hbk).trans d2'; have hc4 : w3.cell? ⟨b, 2, none⟩ = some (.slice (some ⟨g, 0, none⟩) M.ls.length cap) := (World.cell?_of_block (w := w2) ((hgrow.block b (by simp; omega) (fun h => hsb h.symm)).trans (heap_alloc_old w2 _ hblt))).trans c2'; have hf3 : w3.frozen? ⟨g, i * 3 + 2, none⟩ = false := (World.frozen?_of_block (w := w2) hbk).trans df2)
    all_goals
      have HP := Lib.hid (MemP.trans HS2.out (sleep_step HV2.out (show ({ M1 with sp := putB M1.sp who true, nb := M1.nb + 1 } : St).ls[i]? = some ⟨false, L.wh, L.sl⟩ from HX1.out) HVL.out HT.out HLV.out ((Below.refl w2.heap.size w2).alloc (Nat.le_refl _) _).drew (by simp) (own_any hown3 (by simp) (by rw [flat_snoc]; rfl)) hgrow hat))
      clear hown3 hgrow hat hlt3 hbk hc3 hc4 hf3 hown
      go_wp2_with fail
      go_ret
      exact ⟨pbool HVV.out.symm, by rw [HS.out]; first | exact HP.out | exact HP.out.drew | exact HP.out.draws _⟩
  · have HS : Hid (sleepS M who a = relS M who 6 a) := Lib.hid (if_neg h)
    rw [show relV M who 6 a = false by simpa using h] at HREL ⊢
    clear hM hB hS h
    go_enter Try.func69, Try.ntmps69
    go_wp2_with fail
    go_at_call 83
    refine HREL.out.mono ?_
    rintro e w1 ⟨rfl, hp⟩
    have HP := Lib.hid hp
    clear hp
    go_wp2_with fail
    go_ret
    exact ⟨rfl, by rw [HS.out]; exact HP.out⟩
end Go.Proofs.Ytneegocbknkhjaa.Mm
