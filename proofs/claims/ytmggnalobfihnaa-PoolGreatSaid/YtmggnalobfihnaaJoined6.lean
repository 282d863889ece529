/-
  PACKAGE mem: Sleep.
  PACKAGE mem: Wake.
-/
import Derived.Test.YtmggnalobfihnaaMemTake
import Derived.Deep.AppendLies
import Derived.Deep.RegionHeld3
import Derived.Deep.RegionHeldLaw
namespace Go.Proofs.Ytmggnalobfihnaa.Mm
open Go.RowKit Rw Pk Go.Maps
set_option linter.unusedVariables false

theorem sleep_step {τ : Nat → Nat} {w w0 w1 : World} {b : Nat} {M : St} {V : Vs} (hV : MemIs τ w b M V) {i g n cap gg m cap' : Nat} {L : La} {s : Sv} {who : Int} (hL : M.ls[i]? = some L) (hv : V.vl = .slice (some ⟨g, 0, none⟩) n cap) (hg : τ g = 4) (hx : V.lv[i]? = some ⟨L.tk, L.wh, s⟩)
    (h0 : Below w.heap.size w w0) (hs0 : w0.heap.size = w.heap.size + 1) (hown : Own intK w1 0 3 (.slice (some ⟨gg, 0, none⟩) m cap') (L.sl ++ [who])) (hgrow : w0.grownBy w1 s.val.ownBlock) (hat : s.val.ownBlock = some gg ∨ gg = w.heap.size + 1) :
    MemP τ w b { M with ls := M.ls.set i ⟨L.tk, L.wh, L.sl ++ [who]⟩ } (w1.setCell ⟨g, i * 3 + 2, none⟩ (.slice (some ⟨gg, 0, none⟩) m cap')) := by
  have hil := (List.getElem?_eq_some_iff.1 hL).1
  have hrs := (hV.le i _ L hx hL).2.2
  have hs1 : w.heap.size + 1 ≤ w1.heap.size := by rw [← hs0]; exact hgrow.size
  have hglt : g < w.heap.size := own_block_lt hV.ls.1 (by rw [hv]; rfl)
  have hold : ∀ j, j < w.heap.size → some j ≠ s.val.ownBlock → w1.heap[j]? = w.heap[j]? := fun j hj hne => (hgrow.block j (by omega) hne).trans (h0.block j hj)
  have hgg : gg < w.heap.size → τ gg = 8 + i := fun h => by
    rcases hat with h1 | h1
    · exact hrs.2 gg h1
    · omega
  obtain ⟨τ', hτ⟩ : ∃ τ' : Nat → Nat, τ' = fun j => if j < w.heap.size then τ j else if j = gg then 8 + i else 0 := ⟨_, rfl⟩
  have hlt : ∀ j, j < w.heap.size → τ' j = τ j := fun j hj => by rw [hτ]; exact if_pos hj
  have hgne : gg ≠ g := fun h => by
    rw [h] at hgg
    have := hgg hglt
    rw [hg] at this
    omega
  have hset : ∀ j, j ≠ g → (w1.setCell ⟨g, i * 3 + 2, none⟩ (.slice (some ⟨gg, 0, none⟩) m cap')).heap[j]? = w1.heap[j]? := fun j hj => Below.heap_setCell _ _ _ _ hj
  have hk1 : Keep τ (fun q => q = 8 + i) w w1 := ⟨by omega, fun j hj _ hq => hold j hj (fun h => hq (hrs.2 j h.symm))⟩
  have hk : Keep τ (fun q => q = 4 ∨ q = 8 + i) w (w1.setCell ⟨g, i * 3 + 2, none⟩ (.slice (some ⟨gg, 0, none⟩) m cap')) := ⟨by rw [size_setCell]; omega, fun j hj h0' hq => (hset j (fun h => hq (by rw [h]; exact .inl hg))).trans (hk1.2 j hj h0' (fun h => hq (.inr h)))⟩
  have hrow := hV.ls.keep hk1 hlt (by decide) (by omega)
  rw [hv] at hrow
  have h1 := row_setc (c := 2) (u := .slice (some ⟨gg, 0, none⟩) m cap') (y := ⟨L.tk, L.wh, ⟨some ⟨gg, 0, none⟩, m, cap'⟩⟩) hrow hx (by decide) rfl
  have hn : Row intK (w1.setCell ⟨g, i * 3 + 2, none⟩ (.slice (some ⟨gg, 0, none⟩) m cap')) τ' (8 + i) 3 (Sv.val ⟨some ⟨gg, 0, none⟩, m, cap'⟩) (L.sl ++ [who]) := by
    refine ⟨own_of_block (show Own intK w1 0 3 (Sv.val ⟨some ⟨gg, 0, none⟩, m, cap'⟩) (L.sl ++ [who]) from hown) fun k hk' => hset k ?_, fun k hk' => ?_⟩
    · have : k = gg := by simpa [Value.ownBlock, Sv.val] using hk'.symm
      rw [this]; exact hgne
    · have : k = gg := by simpa [Value.ownBlock, Sv.val] using hk'.symm
      subst this
      by_cases hl : k < w.heap.size
      · rw [hlt k hl]; exact hgg hl
      · rw [hτ]; simp only [if_neg hl, if_pos]
  refine ⟨τ', ⟨_, hV.lat (x := ⟨L.tk, L.wh, ⟨some ⟨gg, 0, none⟩, m, cap'⟩⟩) hil hk hlt (by rw [hv]; exact h1) ⟨rfl, rfl, hn⟩ fun j hj => ?_⟩, ⟨hlt, ?_, fun j hj hz => (hset j (fun h => by rw [h, hg] at hz; cases hz)).trans (hold j hj (fun h => by rw [hrs.2 j h.symm] at hz; omega))⟩⟩
  · rw [size_setCell]
    by_cases hjl : j < w.heap.size
    · omega
    · rw [hτ] at hj
      simp only [if_neg hjl] at hj
      by_cases hjg : j = gg
      · rw [hjg]; exact own_block_lt hown rfl
      · rw [if_neg hjg] at hj; exact absurd rfl hj
  · exact ((h0.mono (Nat.zero_le _)).grown hgrow (Nat.zero_le _) (fun _ _ => Nat.zero_le _)).setCell (Nat.zero_le _) _
def sleepS (M : St) (who a : Int) : St := if relV M who 6 a = true then { M.note ⟨who, 6, a, true⟩ with ls := M.ls.set a.toNat ⟨false, (latA M a).wh, (latA M a).sl ++ [who]⟩, sp := putB M.sp who true, nb := M.nb + 1 } else relS M who 6 a
theorem keep_turned {τ : Nat → Nat} {w w' : World} {mb : Nat} (h : w.mapTurned w' mb) (ht : τ mb = 5) : Keep τ (fun q => q = 5) w w' := by
  have hg := h.grown
  exact ⟨hg.size, fun j hj _ hq => hg.block j hj (fun e => hq (by have := Option.some.inj e; rw [this]; exact ht))⟩
theorem step_turned {τ : Nat → Nat} {w w' : World} {mb : Nat} (h : w.mapTurned w' mb) (ht : τ mb = 5) : Step τ τ w w' := by
  have hg := h.grown
  exact ⟨fun _ _ => rfl, (Below.refl 0 w).grown hg (Nat.zero_le _) (fun _ _ => Nat.zero_le _), fun j hj h0 => hg.block j hj (fun e => by have := Option.some.inj e; rw [this, ht] at h0; cases h0)⟩
end Go.Proofs.Ytmggnalobfihnaa.Mm
namespace Go.Proofs.Ytmggnalobfihnaa.Mm
open Go.RowKit Rw Pk Go.Maps
set_option linter.unusedVariables false

def wakeAll (sp : Int → Bool) (l : List Int) : Int → Bool := l.foldl (fun s x => putB s x false) sp
theorem wakeAll_snoc (sp : Int → Bool) (l : List Int) (x : Int) : wakeAll sp (l ++ [x]) = putB (wakeAll sp l) x false := by unfold wakeAll; rw [List.foldl_append]; rfl
theorem take_succM {α : Type} {l : List α} {i : Nat} {x : α} (h : l[i]? = some x) : l.take (i + 1) = l.take i ++ [x] := by rw [List.take_add_one, h]; rfl
def wokenB (M : St) (who a : Int) : Bool := mayB M who 7 a && hasB M who (latA M a)
def wakeV (M : St) (who a : Int) : Int := if wokenB M who a = true then ((latA M a).sl.length : Int) else 0
def wakeS (M : St) (who a : Int) : St := if wokenB M who a = true then { M.note ⟨who, 7, a, true⟩ with ls := M.ls.set a.toNat ⟨(latA M a).tk, (latA M a).wh, []⟩, sp := wakeAll M.sp (latA M a).sl } else if mayB M who 7 a = true then M.note ⟨who, 7, a, false⟩ else M
/-- The list of those who sleep is another, empty one; the elder list stays as it was. -/
theorem lat_step3 {τ : Nat → Nat} {w : World} {b : Nat} {M : St} {V : Vs} (hV : MemIs τ w b M V) {i g n cap : Nat} {L : La} {s : Sv} (hL : M.ls[i]? = some L) (hv : V.vl = .slice (some ⟨g, 0, none⟩) n cap) (hg : τ g = 4) (hx : V.lv[i]? = some ⟨L.tk, L.wh, s⟩) :
    MemAt τ (w.setCell ⟨g, i * 3 + 2, none⟩ (.slice none 0 0)) b { M with ls := M.ls.set i ⟨L.tk, L.wh, []⟩ } ∧ Step τ τ w (w.setCell ⟨g, i * 3 + 2, none⟩ (.slice none 0 0)) ∧ Row intK (w.setCell ⟨g, i * 3 + 2, none⟩ (.slice none 0 0)) τ (8 + i) 3 s.val L.sl := by
  have hil := (List.getElem?_eq_some_iff.1 hL).1
  have hrow := hV.ls
  rw [hv] at hrow
  have hrs := (hV.le i _ L hx hL).2.2
  have h1 := row_setc (c := 2) (u := .slice none 0 0) (y := ⟨L.tk, L.wh, ⟨none, 0, 0⟩⟩) hrow hx (by decide) rfl
  refine ⟨⟨_, hV.lat (x := ⟨L.tk, L.wh, ⟨none, 0, 0⟩⟩) hil ((keep_set hg (i * 3 + 2) (.slice none 0 0) (w := w)).mono fun t h => .inl h) (ext_refl _ _) (by rw [hv]; exact h1) ⟨rfl, rfl, Own.nil (S := intK) _ _ _, fun g h => by simp [Value.ownBlock, Sv.val] at h⟩ fun j hj => ?_⟩, step_set (by rw [hg]; decide) (i * 3 + 2) _, hrs.keep (keep_set hg (i * 3 + 2) (.slice none 0 0) (w := w)) (ext_refl _ _) (by omega) (by omega)⟩
  rw [size_setCell]
  exact hV.tz j hj
def Bnd3 (M : St) : Prop := Bnd2 M ∧ ∀ L ∈ M.ls, L.sl.length ≤ 1000000 ∧ (∀ x ∈ L.sl, I64 x) ∧ I64 L.wh
end Go.Proofs.Ytmggnalobfihnaa.Mm
