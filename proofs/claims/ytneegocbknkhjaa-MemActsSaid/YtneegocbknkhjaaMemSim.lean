/-
  PACKAGE mem and the document's own, PLAIN MATHEMATICS: both tell the same, whatever is done.
-/
import Derived.Test.YtneegocbknkhjaaRmDo3
import Derived.Test.YtneegocbknkhjaaRmDo2
import Derived.Test.YtneegocbknkhjaaMemGood
namespace Go.Proofs.Ytneegocbknkhjaa.Rm
open Rw Mm
set_option linter.unusedVariables false

structure Sim (M : St) (R : Rs) : Prop where
  ws : R.ws = M.ws
  bs : R.bs = M.bs
  lg : R.lg = M.lg
  ll : R.la.length = M.ls.length
  la : ∀ (i : Nat) L, M.ls[i]? = some L → R.la[i]? = some (if L.tk = true then L.wh else -1) ∧ (L.tk = true → 0 ≤ L.wh)
  sp : ∀ who, M.sp who = inBed R who
  sl : ∀ (i : Nat) L, M.ls[i]? = some L → L.sl = (R.bd.filter (fun y => y.2 == (i : Int))).map (·.1)
  nd : R.bd.Pairwise (fun x y => x.1 ≠ y.1)
theorem sim_init (a b c : Nat) : Sim (Mm.initS a b c) (initR a b c c) := by
  refine ⟨rfl, rfl, rfl, by simp [initR, Mm.initS], fun i L hL => ?_, fun who => by simp [inBed, initR, Mm.initS], fun i L hL => ?_, by simp [initR]⟩
  · have hi := (List.getElem?_eq_some_iff.1 hL).1
    obtain rfl := (List.mem_replicate.1 (show L ∈ List.replicate c ⟨false, 0, []⟩ from List.mem_of_getElem? hL)).2
    have hic : i < c := by simpa [Mm.initS] using hi
    exact ⟨by simp [initR, hic], by simp⟩
  · obtain rfl := (List.mem_replicate.1 (show L ∈ List.replicate c ⟨false, 0, []⟩ from List.mem_of_getElem? hL)).2
    simp [initR]
variable {M : St} {R : Rs}
theorem Sim.cnt (h : Sim M R) {q : Int} (hq : 0 ≤ q ∧ q ≤ 7) : rcnt R q = Mm.cnt M q := by
  unfold rcnt Mm.cnt
  rw [h.ws, h.bs, h.ll]
  have : q = 0 ∨ q = 1 ∨ q = 2 ∨ q = 3 ∨ q = 4 ∨ q = 5 ∨ q = 6 ∨ q = 7 := by omega
  rcases this with rfl | rfl | rfl | rfl | rfl | rfl | rfl | rfl <;> rfl
/-- It is an access for both, or for none. -/
theorem Sim.may (h : Sim M R) {who q a : Int} (hq : 0 ≤ q ∧ q ≤ 7) : (mayB M who q a = true ∧ 0 ≤ who ∧ 0 ≤ a ∧ a < (rcnt R q : Int) ∧ inBed R who = false) ∨ mayB M who q a = false ∧ ((who < 0 ∨ a < 0 ∨ (rcnt R q : Int) ≤ a) ∨ (0 ≤ who ∧ 0 ≤ a ∧ a < (rcnt R q : Int)) ∧ inBed R who = true) := by
  rw [h.cnt hq, ← h.sp who]
  unfold mayB thB
  by_cases h1 : who < 0 ∨ a < 0 ∨ (Mm.cnt M q : Int) ≤ a
  · refine .inr ⟨?_, .inl h1⟩
    rcases h1 with h1 | h1 | h1
    · rw [decide_eq_false (show ¬ 0 ≤ who by omega)]; simp
    · rw [decide_eq_false (show ¬ 0 ≤ a by omega)]; simp
    · rw [decide_eq_false (show ¬ a < (Mm.cnt M q : Int) by omega)]; simp
  · rw [decide_eq_true (show 0 ≤ who by omega), decide_eq_true (show 0 ≤ a by omega), decide_eq_true (show a < (Mm.cnt M q : Int) by omega)]
    cases hs : M.sp who
    · exact .inl ⟨rfl, by omega, by omega, by omega, rfl⟩
    · exact .inr ⟨rfl, .inr ⟨⟨by omega, by omega, by omega⟩, rfl⟩⟩
theorem Sim.note (h : Sim M R) (e : Ev) : Sim (M.note e) (R.note e) := ⟨h.ws, h.bs, by show R.lg ++ [e] = M.lg ++ [e]; rw [h.lg], h.ll, h.la, h.sp, h.sl, h.nd⟩
theorem Sim.word (h : Sim M R) (i : Nat) (v : Int) : Sim { M with ws := M.ws.set i v } { R with ws := R.ws.set i v } := ⟨by show R.ws.set i v = M.ws.set i v; rw [h.ws], h.bs, h.lg, h.ll, h.la, h.sp, h.sl, h.nd⟩
theorem Sim.box (h : Sim M R) (i : Nat) (l : List Batch.Ch) : Sim { M with bs := M.bs.set i l } { R with bs := R.bs.set i l } := ⟨h.ws, by show R.bs.set i l = M.bs.set i l; rw [h.bs], h.lg, h.ll, h.la, h.sp, h.sl, h.nd⟩
theorem Sim.latch (h : Sim M R) {i : Nat} {L : La} (hL : M.ls[i]? = some L) (tk : Bool) (wh : Int) (hw : tk = true → 0 ≤ wh) : Sim { M with ls := M.ls.set i ⟨tk, wh, L.sl⟩ } { R with la := R.la.set i (if tk = true then wh else -1) } := by
  have hil := (List.getElem?_eq_some_iff.1 hL).1
  refine ⟨h.ws, h.bs, h.lg, by simp [h.ll], fun j L' hL' => ?_, h.sp, fun j L' hL' => ?_, h.nd⟩
  · by_cases e : i = j
    · subst e
      have hl' : some (⟨tk, wh, L.sl⟩ : La) = some L' := by rw [← hL']; exact (List.getElem?_set_self hil).symm
      cases hl'
      exact ⟨List.getElem?_set_self (by rw [h.ll]; exact hil), hw⟩
    · have hl' : M.ls[j]? = some L' := by rw [← hL']; exact (List.getElem?_set_ne e).symm
      obtain ⟨q1, q2⟩ := h.la j L' hl'
      exact ⟨(List.getElem?_set_ne e).trans q1, q2⟩
  · by_cases e : i = j
    · subst e
      have hl' : some (⟨tk, wh, L.sl⟩ : La) = some L' := by rw [← hL']; exact (List.getElem?_set_self hil).symm
      cases hl'
      exact h.sl i L hL
    · exact h.sl j L' (by rw [← hL']; exact (List.getElem?_set_ne e).symm)
/-- Is it nobody's? Is it who's? -/
theorem Sim.free (h : Sim M R) {i : Nat} {L : La} (hL : M.ls[i]? = some L) : ∃ x, R.la[i]? = some x ∧ (x = -1 ↔ L.tk = false) ∧ ∀ who, 0 ≤ who → (x = who ↔ hasB M who L = true) := by
  obtain ⟨q1, q2⟩ := h.la i L hL
  refine ⟨_, q1, ?_, fun who hw => ?_⟩
  · cases ht : L.tk
    · simp
    · have := q2 ht; simp; omega
  · unfold hasB
    cases ht : L.tk
    · simp; omega
    · simp
theorem inBed_iff {who : Int} : inBed R who = true ↔ ∃ y ∈ R.bd, y.1 = who := by unfold inBed; rw [List.any_eq_true]; simp
/-- One goes to sleep. -/
theorem Sim.sleep (h : Sim M R) {i : Nat} {L : La} (hL : M.ls[i]? = some L) {who : Int} (hw : inBed R who = false) (nb : Nat) :
    Sim { M with ls := M.ls.set i ⟨L.tk, L.wh, L.sl ++ [who]⟩, sp := putB M.sp who true, nb := nb } { R with bd := R.bd ++ [(who, (i : Int))] } := by
  have hil := (List.getElem?_eq_some_iff.1 hL).1
  refine ⟨h.ws, h.bs, h.lg, by simp [h.ll], fun j L' hL' => ?_, fun z => ?_, fun j L' hL' => ?_, ?_⟩
  · by_cases e : i = j
    · subst e
      have hl' : some (⟨L.tk, L.wh, L.sl ++ [who]⟩ : La) = some L' := by rw [← hL']; exact (List.getElem?_set_self hil).symm
      cases hl'
      exact h.la i L hL
    · exact h.la j L' (by rw [← hL']; exact (List.getElem?_set_ne e).symm)
  · show putB M.sp who true z = inBed { R with bd := R.bd ++ [(who, (i : Int))] } z
    unfold putB inBed
    rw [List.any_append]
    have := h.sp z
    unfold inBed at this
    by_cases e : z = who
    · subst e; simp
    · rw [if_neg e, this]
      have hne : (who == z) = false := by rw [beq_eq_false_iff_ne]; exact fun h => e h.symm
      simp [hne]
  · show L'.sl = ((R.bd ++ [(who, (i : Int))]).filter (fun y => y.2 == (j : Int))).map (·.1)
    rw [List.filter_append, List.map_append]
    by_cases e : i = j
    · subst e
      have hl' : some (⟨L.tk, L.wh, L.sl ++ [who]⟩ : La) = some L' := by rw [← hL']; exact (List.getElem?_set_self hil).symm
      cases hl'
      rw [← h.sl i L hL]
      simp
    · have hne : ((i : Int) == (j : Int)) = false := by rw [beq_eq_false_iff_ne]; omega
      rw [← h.sl j L' (by rw [← hL']; exact (List.getElem?_set_ne e).symm)]
      simp [hne]
  · show (R.bd ++ [(who, (i : Int))]).Pairwise (fun x y => x.1 ≠ y.1)
    rw [List.pairwise_append]
    refine ⟨h.nd, by simp, fun x hx y hy => ?_⟩
    obtain rfl := List.mem_singleton.1 hy
    intro he
    have : inBed R who = true := inBed_iff.2 ⟨x, hx, he⟩
    rw [hw] at this
    cases this
theorem wakeAll_iff (sp : Int → Bool) (l : List Int) (z : Int) : wakeAll sp l z = (sp z && !(l.contains z)) := by
  induction l generalizing sp with
  | nil => simp [wakeAll]
  | cons x r ih =>
    show wakeAll (putB sp x false) r z = _
    rw [ih]
    unfold putB
    by_cases e : z = x
    · subst e; simp
    · simp [e]
theorem woke_len {l : List (Int × Int)} (a : Int) : woke true a l = (((l.filter (fun y => y.2 == a)).map (·.1)).length : Int) := by unfold woke; simp
theorem stays_none (a : Int) (l : List (Int × Int)) : l.filter (stays false a) = l := by rw [List.filter_eq_self]; intro y _; rfl
theorem nd_one {l : List (Int × Int)} (h : l.Pairwise (fun x y => x.1 ≠ y.1)) {y y' : Int × Int} (hy' : y' ∈ l) (hy : y ∈ l) (he : y'.1 = y.1) : y' = y := by
  induction l with
  | nil => simp at hy
  | cons z r ih =>
    rw [List.pairwise_cons] at h
    rcases List.mem_cons.1 hy' with rfl | h1
    · rcases List.mem_cons.1 hy with rfl | h2
      · rfl
      · exact absurd he (h.1 y h2)
    · rcases List.mem_cons.1 hy with rfl | h2
      · exact absurd he.symm (h.1 y' h1)
      · exact ih h.2 h1 h2
/-- All who sleep by it don't any more. -/
theorem Sim.wake (h : Sim M R) {i : Nat} {L : La} (hL : M.ls[i]? = some L) :
    Sim { M with ls := M.ls.set i ⟨L.tk, L.wh, []⟩, sp := wakeAll M.sp L.sl } { R with bd := R.bd.filter (stays true (i : Int)) } := by
  have hil := (List.getElem?_eq_some_iff.1 hL).1
  refine ⟨h.ws, h.bs, h.lg, by simp [h.ll], fun j L' hL' => ?_, fun z => ?_, fun j L' hL' => ?_, h.nd.filter _⟩
  · by_cases e : i = j
    · subst e
      have hl' : some (⟨L.tk, L.wh, []⟩ : La) = some L' := by rw [← hL']; exact (List.getElem?_set_self hil).symm
      cases hl'
      exact h.la i L hL
    · exact h.la j L' (by rw [← hL']; exact (List.getElem?_set_ne e).symm)
  · show wakeAll M.sp L.sl z = inBed { R with bd := R.bd.filter (stays true (i : Int)) } z
    rw [wakeAll_iff, h.sp z, h.sl i L hL, Bool.eq_iff_iff]
    simp only [Bool.and_eq_true, inBed_iff, Bool.not_eq_true', List.mem_filter, stays, List.contains_eq_mem, decide_eq_false_iff_not, List.mem_map, Bool.true_and]
    constructor
    · rintro ⟨⟨y, hy, rfl⟩, hn⟩
      refine ⟨y, ⟨hy, ?_⟩, rfl⟩
      by_cases e : (y.2 == (i : Int)) = true
      · exact absurd ⟨y, ⟨hy, e⟩, rfl⟩ hn
      · simpa using e
    · rintro ⟨y, ⟨hy, hs⟩, rfl⟩
      refine ⟨⟨y, hy, rfl⟩, ?_⟩
      rintro ⟨y', ⟨hy', he'⟩, he⟩
      have : y' = y := nd_one h.nd hy' hy he
      subst this
      rw [he'] at hs
      simp at hs
  · show L'.sl = ((R.bd.filter (stays true (i : Int))).filter (fun y => y.2 == (j : Int))).map (·.1)
    rw [List.filter_filter]
    by_cases e : i = j
    · subst e
      have hl' : some (⟨L.tk, L.wh, []⟩ : La) = some L' := by rw [← hL']; exact (List.getElem?_set_self hil).symm
      cases hl'
      have : R.bd.filter (fun y => (y.2 == (i : Int)) && stays true (i : Int) y) = [] := by
        rw [List.filter_eq_nil_iff]
        intro y _
        cases hy : (y.2 == (i : Int)) <;> simp [stays, hy]
      rw [this]
      rfl
    · rw [h.sl j L' (by rw [← hL']; exact (List.getElem?_set_ne e).symm)]
      congr 1
      apply List.filter_congr
      intro y _
      by_cases hy : y.2 = (j : Int)
      · have hne : (y.2 == (i : Int)) = false := by rw [beq_eq_false_iff_ne]; omega
        simp [hy, stays]
        omega
      · have : (y.2 == (j : Int)) = false := by rw [beq_eq_false_iff_ne]; exact hy
        simp [this]
end Go.Proofs.Ytneegocbknkhjaa.Rm
