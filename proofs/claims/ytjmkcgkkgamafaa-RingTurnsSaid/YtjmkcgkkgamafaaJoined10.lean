/-
  PACKAGE ring: New; the law's begin and finish.
  THE DOCUMENT'S OWN ANSWER for ring: a queue: Size; a Push that finds no room, a Pop that finds nothing.
  PACKAGE batch: the library's Equal at Changes; Same.
-/
import Derived.Test.YtjmkcgkkgamafaaRgPushs
import Derived.Test.YtjmkcgkkgamafaaMemNew
import Derived.Test.YtjmkcgkkgamafaaJoined2
import Derived.Test.YtjmkcgkkgamafaaJoined5
import Derived.LoopTactic
namespace Go.Proofs.Ytjmkcgkkgamafaa.Rg
open Go.RowKit Rw Pk Go.Maps Mm
set_option linter.unusedVariables false
section
variable {w w' : World} {R : Ri} {A : Ac} {n a r p : Nat} {w0 wr : World} {fs zs : List Nat} {l : List Batch.Ch} {M M' : Mm.St}
def SzP (N : Nat) : Prop := N = 1 ∨ N = 2 ∨ N = 4 ∨ N = 8 ∨ N = 16
set_option maxRecDepth 1000000 in
set_option maxHeartbeats 8000000 in
theorem rgright_any {N : Nat} (h : SzP N) (w : World) :
    Calls Try.prog 95 #[.int .i64 (N : Int)] w fun e w' => e = .returned (.bool true) ∧ w = w' := by
  rcases h with rfl | rfl | rfl | rfl | rfl
  all_goals
    go_enter Try.func95, Try.ntmps95
    go_wp2_with fail
    go_ret
    exact ⟨rfl, rfl⟩
set_option maxRecDepth 1000000 in
set_option maxHeartbeats 8000000 in
theorem rgnew_any {N : Nat} (h : SzP N) (p : Nat) (w : World) :
    Calls Try.prog 62 #[.pointer (some ⟨p, 0, none⟩), .int .i64 1, .int .i64 1, .int .i64 (N : Int)] w fun e w' => ∃ g, e = .returned (.tuple #[.pointer (some ⟨g, 0, none⟩), .int .i64 0]) ∧ w.heap.size ≤ g ∧ RiAt w' g ⟨p, 1, 1, N, false, false⟩ ∧ Below w.heap.size w w' := by
  have HRT := Lib.hid (rgright_any h w)
  have hu : IntKind.u64.wrap (N : Int) = (N : Int) := by rcases h with rfl | rfl | rfl | rfl | rfl <;> rfl
  clear h
  go_enter Try.func62, Try.ntmps62
  go_wp2_with fail
  go_at_call 95
  refine HRT.out.mono ?_
  rintro e w1 ⟨rfl, rfl⟩
  go_wp2_with fail
  go_ret2
  exact ⟨_, rfl, Nat.le_refl _, by unfold RiAt; exact heap_alloc_new _ _, (Below.refl _ _).alloc (Nat.le_refl _) _⟩
theorem Rq.rebase (h : Rq n w0 wr fs zs r R M w) {fs' : List Nat} (hf : ∀ j ∈ fs', j ∈ zs) : Rq n w0 w fs' zs r R M w := ⟨h.mz, h.ri, h.rm, h.nr, hf, fun _ _ _ => rfl, Nat.le_refl _⟩
theorem Rg.rebase (h : Rg n w0 wr fs zs a r R A l M w) {fs' : List Nat} (hf : ∀ j ∈ fs', j ∈ zs) : Rg n w0 w fs' zs a r R A l M w := ⟨h.mz, h.ri, h.ac, h.am, h.rm, h.na, h.nr, h.ne, h.ar, h.sl, h.bv, hf, fun _ _ _ _ => rfl, Nat.le_refl _⟩
/-- What was made since is one's own. -/
theorem Rq.all (h : Rq n w0 wr fs zs r R M w) (hb : Below w.heap.size w w') : Rq n w0 wr fs (List.range' w.heap.size (w'.heap.size - w.heap.size) ++ zs) r R M w' := by
  have hq := h.below hb
  exact ⟨memz_all h.mz hb, hq.ri, all_old _ hq.rm, hq.nr, fun j hj => all_old _ (hq.fz j hj), hq.fr, hq.sz⟩
set_option maxRecDepth 1000000 in
set_option maxHeartbeats 8000000 in
theorem rgbegin_any {N : Nat} (h : SzP N) (w : World) :
    Calls Try.prog 12 #[.int .i64 (N : Int)] w fun e w' => ∃ p r zs, e = .returned (.tuple #[.pointer (some ⟨p, 0, none⟩), .pointer (some ⟨r, 0, none⟩)]) ∧ Rq w.heap.size w w' [] zs r ⟨p, 1, 1, N, false, false⟩ (initS 4 (N + 2) 0) w' := by
  have hN : N ≤ 16 := by rcases h with rfl | rfl | rfl | rfl | rfl <;> decide
  have HS := Lib.hid h
  have hw1 : IntKind.i64.wrap ((N : Int) + 2) = ((N + 2 : Nat) : Int) := by rcases h with rfl | rfl | rfl | rfl | rfl <;> rfl
  have hw2 : wrap64 ((N : Int) + 2) = ((N + 2 : Nat) : Int) := by unfold wrap64; omega
  have HN := Lib.hid hN
  clear h hN
  go_enter Try.func12, Try.ntmps12
  go_wp2_with fail
  go_at_call 61
  try rw [hw1]
  try rw [hw2]
  refine (memNew_any 4 (N + 2) 0 (by decide) (by have := HN.out; omega) (by decide) _).mono ?_
  rintro e w1 ⟨p, τ, rfl, hm, ht, hb⟩
  have HZ := Lib.hid (memz_start (a := 0) (b := 0) (c := 0) hm ht hb)
  clear hm ht hb
  go_wp2_with fail
  go_at_call 62
  refine (rgnew_any HS.out p w1).mono ?_
  rintro e w2 ⟨g, rfl, hg, hr, hb⟩
  have HQ := Lib.hid (show Rq w.heap.size w w2 [] _ g ⟨p, 1, 1, N, false, false⟩ (initS 4 (N + 2) 0) w2 from
    ⟨memz_all HZ.out hb, hr, all_mem hg hr.lt, Nat.le_trans HZ.out.nl hg, by simp, by simp, Nat.le_refl _⟩)
  clear hr hb hg
  go_wp2_with fail
  go_ret2
  exact ⟨p, g, _, rfl, HQ.out⟩
set_option maxRecDepth 1000000 in
set_option maxHeartbeats 8000000 in
theorem rgfinish_any {K : Nat} (h1 : 1 ≤ K) (h8 : K ≤ 8) {S : Nat → World → Prop} (hS : S 0 w)
    (hst : ∀ j, j < K → ∀ w, S j w → Calls Try.prog 28 #[.pointer (some ⟨a, 0, none⟩)] w fun e w' => e = .returned (.bool (decide (j + 1 = K))) ∧ S (j + 1) w')
    (hov : ∀ w, S K w → Calls Try.prog 16 #[.pointer (some ⟨a, 0, none⟩)] w fun e w' => e = .returned (.bool true) ∧ w = w') :
    Calls Try.prog 17 #[.pointer (some ⟨a, 0, none⟩)] w fun e w' => e = .returned (.bool true) ∧ S K w' := by
  have HS := Lib.hid hS
  have HST := Lib.hid hst
  have HOV := Lib.hid hov
  clear hS hst hov
  go_enter Try.func17, Try.ntmps17
  go_wp2_with fail
  go_loopg [3] 8 (fun k t wr => ∃ i : Nat, i + k = 8 ∧ i < K ∧ t = .int .i64 (i : Int) ∧ S i wr)
  case atStart => exact ⟨0, rfl, by omega, rfl, HS.out⟩
  case round =>
    obtain ⟨i, hik, hiK, rfl, hs⟩ := hrel
    have hi8 : (i : Int) < 8 := by omega
    have hj2 : decide ((i : Int) < 8) = true := decide_eq_true hi8
    have hwi : IntKind.i64.wrap ((i : Int) + 1) = ((i + 1 : Nat) : Int) := by simp [IntKind.wrap, IntKind.bits, IntKind.signed]; omega
    by_cases hlast : i + 1 = K
    · go_wp2_with fail
      go_at_call 28
      refine (HST.out i hiK _ hs).mono ?_
      rw [decide_eq_true hlast]
      rintro e w2 ⟨rfl, hs2⟩
      rw [hlast] at hs2
      have HS2 := Lib.hid hs2
      clear hs hs2
      go_wp2_with fail
      go_at_call 16
      refine (HOV.out _ HS2.out).mono ?_
      rintro e w3 ⟨rfl, rfl⟩
      go_wp2_with fail
      go_ret
      exact ⟨rfl, HS2.out⟩
    · go_wp2_with fail
      go_at_call 28
      refine (HST.out i hiK _ hs).mono ?_
      rw [decide_eq_false hlast]
      rintro e w2 ⟨rfl, hs2⟩
      have HS2 := Lib.hid hs2
      clear hs hs2
      go_wp2_with fail
      go_roundg (gk - 1)
      case measure => omega
      case rel => exact ⟨i + 1, by omega, by omega, by go_num, HS2.out⟩
end
end Go.Proofs.Ytjmkcgkkgamafaa.Rg
namespace Go.Proofs.Ytjmkcgkkgamafaa.Rg
open Go.RowKit Rw Pk Go.Maps Mm
set_option linter.unusedVariables false
theorem rgval (n : Int) : ∃ a : Nat, a < 8 ∧ IntKind.i64.wrap ((IntKind.u64.wrap n).tmod 8) = (a : Int) ∧ wrap64 ((IntKind.u64.wrap n).tmod 8) = (a : Int) := by
  have h1 := Pk.u64_of n
  have h0 : 0 ≤ IntKind.u64.wrap n := by rw [h1]; omega
  have h2 := Int.tmod_nonneg (8 : Int) h0
  have h3 := Int.tmod_lt_of_pos (IntKind.u64.wrap n) (show (0 : Int) < 8 by decide)
  refine ⟨((IntKind.u64.wrap n).tmod 8).toNat, by omega, ?_, ?_⟩
  · generalize (IntKind.u64.wrap n).tmod 8 = q at *
    unfold IntKind.wrap
    simp [IntKind.bits, IntKind.signed]
    omega
  · unfold wrap64; omega
/-- A queue's block: its slice, its size. -/
def QAt (w : World) (q N : Nat) (v : Value) : Prop := w.heap[q]? = some (.cells #[v, .int .i64 (N : Int)] 32 (0, 0))
theorem QAt.cells {w : World} {q N : Nat} {v : Value} (h : QAt w q N v) : w.cell? ⟨q, 0, none⟩ = some v ∧ w.cell? ⟨q, 1, none⟩ = some (.int .i64 (N : Int)) ∧ ∀ o, w.frozen? ⟨q, o, none⟩ = false := by
  unfold QAt at h
  simp [World.cell?, World.frozen?, h]
set_option maxRecDepth 1000000 in
set_option maxHeartbeats 8000000 in
theorem rgsize_any (x : Int) (w : World) :
    Calls Try.prog 11 #[.int .i64 x] w fun e w' => ∃ N, SzP N ∧ e = .returned (.int .i64 (N : Int)) ∧ Below w.heap.size w w' := by
  obtain ⟨a, ha, e1, e2⟩ := rgval x
  rcases (show a = 0 ∨ a = 1 ∨ a = 2 ∨ a = 3 ∨ a = 4 ∨ a = 5 ∨ a = 6 ∨ a = 7 by omega) with rfl | rfl | rfl | rfl | rfl | rfl | rfl | rfl
  all_goals
    go_enter Try.func11, Try.ntmps11
    go_wp2_with fail
    go_ret
    first
      | exact ⟨1, by unfold SzP; omega, rfl, (Below.refl _ _).alloc (Nat.le_refl _) _⟩
      | exact ⟨2, by unfold SzP; omega, rfl, (Below.refl _ _).alloc (Nat.le_refl _) _⟩
      | exact ⟨4, by unfold SzP; omega, rfl, (Below.refl _ _).alloc (Nat.le_refl _) _⟩
      | exact ⟨8, by unfold SzP; omega, rfl, (Below.refl _ _).alloc (Nat.le_refl _) _⟩
      | exact ⟨16, by unfold SzP; omega, rfl, (Below.refl _ _).alloc (Nat.le_refl _) _⟩
set_option maxRecDepth 1000000 in
set_option maxHeartbeats 8000000 in
theorem rgqpush_no {w : World} {q N m : Nat} {ao : Option Addr} {cp : Nat} (h : QAt w q N (.slice ao m cp)) (hm : N ≤ m) (v : Value) :
    Calls Try.prog 27 #[.pointer (some ⟨q, 0, none⟩), v] w fun e w' => e = .returned (.bool false) ∧ Below w.heap.size w w' := by
  obtain ⟨c0, c1, _⟩ := h.cells
  have hd : (N : Int) ≤ (m : Int) := by omega
  clear h
  go_enter Try.func27, Try.ntmps27
  go_wp2_with fail
  go_quiet (fail)
  go_wp2_with fail
  go_ret
  exact ⟨rfl, below_drewN (Below.refl _ _) _⟩
set_option maxRecDepth 1000000 in
set_option maxHeartbeats 8000000 in
theorem rgqpop_no {w : World} {q N : Nat} {ao : Option Addr} {cp : Nat} (h : QAt w q N (.slice ao 0 cp)) :
    Calls Try.prog 18 #[.pointer (some ⟨q, 0, none⟩)] w fun e w' => e = .returned (.tuple #[.slice none 0 0, .bool false]) ∧ w = w' := by
  obtain ⟨c0, c1, _⟩ := h.cells
  clear h
  go_enter Try.func18, Try.ntmps18
  go_wp2_with fail
  go_ret2
  exact ⟨rfl, rfl⟩
end Go.Proofs.Ytjmkcgkkgamafaa.Rg
namespace Go.Proofs.Ytjmkcgkkgamafaa.Batch
open Go.RowKit Go.Shelf Go.Lib
set_option linter.unusedVariables false

def sameB (a b : List Ch) : Bool := decide (a.length = b.length) && (List.range a.length).all fun i => eqCh a[i]! b[i]!
theorem eqCh_refl (x : Ch) : eqCh x x = true := (eqCh_iff x x).2 rfl
theorem allEq_iff : ∀ (a b : List Ch), Lib.allEq eqCh a b = true ↔ a = b
  | [], [] => by simp [Lib.allEq]
  | [], y :: b => by simp [Lib.allEq]
  | x :: a, [] => by simp [Lib.allEq]
  | x :: a, y :: b => by simp [Lib.allEq, eqCh_iff, allEq_iff a b]
noncomputable def eqL (a b : List Ch) : Bool := Lib.allEq eqCh a b
theorem eqL_iff (a b : List Ch) : eqL a b = true ↔ a = b := allEq_iff a b
theorem eqL_self (a : List Ch) : eqL a a = true := (eqL_iff a a).2 rfl
theorem eqL_false {a b : List Ch} (h : a ≠ b) : eqL a b = false := by
  cases e : eqL a b
  · rfl
  · exact absurd ((eqL_iff a b).1 e) h

end Go.Proofs.Ytjmkcgkkgamafaa.Batch
