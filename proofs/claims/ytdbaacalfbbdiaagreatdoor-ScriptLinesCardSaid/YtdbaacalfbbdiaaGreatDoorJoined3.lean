/-
  PACKAGE script: rows of texts of the call's own.
  Short words for what is said most often in the walks of regions.
-/
import Derived.Test.YtdbaacalfbbdiaaGreatDoorJoined2
import Derived.Laws.MakeOwn
import Derived.RowKit
import Derived.KernelRfl
import Derived.OrdersHeld
import Derived.Deep.RegionHeld3
import Derived.Below
namespace Go.Proofs.YtdbaacalfbbdiaaGreatDoor.Sc
open Go.RowKit
set_option linter.unusedVariables false
set_option linter.unusedSimpArgs false
theorem infoStr : (Tryz.prog.info? 9).map (fun i => (i.zero, i.size, i.bytes)) = some (some (.string ⟨#[]⟩), 1, 16) := by kernel_rfl
def PtAt (w : World) (g n : Nat) (F : Nat → Bs) : Prop := ∃ cs, w.heap[g]? = some (.cells cs 9 (0, 0)) ∧ cs.size = n ∧ ∀ j, j < n → cs[j]? = some (.string (bs (F j)))
theorem mk_parts (n : Nat) (hn : n ≤ 100000) : ∃ o : Obj, (∀ w : World, (Instr.makeSlice 79 (.int .i64 (n : Int)) (.int .i64 (n : Int))).run Tryz.prog w = .ok (.slice (some ⟨w.heap.size, 0, none⟩) n n) (w.alloc o)) ∧ (∀ (w' : World) (g : Nat), w'.heap[g]? = some o → PtAt w' g n fun _ => []) := by
  obtain ⟨i, hi, hz0, hz1, hz2⟩ := Gr.info_parts infoStr
  refine ⟨.cells (madeCells #[.string ⟨#[]⟩] n) 9 (0, 0), fun w => ?_, fun w' g hg => ⟨_, hg, size_madeCells _ _, fun j hj => ?_⟩⟩
  · have hb' : (i.bytes : Int) * (n : Int) ≤ 281474976710656 := by rw [hz2]; omega
    have := run_make (P := Tryz.prog) w 79 9 i (.string ⟨#[]⟩) Tryz.underlying79 hi hz0 .i64 .i64 n n (by omega) (Int.le_refl _) hb' (by omega)
    simp only [Int.toNat_natCast, hz1, Nat.mul_one] at this
    exact this
  · unfold madeCells
    simp [hj, bs, Nat.mod_one]
theorem PtAt.lt {w : World} {g n : Nat} {F : Nat → Bs} (h : PtAt w g n F) : g < w.heap.size := by
  obtain ⟨cs, h1, _⟩ := h
  exact (Array.getElem?_eq_some_iff.1 h1).1
theorem PtAt.below {w w' : World} {g n : Nat} {F : Nat → Bs} (h : PtAt w g n F) (hb : Below w.heap.size w w') : PtAt w' g n F := by
  have hl := h.lt
  obtain ⟨cs, h1, h2, h3⟩ := h
  exact ⟨cs, (hb.block g hl).trans h1, h2, h3⟩
theorem PtAt.at {w : World} {g n : Nat} {F : Nat → Bs} (h : PtAt w g n F) {i : Nat} (hi : i < n) : w.cell? ⟨g, i, none⟩ = some (.string (bs (F i))) ∧ w.frozen? ⟨g, i, none⟩ = false := by
  obtain ⟨cs, h1, h2, h3⟩ := h
  refine ⟨?_, ?_⟩
  · simp [World.cell?, h1, h3 i hi]
  · simp [World.frozen?, h1]
theorem PtAt.set {w : World} {g n : Nat} {F : Nat → Bs} (h : PtAt w g n F) {i : Nat} (hi : i < n) (x : Bs) : PtAt (w.setCell ⟨g, i, none⟩ (.string (bs x))) g n (fun j => if j = i then x else F j) := by
  obtain ⟨cs, h1, h2, h3⟩ := h
  refine ⟨_, heap_setCell_same _ g i _ _ (.string (bs x)) h1, by simpa using h2, fun j hj => ?_⟩
  by_cases e : j = i
  · subst e
    dsimp only
    rw [if_pos rfl]
    simp [h2, hj]
  · dsimp only
    rw [if_neg e]
    simp [Ne.symm e, h3 j hj]
theorem PtAt.rd {w : World} {g n : Nat} {F : Nat → Bs} (h : PtAt w g n F) {xs : List Bs} (hn : xs.length = n) (he : ∀ (j : Nat) x, xs[j]? = some x → F j = x) : RdStr w (.slice (some ⟨g, 0, none⟩) n n) xs := by
  refine ⟨g, 0, n, by rw [hn], by omega, h.lt, fun i x hx => ?_⟩
  have hi : i < n := by have := (List.getElem?_eq_some_iff.1 hx).1; omega
  rw [Nat.zero_add, (h.at hi).1, he i x hx]
/-- A row that was built. -/
theorem rd_two (w : World) (a b : Bs) : RdStr (w.alloc (.cells #[.string (bs a), .string (bs b)] 9)) (.slice (some ⟨w.heap.size, 0, none⟩) 2 2) [a, b] := by
  refine ⟨w.heap.size, 0, 2, rfl, Nat.le_refl _, by simp, fun i x hx => ?_⟩
  have h := heap_alloc_new w (.cells #[.string (bs a), .string (bs b)] 9)
  match i, hx with
  | 0, hx => simp at hx; subst hx; unfold World.cell?; rw [h]; rfl
  | 1, hx => simp at hx; subst hx; unfold World.cell?; rw [h]; rfl
  | k + 2, hx => simp at hx
theorem rd_three (w : World) (a b c : Bs) : RdStr (w.alloc (.cells #[.string (bs a), .string (bs b), .string (bs c)] 9)) (.slice (some ⟨w.heap.size, 0, none⟩) 3 3) [a, b, c] := by
  refine ⟨w.heap.size, 0, 3, rfl, Nat.le_refl _, by simp, fun i x hx => ?_⟩
  have h := heap_alloc_new w (.cells #[.string (bs a), .string (bs b), .string (bs c)] 9)
  match i, hx with
  | 0, hx => simp at hx; subst hx; unfold World.cell?; rw [h]; rfl
  | 1, hx => simp at hx; subst hx; unfold World.cell?; rw [h]; rfl
  | 2, hx => simp at hx; subst hx; unfold World.cell?; rw [h]; rfl
  | k + 3, hx => simp at hx
end Go.Proofs.YtdbaacalfbbdiaaGreatDoor.Sc
namespace Go.Proofs.YtdbaacalfbbdiaaGreatDoor
open Go.RowKit
section
variable {P : Program} {ops : Array Oper} {Q : Exit → Act → World → Prop} {md : Region.Mode} {S : World → Prop}
theorem Qt (i : Nat) {oi : Oper} {v : Value} {fuel : Nat} {listed : Array Bool} {a a' : Act} {w : World} (h : S w → wpAnyH P md ops Q S fuel (listed.setIfInBounds i true) a' w) (hi : ops[i]? = some oi := by exact rfl)
    (hs : Region.noSelect ops = true := by kernel_rfl) (hf : Region.free md ops listed i = true := by kernel_rfl) (hr : (Region.ready md ops listed).contains i = true := by kernel_rfl)
    (hw : Region.wanted oi (yielded ops a.tmps) = true := by rfl) (hS : S w := by assumption)
    (hy : ∀ w, S w → (execOp a.eval oi).run P w = .ok (.value v) w := by intro w hSw; (try dsimp only at hSw); first | (go_simp; done) | (go_simp; with_reducible rfl))
    (hE : a.put oi.dst v = a' := by (try simp only [Act.put, List.setIfInBounds_toArray, List.set_cons_zero, List.set_cons_succ, List.getElem_toArray, List.getElem_cons_zero, List.getElem_cons_succ]); rfl)
    (hQ : ∀ c a w, Q (.panic c) (a.put oi.dst v) w → Q (.panic c) a w := by exact fun _ _ _ h => h) : wpAnyH P md ops Q S (fuel + 1) listed a w :=
  wpAnyH_take hi hs hf hr hQ (.inl ⟨hw, hy⟩) hS (by rw [hE]; exact h hS)
theorem Qr (i : Nat) {fuel : Nat} {listed : Array Bool} {a : Act} {w : World} {o : Oper}
    (h : ∀ K' : Act → World → Prop, Shut (∀ a w, S w → (S w → wpAnyH P md ops Q S fuel (listed.setIfInBounds i true) a w) → K' a w) → if Region.wanted o (yielded ops a.tmps) = true then Oper.wp P o a w K' Q else K' (a.put o.dst undef) w)
    (hr : Region.ready md ops listed = [i] := by kernel_rfl) (ho : ops[i]? = some o := by exact rfl) : wpAnyH P md ops Q S (fuel + 1) listed a w :=
  wpAnyH_ready hr (by simp) (AllReadyH.cons ho h AllReadyH.nil)
end
section
universe u
variable {α : Type u}
theorem Qa (l : List α) (i : Nat) (a : α) : l.toArray.setIfInBounds i a = (l.set i a).toArray := List.setIfInBounds_toArray _ _ _
theorem Qb {x : α} {xs : List α} {a : α} : (x :: xs).set 0 a = a :: xs := List.set_cons_zero
theorem Qc {x : α} {xs : List α} {i : Nat} {a : α} : (x :: xs).set (i + 1) a = x :: xs.set i a := List.set_cons_succ
theorem Qd {xs : List α} {i : Nat} (h : i < xs.toArray.size) : xs.toArray[i] = xs[i] := List.getElem_toArray h
theorem Qe (a : α) (ys : List α) (h : 0 < (a :: ys).length) : (a :: ys)[0] = a := List.getElem_cons_zero a ys h
theorem Qf (a : α) (ys : List α) (i : Nat) (h : i + 1 < (a :: ys).length) : (a :: ys)[i + 1] = ys[i]'(Nat.lt_of_succ_lt_succ h) := List.getElem_cons_succ a ys i h
end
end Go.Proofs.YtdbaacalfbbdiaaGreatDoor
