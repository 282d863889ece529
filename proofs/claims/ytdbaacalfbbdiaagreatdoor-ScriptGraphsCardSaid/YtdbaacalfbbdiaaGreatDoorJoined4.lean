/-
  PACKAGE script: rows of texts of the call's own.
  Short words for what is said most often in the walks of regions.
  PACKAGE batch, MEMORY: a slice of Changes as it reads (Rd); one that the call made itself (Own): three cells each.
-/
import Derived.Test.YtdbaacalfbbdiaaGreatDoorJoined3
import Derived.Laws.MakeOwn
import Derived.RowKit
import Derived.KernelRfl
import Derived.OrdersHeld
import Derived.Deep.RegionHeld3
import Derived.Below
import Derived.Test.YtdbaacalfbbdiaaGreatDoorBatchMath
import Derived.Laws.AppendOwn
import Derived.Deep.AppendLies
import Derived.OneCell
import Derived.Lib.Walk
import Derived.Lib.Hide
import Derived.Lib.AtoiErrMem
import Derived.Deep.Draws
namespace Go.Proofs.YtdbaacalfbbdiaaGreatDoor.Sc
open Go.RowKit
set_option linter.unusedVariables false
set_option linter.unusedSimpArgs false
theorem infoStr : (Tryz.prog.info? 9).map (fun i => (i.zero, i.size, i.bytes)) = some (some (.string ⟨#[]⟩), 1, 16) := by kernel_rfl
def PtAt (w : World) (g n : Nat) (F : Nat → Bs) : Prop := ∃ cs, w.heap[g]? = some (.cells cs 9 (0, 0)) ∧ cs.size = n ∧ ∀ j, j < n → cs[j]? = some (.string (bs (F j)))
theorem mk_parts (n : Nat) (hn : n ≤ 100000) : ∃ o : Obj, (∀ w : World, (Instr.makeSlice 79 (.int .i64 (n : Int)) (.int .i64 (n : Int))).run Tryz.prog w = .ok (.slice (some ⟨w.heap.size, 0, none⟩) n n) (w.alloc o)) ∧ (∀ (w' : World) (g : Nat), w'.heap[g]? = some o → PtAt w' g n fun _ => []) := by
  obtain ⟨i, hi, hz0, hz1, hz2⟩ := Gr.info_parts infoStr
  refine ⟨.cells (madeCells #[.string ⟨#[]⟩] n) 9 (0, 0), fun w => ?_, fun w' g hg => ⟨_, hg, size_madeCells _ _, fun j hj => ?_⟩⟩
  · have hb' : (i.bytes : Int) * (n : Int) ≤ 281474976710656 := by rw [hz2]; omega
    have := run_make (P := Tryz.prog) w 79 9 i (.string ⟨#[]⟩) Tryz.underlying79 hi hz0 .i64 .i64 n n (by omega) (Int.le_refl _) hb' (by omega)
    simp only [Int.toNat_natCast, hz1, Nat.mul_one] at this
    exact this
  · unfold madeCells
    simp [hj, bs, Nat.mod_one]
theorem PtAt.lt {w : World} {g n : Nat} {F : Nat → Bs} (h : PtAt w g n F) : g < w.heap.size := by
  obtain ⟨cs, h1, _⟩ := h
  exact (Array.getElem?_eq_some_iff.1 h1).1
theorem PtAt.below {w w' : World} {g n : Nat} {F : Nat → Bs} (h : PtAt w g n F) (hb : Below w.heap.size w w') : PtAt w' g n F := by
  have hl := h.lt
  obtain ⟨cs, h1, h2, h3⟩ := h
  exact ⟨cs, (hb.block g hl).trans h1, h2, h3⟩
theorem PtAt.at {w : World} {g n : Nat} {F : Nat → Bs} (h : PtAt w g n F) {i : Nat} (hi : i < n) : w.cell? ⟨g, i, none⟩ = some (.string (bs (F i))) ∧ w.frozen? ⟨g, i, none⟩ = false := by
  obtain ⟨cs, h1, h2, h3⟩ := h
  refine ⟨?_, ?_⟩
  · simp [World.cell?, h1, h3 i hi]
  · simp [World.frozen?, h1]
theorem PtAt.set {w : World} {g n : Nat} {F : Nat → Bs} (h : PtAt w g n F) {i : Nat} (hi : i < n) (x : Bs) : PtAt (w.setCell ⟨g, i, none⟩ (.string (bs x))) g n (fun j => if j = i then x else F j) := by
  obtain ⟨cs, h1, h2, h3⟩ := h
  refine ⟨_, heap_setCell_same _ g i _ _ (.string (bs x)) h1, by simpa using h2, fun j hj => ?_⟩
  by_cases e : j = i
  · subst e
    dsimp only
    rw [if_pos rfl]
    simp [h2, hj]
  · dsimp only
    rw [if_neg e]
    simp [Ne.symm e, h3 j hj]
theorem PtAt.rd {w : World} {g n : Nat} {F : Nat → Bs} (h : PtAt w g n F) {xs : List Bs} (hn : xs.length = n) (he : ∀ (j : Nat) x, xs[j]? = some x → F j = x) : RdStr w (.slice (some ⟨g, 0, none⟩) n n) xs := by
  refine ⟨g, 0, n, by rw [hn], by omega, h.lt, fun i x hx => ?_⟩
  have hi : i < n := by have := (List.getElem?_eq_some_iff.1 hx).1; omega
  rw [Nat.zero_add, (h.at hi).1, he i x hx]
/-- A row that was built. -/
theorem rd_two (w : World) (a b : Bs) : RdStr (w.alloc (.cells #[.string (bs a), .string (bs b)] 9)) (.slice (some ⟨w.heap.size, 0, none⟩) 2 2) [a, b] := by
  refine ⟨w.heap.size, 0, 2, rfl, Nat.le_refl _, by simp, fun i x hx => ?_⟩
  have h := heap_alloc_new w (.cells #[.string (bs a), .string (bs b)] 9)
  match i, hx with
  | 0, hx => simp at hx; subst hx; unfold World.cell?; rw [h]; rfl
  | 1, hx => simp at hx; subst hx; unfold World.cell?; rw [h]; rfl
  | k + 2, hx => simp at hx
theorem rd_three (w : World) (a b c : Bs) : RdStr (w.alloc (.cells #[.string (bs a), .string (bs b), .string (bs c)] 9)) (.slice (some ⟨w.heap.size, 0, none⟩) 3 3) [a, b, c] := by
  refine ⟨w.heap.size, 0, 3, rfl, Nat.le_refl _, by simp, fun i x hx => ?_⟩
  have h := heap_alloc_new w (.cells #[.string (bs a), .string (bs b), .string (bs c)] 9)
  match i, hx with
  | 0, hx => simp at hx; subst hx; unfold World.cell?; rw [h]; rfl
  | 1, hx => simp at hx; subst hx; unfold World.cell?; rw [h]; rfl
  | 2, hx => simp at hx; subst hx; unfold World.cell?; rw [h]; rfl
  | k + 3, hx => simp at hx
end Go.Proofs.YtdbaacalfbbdiaaGreatDoor.Sc
namespace Go.Proofs.YtdbaacalfbbdiaaGreatDoor
open Go.RowKit
section
variable {P : Program} {ops : Array Oper} {Q : Exit → Act → World → Prop} {md : Region.Mode} {S : World → Prop}
theorem Qt (i : Nat) {oi : Oper} {v : Value} {fuel : Nat} {listed : Array Bool} {a a' : Act} {w : World} (h : S w → wpAnyH P md ops Q S fuel (listed.setIfInBounds i true) a' w) (hi : ops[i]? = some oi := by exact rfl)
    (hs : Region.noSelect ops = true := by kernel_rfl) (hf : Region.free md ops listed i = true := by kernel_rfl) (hr : (Region.ready md ops listed).contains i = true := by kernel_rfl)
    (hw : Region.wanted oi (yielded ops a.tmps) = true := by rfl) (hS : S w := by assumption)
    (hy : ∀ w, S w → (execOp a.eval oi).run P w = .ok (.value v) w := by intro w hSw; (try dsimp only at hSw); first | (go_simp; done) | (go_simp; with_reducible rfl))
    (hE : a.put oi.dst v = a' := by (try simp only [Act.put, List.setIfInBounds_toArray, List.set_cons_zero, List.set_cons_succ, List.getElem_toArray, List.getElem_cons_zero, List.getElem_cons_succ]); rfl)
    (hQ : ∀ c a w, Q (.panic c) (a.put oi.dst v) w → Q (.panic c) a w := by exact fun _ _ _ h => h) : wpAnyH P md ops Q S (fuel + 1) listed a w :=
  wpAnyH_take hi hs hf hr hQ (.inl ⟨hw, hy⟩) hS (by rw [hE]; exact h hS)
theorem Qr (i : Nat) {fuel : Nat} {listed : Array Bool} {a : Act} {w : World} {o : Oper}
    (h : ∀ K' : Act → World → Prop, Shut (∀ a w, S w → (S w → wpAnyH P md ops Q S fuel (listed.setIfInBounds i true) a w) → K' a w) → if Region.wanted o (yielded ops a.tmps) = true then Oper.wp P o a w K' Q else K' (a.put o.dst undef) w)
    (hr : Region.ready md ops listed = [i] := by kernel_rfl) (ho : ops[i]? = some o := by exact rfl) : wpAnyH P md ops Q S (fuel + 1) listed a w :=
  wpAnyH_ready hr (by simp) (AllReadyH.cons ho h AllReadyH.nil)
end
section
universe u
variable {α : Type u}
theorem Qa (l : List α) (i : Nat) (a : α) : l.toArray.setIfInBounds i a = (l.set i a).toArray := List.setIfInBounds_toArray _ _ _
theorem Qb {x : α} {xs : List α} {a : α} : (x :: xs).set 0 a = a :: xs := List.set_cons_zero
theorem Qc {x : α} {xs : List α} {i : Nat} {a : α} : (x :: xs).set (i + 1) a = x :: xs.set i a := List.set_cons_succ
theorem Qd {xs : List α} {i : Nat} (h : i < xs.toArray.size) : xs.toArray[i] = xs[i] := List.getElem_toArray h
theorem Qe (a : α) (ys : List α) (h : 0 < (a :: ys).length) : (a :: ys)[0] = a := List.getElem_cons_zero a ys h
theorem Qf (a : α) (ys : List α) (i : Nat) (h : i + 1 < (a :: ys).length) : (a :: ys)[i + 1] = ys[i]'(Nat.lt_of_succ_lt_succ h) := List.getElem_cons_succ a ys i h
end
end Go.Proofs.YtdbaacalfbbdiaaGreatDoor
namespace Go.Proofs.YtdbaacalfbbdiaaGreatDoor.Batch
open Go.RowKit
set_option linter.unusedVariables false

def cellsL (l : List Ch) : List Value := l.flatMap Ch.cells
theorem cellsL_length (l : List Ch) : (cellsL l).length = l.length * 3 := by
  induction l with
  | nil => rfl
  | cons x r ih => unfold cellsL at *; rw [List.flatMap_cons, List.length_append, ih, List.length_cons]; simp [Ch.cells]; omega
theorem cellsL_append (a b : List Ch) : cellsL (a ++ b) = cellsL a ++ cellsL b := by unfold cellsL; simp
theorem cellsL_snoc (l : List Ch) (x : Ch) : cellsL (l ++ [x]) = cellsL l ++ [.int .i64 x.p, .int .u64 x.t, .int .i64 x.d] := by rw [cellsL_append]; rfl
theorem cellsL_at {l : List Ch} {i : Nat} {x : Ch} (h : l[i]? = some x) : ∀ c, c < 3 → (cellsL l)[i * 3 + c]? = x.cells[c]? := by
  induction l generalizing i with
  | nil => simp at h
  | cons y r ih =>
    intro c hc
    have e : cellsL (y :: r) = y.cells ++ cellsL r := rfl
    have hl : y.cells.length = 3 := rfl
    rw [e]
    cases i with
    | zero =>
      simp at h
      subst h
      rw [List.getElem?_append_left (by rw [hl]; omega), Nat.zero_mul, Nat.zero_add]
    | succ k =>
      rw [List.getElem?_append_right (by rw [hl]; omega), hl, show (k + 1) * 3 + c - 3 = k * 3 + c by omega]
      exact ih (by simpa using h) c hc

/-- Three cells that hold a Change. -/
def At3 (w : World) (b o : Nat) (x : Ch) : Prop := w.cell? ⟨b, o, none⟩ = some (.int .i64 x.p) ∧ w.cell? ⟨b, o + 1, none⟩ = some (.int .u64 x.t) ∧ w.cell? ⟨b, o + 2, none⟩ = some (.int .i64 x.d)
theorem At3.lt {w : World} {b o : Nat} {x : Ch} (h : At3 w b o x) : b < w.heap.size := Lib.lt_of_cell h.1
theorem At3.below {w w' : World} {B b o : Nat} {x : Ch} (h : At3 w b o x) (hw : Below B w w') (hb : b < B) : At3 w' b o x :=
  ⟨(hw.cell (p := ⟨b, o, none⟩) hb).trans h.1, (hw.cell (p := ⟨b, o + 1, none⟩) hb).trans h.2.1, (hw.cell (p := ⟨b, o + 2, none⟩) hb).trans h.2.2⟩

/-- A slice of Changes, as it reads. -/
def Rd (w : World) (v : Value) (l : List Ch) : Prop := ∃ (ao : Option Addr) (cap : Nat), v = .slice ao l.length cap ∧ l.length ≤ cap ∧ cap ≤ 9223372036854775807 ∧ (∀ x ∈ l, x.Wf) ∧
  (l = [] ∨ ∃ b off, ao = some ⟨b, off, none⟩ ∧ ∀ i x, l[i]? = some x → At3 w b (off + i * 3) x)
theorem Rd.below {w w' : World} {v : Value} {l : List Ch} (h : Rd w v l) (hw : Below w.heap.size w w') : Rd w' v l := by
  obtain ⟨ao, cap, rfl, h1, h2, h3, h4⟩ := h
  refine ⟨ao, cap, rfl, h1, h2, h3, ?_⟩
  rcases h4 with h4 | ⟨b, off, ha, h4⟩
  · exact .inl h4
  · exact .inr ⟨b, off, ha, fun i x hx => (h4 i x hx).below hw (h4 i x hx).lt⟩
theorem Rd.len {w : World} {v : Value} {l : List Ch} (h : Rd w v l) : ∃ ao cap, v = .slice ao l.length cap ∧ l.length ≤ 9223372036854775807 := by
  obtain ⟨ao, cap, rfl, h1, h2, _⟩ := h
  exact ⟨ao, cap, rfl, by omega⟩
theorem Rd.wf {w : World} {v : Value} {l : List Ch} (h : Rd w v l) : ∀ x ∈ l, x.Wf := by obtain ⟨_, _, _, _, _, h, _⟩ := h; exact h
theorem Rd.at {w : World} {ao : Option Addr} {n cap : Nat} {l : List Ch} (h : Rd w (.slice ao n cap) l) {i : Nat} {x : Ch} (hx : l[i]? = some x) : ∃ b off, ao = some ⟨b, off, none⟩ ∧ At3 w b (off + i * 3) x := by
  obtain ⟨ao', cap', hv, _, _, _, h4⟩ := h
  simp at hv
  obtain ⟨rfl, rfl, rfl⟩ := hv
  rcases h4 with h4 | ⟨b, off, ha, h4⟩
  · subst h4; simp at hx
  · exact ⟨b, off, ha, h4 i x hx⟩
theorem Rd.nil (w : World) : Rd w (.slice none 0 0) [] := ⟨none, 0, rfl, by simp, by simp, by simp, .inl rfl⟩
theorem at_of {l : List Ch} {i : Nat} (h : i < l.length) : ∃ x, l[i]? = some x ∧ x ∈ l := ⟨l[i], List.getElem?_eq_getElem h, List.getElem_mem h⟩

/-- .. at a plain address, if it has one. -/
def Sl (w : World) (v : Value) (l : List Ch) : Prop := ∃ (ao : Option Addr) (cap : Nat), v = .slice ao l.length cap ∧ (ao = none ∧ l = [] ∨ ∃ b off, ao = some ⟨b, off, none⟩ ∧ ∀ i x, l[i]? = some x → At3 w b (off + i * 3) x) ∧ l.length ≤ cap ∧ cap ≤ 9223372036854775807 ∧ ∀ x ∈ l, x.Wf
theorem Sl.rd {w : World} {v : Value} {l : List Ch} (h : Sl w v l) : Rd w v l := by
  obtain ⟨ao, cap, rfl, h1, h2, h3, h4⟩ := h
  refine ⟨ao, cap, rfl, h2, h3, h4, ?_⟩
  rcases h1 with ⟨_, h1⟩ | h1
  · exact .inl h1
  · exact .inr h1
theorem Sl.below {w w' : World} {v : Value} {l : List Ch} (h : Sl w v l) (hw : Below w.heap.size w w') : Sl w' v l := by
  obtain ⟨ao, cap, rfl, h1, h2, h3, h4⟩ := h
  refine ⟨ao, cap, rfl, ?_, h2, h3, h4⟩
  rcases h1 with h1 | ⟨b, off, ha, h1⟩
  · exact .inl h1
  · exact .inr ⟨b, off, ha, fun i x hx => (h1 i x hx).below hw (h1 i x hx).lt⟩
theorem Sl.wf {w : World} {v : Value} {l : List Ch} (h : Sl w v l) : ∀ x ∈ l, x.Wf := h.rd.wf
theorem Sl.nil (w : World) : Sl w (.slice none 0 0) [] := ⟨none, 0, rfl, .inl ⟨rfl, rfl⟩, by simp, by simp, by simp⟩
theorem cells_of_at {w : World} {b off : Nat} {l : List Ch} (h : ∀ i x, l[i]? = some x → At3 w b (off + i * 3) x) : ∀ j u, (cellsL l)[j]? = some u → w.cell? ⟨b, off + j, none⟩ = some u := by
  intro j u hu
  have hj : j < l.length * 3 := by rw [← cellsL_length]; exact (List.getElem?_eq_some_iff.1 hu).1
  have hi : j / 3 < l.length := by omega
  obtain ⟨x, hx, _⟩ := at_of hi
  have h3 := h _ _ hx
  have hc := cellsL_at hx (j % 3) (Nat.mod_lt _ (by omega))
  rw [show j / 3 * 3 + j % 3 = j by omega, hu] at hc
  rcases (show j % 3 = 0 ∨ j % 3 = 1 ∨ j % 3 = 2 by omega) with h0 | h0 | h0
  · rw [h0] at hc
    obtain rfl := Option.some.inj hc
    have := h3.1
    rw [show off + j / 3 * 3 = off + j by omega] at this
    exact this
  · rw [h0] at hc
    obtain rfl := Option.some.inj hc
    have := h3.2.1
    rw [show off + j / 3 * 3 + 1 = off + j by omega] at this
    exact this
  · rw [h0] at hc
    obtain rfl := Option.some.inj hc
    have := h3.2.2
    rw [show off + j / 3 * 3 + 2 = off + j by omega] at this
    exact this
theorem cellsL_one (l : List Ch) : ∀ u ∈ cellsL l, u.oneCell' = true := by
  intro u hu
  unfold cellsL at hu
  obtain ⟨x, _, hx⟩ := List.mem_flatMap.1 hu
  simp [Ch.cells] at hx
  rcases hx with rfl | rfl | rfl <;> rfl

/-- Changes in memory of the call's own. -/
def Own (w : World) (base : Nat) (T : TypeId) (v : Value) (l : List Ch) : Prop := w.ownsRow base T 3 v l.length (cellsL l)
theorem Own.nil (w : World) (base : Nat) (T : TypeId) : Own w base T (.slice none 0 0) [] := World.ownsRow_nil _ _ _ _
theorem Own.form {w : World} {base : Nat} {T : TypeId} {v : Value} {l : List Ch} (h : Own w base T v l) : (l = [] ∧ v = .slice none 0 0) ∨ ∃ g cap, v = .slice (some ⟨g, 0, none⟩) l.length cap ∧ base ≤ g ∧ g < w.heap.size ∧ l.length ≤ cap ∧ cap ≤ 9223372036854775807 := by
  rcases h.2 with ⟨hv, hn⟩ | ⟨g, cap, cur, hv, hb, hg, hc, hm, _⟩
  · exact .inl ⟨List.length_eq_zero_iff.1 hn, hv⟩
  · exact .inr ⟨g, cap, hv, hb, (Array.getElem?_eq_some_iff.1 hg).1, hc, by unfold maxLen at hm; exact hm⟩
theorem Own.at {w : World} {base g n cap : Nat} {T : TypeId} {l : List Ch} (h : Own w base T (.slice (some ⟨g, 0, none⟩) n cap) l) {i : Nat} {x : Ch} (hx : l[i]? = some x) : At3 w g (i * 3) x := by
  have hc : ∀ c u, c < 3 → x.cells[c]? = some u → w.cell? ⟨g, i * 3 + c, none⟩ = some u := by
    intro c u hc hu
    have := World.ownsRow.cells h (g := g) rfl (i * 3 + c) u (by rw [cellsL_at hx c hc]; exact hu)
    rw [show ((⟨g, 0, none⟩ : Addr).add (i * 3 + c)) = ⟨g, i * 3 + c, none⟩ by unfold Addr.add; split <;> simp_all] at this
    exact this
  exact ⟨hc 0 _ (by omega) rfl, hc 1 _ (by omega) rfl, hc 2 _ (by omega) rfl⟩
theorem Own.free {w : World} {base g n cap : Nat} {T : TypeId} {l : List Ch} (h : Own w base T (.slice (some ⟨g, 0, none⟩) n cap) l) (o : Nat) : w.frozen? ⟨g, o, none⟩ = false := by
  rcases h.2 with ⟨hv, _⟩ | ⟨g', cap', cur, hv, _, hg, _⟩
  · simp at hv
  · simp at hv
    obtain ⟨rfl, _⟩ := hv
    simp [World.frozen?, hg]
theorem Own.rd {w : World} {base : Nat} {T : TypeId} {v : Value} {l : List Ch} (h : Own w base T v l) (hw : ∀ x ∈ l, x.Wf) : Rd w v l := by
  rcases h.form with ⟨rfl, rfl⟩ | ⟨g, cap, rfl, _, _, hc, hm⟩
  · exact Rd.nil w
  · exact ⟨some ⟨g, 0, none⟩, cap, rfl, hc, hm, hw, .inr ⟨g, 0, rfl, fun i x hx => by rw [Nat.zero_add]; exact h.at hx⟩⟩
theorem Own.sl {w : World} {base : Nat} {T : TypeId} {v : Value} {l : List Ch} (h : Own w base T v l) (hw : ∀ x ∈ l, x.Wf) : Sl w v l := by
  rcases h.form with ⟨rfl, rfl⟩ | ⟨g, cap, rfl, _, _, hc, hm⟩
  · exact Sl.nil w
  · exact ⟨some ⟨g, 0, none⟩, cap, rfl, .inr ⟨g, 0, rfl, fun i x hx => by rw [Nat.zero_add]; exact h.at hx⟩, hc, hm, hw⟩
theorem Own.below {w w' : World} {base : Nat} {T : TypeId} {v : Value} {l : List Ch} (h : Own w base T v l) (hw : Below w.heap.size w w') : Own w' base T v l := by
  refine ⟨h.1, ?_⟩
  rcases h.2 with h2 | ⟨g, cap, cur, rfl, hb, hg, rest⟩
  · exact .inl h2
  · exact .inr ⟨g, cap, cur, rfl, hb, (hw.block g (Array.getElem?_eq_some_iff.1 hg).1).trans hg, rest⟩
theorem Own.draw {w : World} {base : Nat} {T : TypeId} {v : Value} {l : List Ch} (h : Own w base T v l) (n : Nat) : Own (w.drewN n) base T v l := h
theorem Own.mono {w : World} {base base' : Nat} {T : TypeId} {v : Value} {l : List Ch} (h : Own w base T v l) (hb : base' ≤ base) : Own w base' T v l := by
  refine ⟨h.1, ?_⟩
  rcases h.2 with h2 | ⟨g, cap, cur, rfl, hg, rest⟩
  · exact .inl h2
  · exact .inr ⟨g, cap, cur, rfl, by omega, rest⟩
theorem cellsL_set {l : List Ch} {i : Nat} {x y : Ch} (h : l[i]? = some x) : cellsL (l.set i y) = (((cellsL l).set (i * 3) (.int .i64 y.p)).set (i * 3 + 1) (.int .u64 y.t)).set (i * 3 + 2) (.int .i64 y.d) := by
  induction l generalizing i with
  | nil => simp at h
  | cons z r ih =>
    cases i with
    | zero => rfl
    | succ k =>
      have e : ∀ q, cellsL (z :: q) = .int .i64 z.p :: .int .u64 z.t :: .int .i64 z.d :: cellsL q := fun _ => rfl
      rw [List.set_cons_succ, e, e, ih (by simpa using h), show (k + 1) * 3 = k * 3 + 1 + 1 + 1 by omega]
      rfl
theorem cellsL_setD {l : List Ch} {i : Nat} {x : Ch} (d : Int) (h : l[i]? = some x) : cellsL (l.set i ⟨x.p, x.t, d⟩) = (cellsL l).set (i * 3 + 2) (.int .i64 d) := by
  rw [cellsL_set h]
  have h0 := cellsL_at h 0 (by omega)
  have h1 := cellsL_at h 1 (by omega)
  simp only [Ch.cells, Nat.add_zero] at h0 h1
  have s0 : (cellsL l).set (i * 3) (.int .i64 x.p) = cellsL l := by
    obtain ⟨hl, he⟩ := List.getElem?_eq_some_iff.1 (show (cellsL l)[i * 3]? = some (.int .i64 x.p) from h0)
    rw [← he, List.set_getElem_self]
  have s1 : (cellsL l).set (i * 3 + 1) (.int .u64 x.t) = cellsL l := by
    obtain ⟨hl, he⟩ := List.getElem?_eq_some_iff.1 (show (cellsL l)[i * 3 + 1]? = some (.int .u64 x.t) from h1)
    rw [← he, List.set_getElem_self]
  simp only [s0, s1]
theorem own_set {w : World} {base g n cap m : Nat} {T : TypeId} {size : Nat} {xs : List Value} (h : w.ownsRow base T size (.slice (some ⟨g, 0, none⟩) m cap) n xs) {j : Nat} (hj : j < n * size) (u : Value) :
    (w.setCell ⟨g, j, none⟩ u).ownsRow base T size (.slice (some ⟨g, 0, none⟩) m cap) n (xs.set j u) := by
  refine ⟨by rw [List.length_set]; exact h.1, ?_⟩
  rcases h.2 with ⟨hv, _⟩ | ⟨g', cap', cur, hv, hb, hg, hn, hc, hs, ht⟩
  · simp at hv
  · simp at hv
    obtain ⟨rfl, rfl, rfl⟩ := hv
    refine .inr ⟨g, cap, cur.setIfInBounds j u, rfl, hb, heap_setCell_same w g j cur T u hg, hn, hc, by simp [hs], ?_⟩
    rw [Array.toList_setIfInBounds, List.take_set, ht]
theorem Own.setD {w : World} {base g n cap : Nat} {T : TypeId} {l : List Ch} (h : Own w base T (.slice (some ⟨g, 0, none⟩) n cap) l) {i : Nat} {x : Ch} (hx : l[i]? = some x) (d : Int) :
    Own (w.setCell ⟨g, i * 3 + 2, none⟩ (.int .i64 d)) base T (.slice (some ⟨g, 0, none⟩) n cap) (l.set i ⟨x.p, x.t, d⟩) := by
  have hl : i < l.length := (List.getElem?_eq_some_iff.1 hx).1
  unfold Own
  rw [cellsL_setD d hx, List.length_set]
  exact own_set h (by omega) _
theorem Own.put {w : World} {base g n cap : Nat} {T : TypeId} {l : List Ch} (h : Own w base T (.slice (some ⟨g, 0, none⟩) n cap) l) {i : Nat} {x : Ch} (hx : l[i]? = some x) (y : Ch) :
    Own (((w.setCell ⟨g, i * 3, none⟩ (.int .i64 y.p)).setCell ⟨g, i * 3 + 1, none⟩ (.int .u64 y.t)).setCell ⟨g, i * 3 + 2, none⟩ (.int .i64 y.d)) base T (.slice (some ⟨g, 0, none⟩) n cap) (l.set i y) := by
  have hl : i < l.length := (List.getElem?_eq_some_iff.1 hx).1
  unfold Own
  rw [cellsL_set hx, List.length_set]
  exact own_set (own_set (own_set h (by omega) _) (by omega) _) (by omega) _
theorem setD_list {l : List Ch} {i : Nat} {x : Ch} {d : Int} : (l.set i ⟨x.p, x.t, d⟩).length = l.length := by simp
end Go.Proofs.YtdbaacalfbbdiaaGreatDoor.Batch
