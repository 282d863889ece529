/-
  PACKAGE graph, PLAIN MATHEMATICS: the rounds of the program's ways, cell by cell.
-/
import Derived.Test.YtdbaacalfbbdiaaGreatDoorGMem
import Derived.Test.YtdbaacalfbbdiaaGreatDoorStamp
namespace Go.Proofs.YtdbaacalfbbdiaaGreatDoor.Gr
open Go.RowKit
set_option linter.unusedVariables false

theorem plusN_plusF (a b : Int) : Stamp.plusF a b = plusN a b := rfl
theorem upd_same (M : Nat → Nat → Int) (a b : Nat) (v : Int) : upd M a b v a b = v := if_pos ⟨rfl, rfl⟩
theorem upd_other {M : Nat → Nat → Int} {a b i j : Nat} {v : Int} (h : ¬ (i = a ∧ j = b)) : upd M a b v i j = M i j := if_neg h
theorem upd_le {M : Nat → Nat → Int} {a b : Nat} {v : Int} (h : v ≤ M a b) (i j : Nat) : upd M a b v i j ≤ M i j := by
  by_cases e : i = a ∧ j = b
  · obtain ⟨rfl, rfl⟩ := e; rw [upd_same]; exact h
  · rw [upd_other e]; exact Int.le_refl _
def SoundM (E : List Ed) (z : Bool) (n : Nat) (M : Nat → Nat → Int) : Prop := ∀ i j : Nat, i < n → j < n → Sound E z i j (M i j)
theorem SoundM.upd {E : List Ed} {z : Bool} {n : Nat} {M : Nat → Nat → Int} (h : SoundM E z n M) {a b : Nat} {v : Int} (hv : Sound E z a b v) : SoundM E z n (upd M a b v) := by
  intro i j hi hj
  by_cases e : i = a ∧ j = b
  · obtain ⟨rfl, rfl⟩ := e; rw [upd_same]; exact hv
  · rw [upd_other e]; exact h i j hi hj
theorem SoundM.bd {E : List Ed} {z : Bool} {n : Nat} {M : Nat → Nat → Int} (h : SoundM E z n M) {i j : Nat} (hi : i < n) (hj : j < n) : 0 ≤ M i j ∧ M i j ≤ 18446744073709551615 := (h i j hi hj).1

/-! the edges, one by one -/
def Ph0 (E : List Ed) (n k : Nat) (M : Nat → Nat → Int) : Prop := SoundM E false n M ∧ ∀ (e : Ed) (f t : Nat), e ∈ E.take k → e.f = f → e.t = t → M f t ≤ e.a
theorem Ph0.start (E : List Ed) (n : Nat) : Ph0 E n 0 (fun _ _ => 18446744073709551615) := ⟨fun i j _ _ => Sound.never _ _ _ _, fun e f t h => by simp at h⟩
theorem Ph0.step {E : List Ed} {n k : Nat} {M : Nat → Nat → Int} (hE : Fits E n) (h : Ph0 E n k M) {e : Ed} {f t : Nat} (he : E[k]? = some e) (hf : e.f = f) (ht : e.t = t) : Ph0 E n (k + 1) (upd M f t (min (M f t) e.a)) := by
  have hm := List.mem_of_getElem? he
  have hb := hE e hm
  refine ⟨h.1.upd (Sound.min (h.1 f t (by omega) (by omega)) (by rw [← hf, ← ht]; exact Sound.edge hE false hm)), fun e' f' t' he' hf' ht' => ?_⟩
  rw [take_succ' he] at he'
  rcases List.mem_append.1 he' with he' | he'
  · exact Int.le_trans (upd_le (Int.min_le_left _ _) _ _) (h.2 e' f' t' he' hf' ht')
  · simp at he'
    subst he'
    have e1 : f' = f := by omega
    have e2 : t' = t := by omega
    subst e1 e2
    rw [upd_same]
    exact Int.min_le_right _ _

/-! by one more port between -/
def Ph (E : List Ed) (n b x y : Nat) (M : Nat → Nat → Int) : Prop :=
  SoundM E false n M ∧ (∀ i j : Nat, i < n → j < n → Via E b i j (M i j)) ∧ ∀ i j : Nat, i < n → j < n → (i < x ∨ i = x ∧ j < y) → Via E (b + 1) i j (M i j)
theorem Ph0.done {E : List Ed} {n k : Nat} {M : Nat → Nat → Int} (hE : Fits E n) (h : Ph0 E n k M) (hk : E.length ≤ k) : Ph E n 0 0 0 M := by
  refine ⟨h.1, fun i j _ _ => Via.zero hE fun e he hf ht => h.2 e i j (by rw [take_all hk]; exact he) hf ht, fun i j _ _ h => ?_⟩
  omega
theorem Ph.step {E : List Ed} {n b x y : Nat} {M : Nat → Nat → Int} (hE : Fits E n) (h : Ph E n b x y M) (hb : b < n) (hx : x < n) (hy : y < n) : Ph E n b x (y + 1) (upd M x y (min (M x y) (plusN (M x b) (M b y)))) := by
  have hle := upd_le (M := M) (a := x) (b := y) (v := min (M x y) (plusN (M x b) (M b y))) (Int.min_le_left _ _)
  refine ⟨h.1.upd (Sound.min (h.1 x y hx hy) (Sound.plus (h.1 x b hx hb) (h.1 b y hb hy))), fun i j hi hj => (h.2.1 i j hi hj).mono (hle i j), fun i j hi hj hd => ?_⟩
  by_cases e : i = x ∧ j = y
  · obtain ⟨rfl, rfl⟩ := e
    rw [upd_same]
    exact Via.step hE (h.1 i b hi hb).1.2 (h.2.1 i j hi hj) (h.2.1 i b hi hb) (h.2.1 b j hb hj)
  · exact (h.2.2 i j hi hj (by omega)).mono (hle i j)
theorem Ph.row {E : List Ed} {n b x y : Nat} {M : Nat → Nat → Int} (h : Ph E n b x y M) (hy : n ≤ y) : Ph E n b (x + 1) 0 M := ⟨h.1, h.2.1, fun i j hi hj hd => h.2.2 i j hi hj (by omega)⟩
theorem Ph.next {E : List Ed} {n b x y : Nat} {M : Nat → Nat → Int} (h : Ph E n b x y M) (hx : n ≤ x) : Ph E n (b + 1) 0 0 M := ⟨h.1, fun i j hi hj => h.2.2 i j hi hj (by omega), fun i j hi hj hd => by omega⟩
/-- The least of all ways. -/
def LeastM (E : List Ed) (z : Bool) (n : Nat) (M : Nat → Nat → Int) : Prop := ∀ i j : Nat, i < n → j < n → IsLeast E z i j (M i j)
theorem Ph.done {E : List Ed} {n b x y : Nat} {M : Nat → Nat → Int} (hE : Fits E n) (h : Ph E n b x y M) (hb : b = n) : LeastM E false n M := fun i j hi hj => by subst hb; exact Via.all hE (h.1 i j hi hj) (h.2.1 i j hi hj)
theorem LeastM.sound {E : List Ed} {z : Bool} {n : Nat} {M : Nat → Nat → Int} (h : LeastM E z n M) : SoundM E z n M := fun i j hi hj => (h i j hi hj).1
theorem LeastM.one {E : List Ed} {z : Bool} {n : Nat} {M M' : Nat → Nat → Int} (h : LeastM E z n M) (h' : LeastM E z n M') : ∀ i j, i < n → j < n → M i j = M' i j := fun i j hi hj => (h i j hi hj).one (h' i j hi hj)

/-! the document's: by one more edge -/
def Rd1 (E : List Ed) (n r x k : Nat) (M : Nat → Nat → Int) : Prop :=
  SoundM E true n M ∧ (∀ i j : Nat, i < n → j < n → Len E r i j (M i j)) ∧ (∀ i j : Nat, i < n → j < n → i < x → Len E (r + 1) i j (M i j)) ∧ ∀ (e : Ed) (t : Nat), x < n → e ∈ E.take k → e.t = t → Ends E r x e (M x t)
def diag (i j : Nat) : Int := if i = j then 0 else 18446744073709551615
theorem Rd1.start (E : List Ed) (n : Nat) : Rd1 E n 0 0 0 diag := by
  refine ⟨fun i j _ _ => ?_, fun i j _ _ => Len.zero fun h => ?_, fun i j _ _ h => by omega, fun e t _ h => by simp at h⟩
  · unfold diag
    by_cases e : i = j
    · subst e; rw [if_pos rfl]; exact Sound.here E i
    · rw [if_neg e]; exact Sound.never _ _ _ _
  · have : i = j := by omega
    subst this
    unfold diag
    rw [if_pos rfl]
    exact Int.le_refl _
theorem Rd1.step {E : List Ed} {n r x k : Nat} {M : Nat → Nat → Int} (hE : Fits E n) (h : Rd1 E n r x k M) (hx : x < n) {e : Ed} {f t : Nat} (he : E[k]? = some e) (hf : e.f = f) (ht : e.t = t) (hlt : plusN (M x f) e.a < M x t) : Rd1 E n r x (k + 1) (upd M x t (plusN (M x f) e.a)) := by
  have hm := List.mem_of_getElem? he
  have hb := hE e hm
  have hfn : f < n := by omega
  have htn : t < n := by omega
  have hle := upd_le (M := M) (a := x) (b := t) (v := plusN (M x f) e.a) (by omega)
  have hs : Sound E true x t (plusN (M x f) e.a) := by
    have := Sound.plus (h.1 x f hx hfn) (show Sound E true f t e.a by rw [← hf, ← ht]; exact Sound.edge hE true hm)
    exact this
  refine ⟨h.1.upd hs, fun i j hi hj => (h.2.1 i j hi hj).mono (Nat.le_refl _) (hle i j), fun i j hi hj hd => (h.2.2.1 i j hi hj hd).mono (Nat.le_refl _) (hle i j), fun e' t' _ he' ht' => ?_⟩
  rw [take_succ' he] at he'
  rcases List.mem_append.1 he' with he' | he'
  · exact (h.2.2.2 e' t' hx he' ht').mono (hle x t')
  · simp at he'
    subst he'
    have e2 : t' = t := by omega
    subst e2
    rw [upd_same]
    exact Ends.of (h := by rw [hf]; exact h.2.1 x f hx hfn) (h.1 x f hx hfn).1.2 (Int.le_refl _)
theorem Rd1.skip {E : List Ed} {n r x k : Nat} {M : Nat → Nat → Int} (hE : Fits E n) (h : Rd1 E n r x k M) (hx : x < n) {e : Ed} {f t : Nat} (he : E[k]? = some e) (hf : e.f = f) (ht : e.t = t) (hlt : ¬ plusN (M x f) e.a < M x t) : Rd1 E n r x (k + 1) M := by
  have hm := List.mem_of_getElem? he
  have hb := hE e hm
  have hfn : f < n := by omega
  refine ⟨h.1, h.2.1, h.2.2.1, fun e' t' _ he' ht' => ?_⟩
  rw [take_succ' he] at he'
  rcases List.mem_append.1 he' with he' | he'
  · exact h.2.2.2 e' t' hx he' ht'
  · simp at he'
    subst he'
    have e2 : t' = t := by omega
    subst e2
    exact Ends.of (h := by rw [hf]; exact h.2.1 x f hx hfn) (h.1 x f hx hfn).1.2 (by omega)
theorem Rd1.row {E : List Ed} {n r x k : Nat} {M : Nat → Nat → Int} (h : Rd1 E n r x k M) (hk : E.length ≤ k) (hx : x < n) : Rd1 E n r (x + 1) 0 M := by
  refine ⟨h.1, h.2.1, fun i j hi hj hd => ?_, fun e t _ h => by simp at h⟩
  by_cases e : i = x
  · subst e
    exact (h.2.1 i j hi hj).succ fun e he ht => h.2.2.2 e j hi (by rw [take_all hk]; exact he) ht
  · exact h.2.2.1 i j hi hj (by omega)
theorem Rd1.next {E : List Ed} {n r x k : Nat} {M : Nat → Nat → Int} (h : Rd1 E n r x k M) (hx : n ≤ x) : Rd1 E n (r + 1) 0 0 M :=
  ⟨h.1, fun i j hi hj => h.2.2.1 i j hi hj (by omega), fun i j _ _ hd => by omega, fun e t _ h => by simp at h⟩
theorem Rd1.done {E : List Ed} {n r x k : Nat} {M : Nat → Nat → Int} (hE : Fits E n) (h : Rd1 E n r x k M) (hr : r = n) : LeastM E true n M := fun i j hi hj => by subst hr; exact Len.all hE (h.1 i j hi hj) (h.2.1 i j hi hj)

/-! rows being made -/
structure RowsTo (w : World) (base g : Nat) (r : Nat → Nat) (n k : Nat) (f : Nat → Nat → Int) : Prop where
  top : w.rowIs g 127 n (fun i => if i < k then .slice (some ⟨r i, 0, none⟩) n n else .slice none 0 0)
  row : ∀ i, i < k → w.rowIs (r i) 22 n (fun j => .int .u64 (f i j))
  inj : ∀ i i', i < k → i' < k → r i = r i' → i = i'
  far : ∀ i, i < k → r i ≠ g
  lo : base ≤ g
  los : ∀ i, i < k → base ≤ r i
theorem RowsTo.below {w w' : World} {base g : Nat} {r : Nat → Nat} {n k : Nat} {f : Nat → Nat → Int} (h : RowsTo w base g r n k f) (hw : Below w.heap.size w w') : RowsTo w' base g r n k f :=
  ⟨h.top.of_block (hw.block _ h.top.lt), fun i hi => (h.row i hi).of_block (hw.block _ (h.row i hi).lt), h.inj, h.far, h.lo, h.los⟩
theorem RowsTo.step {w w' : World} {base g b : Nat} {r : Nat → Nat} {n k : Nat} {f : Nat → Nat → Int} (h : RowsTo w base g r n k f) (hw : Below w.heap.size w w') (hb : w.heap.size ≤ b) (hrow : w'.rowIs b 22 n (fun j => .int .u64 (f k j))) (hbase : base ≤ w.heap.size) :
    RowsTo (w'.setCell ⟨g, k, none⟩ (.slice (some ⟨b, 0, none⟩) n n)) base g (fun i => if i = k then b else r i) n (k + 1) f := by
  have h' := h.below hw
  have hg := h.top.lt
  have hbg : b ≠ g := by omega
  have hlt : ∀ i, i < k → r i < w.heap.size := fun i hi => (h.row i hi).lt
  refine ⟨(h'.top.set k _).congr fun i hi => ?_, fun i hi => ?_, fun i i' hi hi' e => ?_, fun i hi => ?_, h.lo, fun i hi => ?_⟩
  · by_cases e : i = k
    · subst e; rw [if_pos rfl, if_pos (by omega), if_pos rfl]
    · rw [if_neg e]
      by_cases e2 : i < k
      · rw [if_pos e2, if_pos (by omega), if_neg e]
      · rw [if_neg e2, if_neg (by omega)]
  · by_cases e : i = k
    · subst e
      show World.rowIs _ (if i = i then b else r i) _ _ _
      rw [if_pos rfl]
      exact hrow.setOther hbg _
    · show World.rowIs _ (if i = k then b else r i) _ _ _
      rw [if_neg e]
      exact (h'.row i (by omega)).setOther (h.far i (by omega)) _
  · have e : (if i = k then b else r i) = (if i' = k then b else r i') := e
    by_cases e1 : i = k
    · by_cases e2 : i' = k
      · omega
      · rw [if_pos e1, if_neg e2] at e
        have := hlt i' (by omega)
        omega
    · by_cases e2 : i' = k
      · rw [if_neg e1, if_pos e2] at e
        have := hlt i (by omega)
        omega
      · rw [if_neg e1, if_neg e2] at e
        exact h.inj i i' (by omega) (by omega) e
  · show (if i = k then b else r i) ≠ g
    by_cases e1 : i = k
    · rw [if_pos e1]; exact hbg
    · rw [if_neg e1]; exact h.far i (by omega)
  · show base ≤ (if i = k then b else r i)
    by_cases e1 : i = k
    · rw [if_pos e1]; omega
    · rw [if_neg e1]; exact h.los i (by omega)
theorem RowsTo.done {w : World} {base g : Nat} {r : Nat → Nat} {n : Nat} {f : Nat → Nat → Int} (h : RowsTo w base g r n n f) : MatF w base g r n f :=
  ⟨h.top.congr fun i hi => if_pos hi, h.row, h.inj, h.far, h.lo, h.los⟩
theorem RowsTo.start {w : World} {base g n : Nat} {f : Nat → Nat → Int} (h : w.rowIs g 127 n (fun _ => .slice none 0 0)) (hb : base ≤ g) : RowsTo w base g (fun _ => 0) n 0 f :=
  ⟨h.congr fun i hi => (if_neg (by omega)).symm, fun i hi => by omega, fun i i' hi => by omega, fun i hi => by omega, hb, fun i hi => by omega⟩
end Go.Proofs.YtdbaacalfbbdiaaGreatDoor.Gr
