/-
  YtlkljeedlkbkgaaGreatDoorGWayMath
  YtlkljeedlkbkgaaGreatDoorGErr
  YtlkljeedlkbkgaaGreatDoorClClone
  YtlkljeedlkbkgaaGreatDoorClCounts
-/
import Derived.Test.YtlkljeedlkbkgaaGreatDoorJoined1
import Derived.Test.YtlkljeedlkbkgaaGreatDoorJoined10
import Derived.Test.YtlkljeedlkbkgaaGreatDoorJoined6
import Derived.Test.YtlkljeedlkbkgaaGreatDoorJoined5
import Derived.Deep.RegionHeld3
import Derived.Test.YtlkljeedlkbkgaaGreatDoorJoined7
namespace Go.Proofs.YtlkljeedlkbkgaaGreatDoor.Gr
open Go.RowKit
set_option linter.unusedVariables false
theorem upd_same (M : Nat → Nat → Int) (a b : Nat) (v : Int) : upd M a b v a b = v := if_pos ⟨rfl, rfl⟩
theorem upd_other {M : Nat → Nat → Int} {a b i j : Nat} {v : Int} (h : ¬ (i = a ∧ j = b)) : upd M a b v i j = M i j := if_neg h
theorem upd_le {M : Nat → Nat → Int} {a b : Nat} {v : Int} (h : v ≤ M a b) (i j : Nat) : upd M a b v i j ≤ M i j := by
  by_cases e : i = a ∧ j = b
  · obtain ⟨rfl, rfl⟩ := e; rw [upd_same]; exact h
  · rw [upd_other e]; exact Int.le_refl _
def SoundM (E : List Ed) (z : Bool) (n : Nat) (M : Nat → Nat → Int) : Prop := ∀ i j : Nat, i < n → j < n → Sound E z i j (M i j)
theorem SoundM.upd {E : List Ed} {z : Bool} {n : Nat} {M : Nat → Nat → Int} (h : SoundM E z n M) {a b : Nat} {v : Int} (hv : Sound E z a b v) : SoundM E z n (upd M a b v) := by
  intro i j hi hj
  by_cases e : i = a ∧ j = b
  · obtain ⟨rfl, rfl⟩ := e; rw [upd_same]; exact hv
  · rw [upd_other e]; exact h i j hi hj
theorem SoundM.bd {E : List Ed} {z : Bool} {n : Nat} {M : Nat → Nat → Int} (h : SoundM E z n M) {i j : Nat} (hi : i < n) (hj : j < n) : 0 ≤ M i j ∧ M i j ≤ 18446744073709551615 := (h i j hi hj).1
def Ph0 (E : List Ed) (n k : Nat) (M : Nat → Nat → Int) : Prop := SoundM E false n M ∧ ∀ (e : Ed) (f t : Nat), e ∈ E.take k → e.f = f → e.t = t → M f t ≤ e.a
theorem Ph0.start (E : List Ed) (n : Nat) : Ph0 E n 0 (fun _ _ => 18446744073709551615) := ⟨fun i j _ _ => Sound.never _ _ _ _, fun e f t h => by simp at h⟩
theorem Ph0.step {E : List Ed} {n k : Nat} {M : Nat → Nat → Int} (hE : Fits E n) (h : Ph0 E n k M) {e : Ed} {f t : Nat} (he : E[k]? = some e) (hf : e.f = f) (ht : e.t = t) : Ph0 E n (k + 1) (upd M f t (min (M f t) e.a)) := by
  have hm := List.mem_of_getElem? he
  have hb := hE e hm
  refine ⟨h.1.upd (Sound.min (h.1 f t (by omega) (by omega)) (by rw [← hf, ← ht]; exact Sound.edge hE false hm)), fun e' f' t' he' hf' ht' => ?_⟩
  rw [take_succ' he] at he'
  rcases List.mem_append.1 he' with he' | he'
  · exact Int.le_trans (upd_le (Int.min_le_left _ _) _ _) (h.2 e' f' t' he' hf' ht')
  · simp at he'
    subst he'
    have e1 : f' = f := by omega
    have e2 : t' = t := by omega
    subst e1 e2
    rw [upd_same]
    exact Int.min_le_right _ _
def Ph (E : List Ed) (n b x y : Nat) (M : Nat → Nat → Int) : Prop :=
  SoundM E false n M ∧ (∀ i j : Nat, i < n → j < n → Via E b i j (M i j)) ∧ ∀ i j : Nat, i < n → j < n → (i < x ∨ i = x ∧ j < y) → Via E (b + 1) i j (M i j)
theorem Ph0.done {E : List Ed} {n k : Nat} {M : Nat → Nat → Int} (hE : Fits E n) (h : Ph0 E n k M) (hk : E.length ≤ k) : Ph E n 0 0 0 M := by
  refine ⟨h.1, fun i j _ _ => Via.zero hE fun e he hf ht => h.2 e i j (by rw [take_all hk]; exact he) hf ht, fun i j _ _ h => ?_⟩
  omega
theorem Ph.step {E : List Ed} {n b x y : Nat} {M : Nat → Nat → Int} (hE : Fits E n) (h : Ph E n b x y M) (hb : b < n) (hx : x < n) (hy : y < n) : Ph E n b x (y + 1) (upd M x y (min (M x y) (plusN (M x b) (M b y)))) := by
  have hle := upd_le (M := M) (a := x) (b := y) (v := min (M x y) (plusN (M x b) (M b y))) (Int.min_le_left _ _)
  refine ⟨h.1.upd (Sound.min (h.1 x y hx hy) (Sound.plus (h.1 x b hx hb) (h.1 b y hb hy))), fun i j hi hj => (h.2.1 i j hi hj).mono (hle i j), fun i j hi hj hd => ?_⟩
  by_cases e : i = x ∧ j = y
  · obtain ⟨rfl, rfl⟩ := e
    rw [upd_same]
    exact Via.step hE (h.1 i b hi hb).1.2 (h.2.1 i j hi hj) (h.2.1 i b hi hb) (h.2.1 b j hb hj)
  · exact (h.2.2 i j hi hj (by omega)).mono (hle i j)
theorem Ph.row {E : List Ed} {n b x y : Nat} {M : Nat → Nat → Int} (h : Ph E n b x y M) (hy : n ≤ y) : Ph E n b (x + 1) 0 M := ⟨h.1, h.2.1, fun i j hi hj hd => h.2.2 i j hi hj (by omega)⟩
theorem Ph.next {E : List Ed} {n b x y : Nat} {M : Nat → Nat → Int} (h : Ph E n b x y M) (hx : n ≤ x) : Ph E n (b + 1) 0 0 M := ⟨h.1, fun i j hi hj => h.2.2 i j hi hj (by omega), fun i j hi hj hd => by omega⟩
def LeastM (E : List Ed) (z : Bool) (n : Nat) (M : Nat → Nat → Int) : Prop := ∀ i j : Nat, i < n → j < n → IsLeast E z i j (M i j)
theorem Ph.done {E : List Ed} {n b x y : Nat} {M : Nat → Nat → Int} (hE : Fits E n) (h : Ph E n b x y M) (hb : b = n) : LeastM E false n M := fun i j hi hj => by subst hb; exact Via.all hE (h.1 i j hi hj) (h.2.1 i j hi hj)
theorem LeastM.one {E : List Ed} {z : Bool} {n : Nat} {M M' : Nat → Nat → Int} (h : LeastM E z n M) (h' : LeastM E z n M') : ∀ i j, i < n → j < n → M i j = M' i j := fun i j hi hj => (h i j hi hj).one (h' i j hi hj)
def Rd1 (E : List Ed) (n r x k : Nat) (M : Nat → Nat → Int) : Prop :=
  SoundM E true n M ∧ (∀ i j : Nat, i < n → j < n → Len E r i j (M i j)) ∧ (∀ i j : Nat, i < n → j < n → i < x → Len E (r + 1) i j (M i j)) ∧ ∀ (e : Ed) (t : Nat), x < n → e ∈ E.take k → e.t = t → Ends E r x e (M x t)
def diag (i j : Nat) : Int := if i = j then 0 else 18446744073709551615
theorem Rd1.start (E : List Ed) (n : Nat) : Rd1 E n 0 0 0 diag := by
  refine ⟨fun i j _ _ => ?_, fun i j _ _ => Len.zero fun h => ?_, fun i j _ _ h => by omega, fun e t _ h => by simp at h⟩
  · unfold diag
    by_cases e : i = j
    · subst e; rw [if_pos rfl]; exact Sound.here E i
    · rw [if_neg e]; exact Sound.never _ _ _ _
  · have : i = j := by omega
    subst this
    unfold diag
    rw [if_pos rfl]
    exact Int.le_refl _
theorem Rd1.step {E : List Ed} {n r x k : Nat} {M : Nat → Nat → Int} (hE : Fits E n) (h : Rd1 E n r x k M) (hx : x < n) {e : Ed} {f t : Nat} (he : E[k]? = some e) (hf : e.f = f) (ht : e.t = t) (hlt : plusN (M x f) e.a < M x t) : Rd1 E n r x (k + 1) (upd M x t (plusN (M x f) e.a)) := by
  have hm := List.mem_of_getElem? he
  have hb := hE e hm
  have hfn : f < n := by omega
  have htn : t < n := by omega
  have hle := upd_le (M := M) (a := x) (b := t) (v := plusN (M x f) e.a) (by omega)
  have hs : Sound E true x t (plusN (M x f) e.a) := by
    have := Sound.plus (h.1 x f hx hfn) (show Sound E true f t e.a by rw [← hf, ← ht]; exact Sound.edge hE true hm)
    exact this
  refine ⟨h.1.upd hs, fun i j hi hj => (h.2.1 i j hi hj).mono (Nat.le_refl _) (hle i j), fun i j hi hj hd => (h.2.2.1 i j hi hj hd).mono (Nat.le_refl _) (hle i j), fun e' t' _ he' ht' => ?_⟩
  rw [take_succ' he] at he'
  rcases List.mem_append.1 he' with he' | he'
  · exact (h.2.2.2 e' t' hx he' ht').mono (hle x t')
  · simp at he'
    subst he'
    have e2 : t' = t := by omega
    subst e2
    rw [upd_same]
    exact Ends.of (h := by rw [hf]; exact h.2.1 x f hx hfn) (h.1 x f hx hfn).1.2 (Int.le_refl _)
theorem Rd1.skip {E : List Ed} {n r x k : Nat} {M : Nat → Nat → Int} (hE : Fits E n) (h : Rd1 E n r x k M) (hx : x < n) {e : Ed} {f t : Nat} (he : E[k]? = some e) (hf : e.f = f) (ht : e.t = t) (hlt : ¬ plusN (M x f) e.a < M x t) : Rd1 E n r x (k + 1) M := by
  have hm := List.mem_of_getElem? he
  have hb := hE e hm
  have hfn : f < n := by omega
  refine ⟨h.1, h.2.1, h.2.2.1, fun e' t' _ he' ht' => ?_⟩
  rw [take_succ' he] at he'
  rcases List.mem_append.1 he' with he' | he'
  · exact h.2.2.2 e' t' hx he' ht'
  · simp at he'
    subst he'
    have e2 : t' = t := by omega
    subst e2
    exact Ends.of (h := by rw [hf]; exact h.2.1 x f hx hfn) (h.1 x f hx hfn).1.2 (by omega)
theorem Rd1.row {E : List Ed} {n r x k : Nat} {M : Nat → Nat → Int} (h : Rd1 E n r x k M) (hk : E.length ≤ k) (hx : x < n) : Rd1 E n r (x + 1) 0 M := by
  refine ⟨h.1, h.2.1, fun i j hi hj hd => ?_, fun e t _ h => by simp at h⟩
  by_cases e : i = x
  · subst e
    exact (h.2.1 i j hi hj).succ fun e he ht => h.2.2.2 e j hi (by rw [take_all hk]; exact he) ht
  · exact h.2.2.1 i j hi hj (by omega)
theorem Rd1.next {E : List Ed} {n r x k : Nat} {M : Nat → Nat → Int} (h : Rd1 E n r x k M) (hx : n ≤ x) : Rd1 E n (r + 1) 0 0 M :=
  ⟨h.1, fun i j hi hj => h.2.2.1 i j hi hj (by omega), fun i j _ _ hd => by omega, fun e t _ h => by simp at h⟩
theorem Rd1.done {E : List Ed} {n r x k : Nat} {M : Nat → Nat → Int} (hE : Fits E n) (h : Rd1 E n r x k M) (hr : r = n) : LeastM E true n M := fun i j hi hj => by subst hr; exact Len.all hE (h.1 i j hi hj) (h.2.1 i j hi hj)
structure RowsTo (w : World) (base g : Nat) (r : Nat → Nat) (n k : Nat) (f : Nat → Nat → Int) : Prop where
  top : w.rowIs g 59 n (fun i => if i < k then .slice (some ⟨r i, 0, none⟩) n n else .slice none 0 0)
  row : ∀ i, i < k → w.rowIs (r i) 36 n (fun j => .int .u64 (f i j))
  inj : ∀ i i', i < k → i' < k → r i = r i' → i = i'
  far : ∀ i, i < k → r i ≠ g
  lo : base ≤ g
  los : ∀ i, i < k → base ≤ r i
theorem RowsTo.below {w w' : World} {base g : Nat} {r : Nat → Nat} {n k : Nat} {f : Nat → Nat → Int} (h : RowsTo w base g r n k f) (hw : Below w.heap.size w w') : RowsTo w' base g r n k f :=
  ⟨h.top.of_block (hw.block _ h.top.lt), fun i hi => (h.row i hi).of_block (hw.block _ (h.row i hi).lt), h.inj, h.far, h.lo, h.los⟩
theorem RowsTo.step {w w' : World} {base g b : Nat} {r : Nat → Nat} {n k : Nat} {f : Nat → Nat → Int} (h : RowsTo w base g r n k f) (hw : Below w.heap.size w w') (hb : w.heap.size ≤ b) (hrow : w'.rowIs b 36 n (fun j => .int .u64 (f k j))) (hbase : base ≤ w.heap.size) :
    RowsTo (w'.setCell ⟨g, k, none⟩ (.slice (some ⟨b, 0, none⟩) n n)) base g (fun i => if i = k then b else r i) n (k + 1) f := by
  have h' := h.below hw
  have hg := h.top.lt
  have hbg : b ≠ g := by omega
  have hlt : ∀ i, i < k → r i < w.heap.size := fun i hi => (h.row i hi).lt
  refine ⟨(h'.top.set k _).congr fun i hi => ?_, fun i hi => ?_, fun i i' hi hi' e => ?_, fun i hi => ?_, h.lo, fun i hi => ?_⟩
  · by_cases e : i = k
    · subst e; rw [if_pos rfl, if_pos (by omega), if_pos rfl]
    · rw [if_neg e]
      by_cases e2 : i < k
      · rw [if_pos e2, if_pos (by omega), if_neg e]
      · rw [if_neg e2, if_neg (by omega)]
  · by_cases e : i = k
    · subst e
      show World.rowIs _ (if i = i then b else r i) _ _ _
      rw [if_pos rfl]
      exact hrow.setOther hbg _
    · show World.rowIs _ (if i = k then b else r i) _ _ _
      rw [if_neg e]
      exact (h'.row i (by omega)).setOther (h.far i (by omega)) _
  · have e : (if i = k then b else r i) = (if i' = k then b else r i') := e
    by_cases e1 : i = k
    · by_cases e2 : i' = k
      · omega
      · rw [if_pos e1, if_neg e2] at e
        have := hlt i' (by omega)
        omega
    · by_cases e2 : i' = k
      · rw [if_neg e1, if_pos e2] at e
        have := hlt i (by omega)
        omega
      · rw [if_neg e1, if_neg e2] at e
        exact h.inj i i' (by omega) (by omega) e
  · show (if i = k then b else r i) ≠ g
    by_cases e1 : i = k
    · rw [if_pos e1]; exact hbg
    · rw [if_neg e1]; exact h.far i (by omega)
  · show base ≤ (if i = k then b else r i)
    by_cases e1 : i = k
    · rw [if_pos e1]; omega
    · rw [if_neg e1]; exact h.los i (by omega)
theorem RowsTo.done {w : World} {base g : Nat} {r : Nat → Nat} {n : Nat} {f : Nat → Nat → Int} (h : RowsTo w base g r n n f) : MatF w base g r n f :=
  ⟨h.top.congr fun i hi => if_pos hi, h.row, h.inj, h.far, h.lo, h.los⟩
theorem RowsTo.start {w : World} {base g n : Nat} {f : Nat → Nat → Int} (h : w.rowIs g 59 n (fun _ => .slice none 0 0)) (hb : base ≤ g) : RowsTo w base g (fun _ => 0) n 0 f :=
  ⟨h.congr fun i hi => (if_neg (by omega)).symm, fun i hi => by omega, fun i i' hi => by omega, fun i hi => by omega, hb, fun i hi => by omega⟩
end Go.Proofs.YtlkljeedlkbkgaaGreatDoor.Gr
namespace Go.Proofs.YtlkljeedlkbkgaaGreatDoor.Gr
open Go.RowKit Fault
set_option linter.unusedVariables false
abbrev placedO' (v : Value) (s : ByteArray) (n : Int) : Obj := .cells #[v, .string s, .int .i64 n] 172
theorem at_any (u : TypeId) (x : Value) (s : ByteArray) (n : Int) (w : World) : Calls Tryz.prog 58 #[.iface u x, .string s, .int .i64 n] w fun e w' => e = .returned (placedV w.heap.size) ∧ w' = w.alloc (placedO' (.iface u x) s n) := by
  go_enter Tryz.func58, Tryz.ntmps58
  go_wp2
  go_ret
  exact ⟨rfl, rfl⟩
theorem chain_cons' {w : World} {v b : Value} {l : List Pl} (s : ByteArray) (n : Int) (h : Chain w v l b) : Chain (w.alloc (placedO' v s n)) (placedV w.heap.size) ((s, n) :: l) b :=
  ⟨w.heap.size, v, rfl, by simp, by simp, by simp, h.below ((Below.refl _ _).alloc (Nat.le_refl _) _)⟩
theorem at_chain {w : World} {v b : Value} {l : List Pl} (s : ByteArray) (n : Int) (h : Chain w v l b) (hb : IsBase b) : Calls Tryz.prog 58 #[v, .string s, .int .i64 n] w fun e w' => ∃ blk, e = .returned (placedV blk) ∧ Chain w' (placedV blk) ((s, n) :: l) b ∧ Below w.heap.size w w' := by
  obtain ⟨u, x, rfl⟩ := ne_nil hb h
  refine (at_any u x s n w).mono fun e w' ⟨he, hw⟩ => ⟨_, he, ?_, ?_⟩
  · rw [hw]; exact chain_cons' s n h
  · rw [hw]; exact (Below.refl _ _).alloc (Nat.le_refl _) _
def ErrIs (w : World) (v : Value) (V : List Pl × Int) : Prop := (V.2 = 0 ∧ V.1 = [] ∧ v = .nilIface) ∨ (V.2 ≠ 0 ∧ Chain w v V.1 (errnoV V.2) ∧ ∃ u x, v = .iface u x)
theorem ErrIs.none (w : World) : ErrIs w .nilIface ([], 0) := .inl ⟨rfl, rfl, rfl⟩
theorem ErrIs.some {w : World} {v : Value} {l : List Pl} {k : Int} (hk : k ≠ 0) (h : Chain w v l (errnoV k)) : ErrIs w v (l, k) := .inr ⟨hk, h, ne_nil (.inl ⟨k, rfl⟩) h⟩
theorem ErrIs.below {w w' : World} {v : Value} {V : List Pl × Int} (h : ErrIs w v V) (hw : Below w.heap.size w w') : ErrIs w' v V := by
  rcases h with h | ⟨h1, h2, h3⟩
  · exact .inl h
  · exact .inr ⟨h1, h2.below hw, h3⟩
def edgeS : ByteArray := { data := #[101, 100, 103, 101] }
def fromS : ByteArray := { data := #[102, 114, 111, 109] }
def toS : ByteArray := { data := #[116, 111] }
def inputS : ByteArray := { data := #[105, 110, 112, 117, 116] }
def portS : ByteArray := { data := #[112, 111, 114, 116] }
def inP (n p : Int) : Prop := 0 ≤ p ∧ p < n
instance (n p : Int) : Decidable (inP n p) := by unfold inP; exact inferInstance
def edgesV (n : Int) : Nat → List Ed → List Pl × Int
  | _, [] => ([], 0)
  | i, x :: r => if ¬ inP n x.f then ([(edgeS, (i : Int)), (fromS, x.f)], 2) else if ¬ inP n x.t then ([(edgeS, (i : Int)), (toS, x.t)], 2) else edgesV n (i + 1) r
theorem edgesV_skip {n : Int} : ∀ {l : List Ed} {i m : Nat}, (∀ y ∈ l.take i, inP n y.f ∧ inP n y.t) → edgesV n m l = edgesV n (m + min i l.length) (l.drop i)
  | [], i, m, _ => by simp [edgesV]
  | x :: r, 0, m, _ => by simp
  | x :: r, i + 1, m, h => by
    have hx := h x (by simp)
    have ih := edgesV_skip (l := r) (i := i) (m := m + 1) fun y hy => h y (by simp [hy])
    rw [edgesV, if_neg (fun hn => hn hx.1), if_neg (fun hn => hn hx.2), ih, List.drop_succ_cons, List.length_cons]
    congr 1
    omega
theorem edgesV_ok {n : Int} {l : List Ed} (h : ∀ y ∈ l, inP n y.f ∧ inP n y.t) : edgesV n 0 l = ([], 0) := by
  rw [edgesV_skip (i := l.length) (by rw [List.take_length]; exact h), List.drop_length]
  rfl
theorem edgesV_f {n : Int} {l : List Ed} {i : Nat} {x : Ed} (h : ∀ y ∈ l.take i, inP n y.f ∧ inP n y.t) (hx : l[i]? = some x) (hf : ¬ inP n x.f) : edgesV n 0 l = ([(edgeS, (i : Int)), (fromS, x.f)], 2) := by
  have hi := (List.getElem?_eq_some_iff.1 hx).1
  have e := (List.getElem?_eq_some_iff.1 hx).2
  rw [edgesV_skip h, List.drop_eq_getElem_cons hi, e, Nat.min_eq_left (by omega), Nat.zero_add, edgesV, if_pos hf]
theorem edgesV_t {n : Int} {l : List Ed} {i : Nat} {x : Ed} (h : ∀ y ∈ l.take i, inP n y.f ∧ inP n y.t) (hx : l[i]? = some x) (hf : inP n x.f) (ht : ¬ inP n x.t) : edgesV n 0 l = ([(edgeS, (i : Int)), (toS, x.t)], 2) := by
  have hi := (List.getElem?_eq_some_iff.1 hx).1
  have e := (List.getElem?_eq_some_iff.1 hx).2
  rw [edgesV_skip h, List.drop_eq_getElem_cons hi, e, Nat.min_eq_left (by omega), Nat.zero_add, edgesV, if_neg (fun hn => hn hf), if_pos ht]
def inputsV (n : Int) : Nat → List Int → List Int → List Pl × Int
  | _, _, [] => ([], 0)
  | i, pre, p :: r => if ¬ inP n p then ([(inputS, (i : Int))], 2) else if p ∈ pre then ([(inputS, (i : Int))], 1) else inputsV n (i + 1) (pre ++ [p]) r
def InOk (n : Int) (l : List Int) (i : Nat) : Prop := ∀ j p, j < i → l[j]? = some p → inP n p ∧ p ∉ l.take j
theorem inputsV_skip {n : Int} {l : List Int} : ∀ {i : Nat}, i ≤ l.length → InOk n l i → inputsV n 0 [] l = inputsV n i (l.take i) (l.drop i)
  | 0, _, _ => rfl
  | i + 1, hi, h => by
    have hlt : i < l.length := by omega
    have hx : l[i]? = some l[i] := List.getElem?_eq_getElem hlt
    have h1 := h i _ (Nat.lt_succ_self i) hx
    rw [inputsV_skip (i := i) (by omega) (fun j p hj hp => h j p (by omega) hp), List.drop_eq_getElem_cons hlt, inputsV, if_neg (fun hn => hn h1.1), if_neg h1.2, take_succ' hx]
theorem inputsV_ok {n : Int} {l : List Int} (h : InOk n l l.length) : inputsV n 0 [] l = ([], 0) := by
  rw [inputsV_skip (Nat.le_refl _) h, List.drop_length]
  rfl
theorem inputsV_out {n : Int} {l : List Int} {i : Nat} {p : Int} (h : InOk n l i) (hx : l[i]? = some p) (hp : ¬ inP n p) : inputsV n 0 [] l = ([(inputS, (i : Int))], 2) := by
  have hi := (List.getElem?_eq_some_iff.1 hx).1
  have e := (List.getElem?_eq_some_iff.1 hx).2
  rw [inputsV_skip (Nat.le_of_lt hi) h, List.drop_eq_getElem_cons hi, e, inputsV, if_pos hp]
theorem inputsV_twice {n : Int} {l : List Int} {i : Nat} {p : Int} (h : InOk n l i) (hx : l[i]? = some p) (hp : inP n p) (hm : p ∈ l.take i) : inputsV n 0 [] l = ([(inputS, (i : Int))], 1) := by
  have hi := (List.getElem?_eq_some_iff.1 hx).1
  have e := (List.getElem?_eq_some_iff.1 hx).2
  rw [inputsV_skip (Nat.le_of_lt hi) h, List.drop_eq_getElem_cons hi, e, inputsV, if_neg (fun hn => hn hp), if_pos hm]
theorem InOk.step {n : Int} {l : List Int} {i : Nat} {p : Int} (h : InOk n l i) (hx : l[i]? = some p) (hp : inP n p) (hm : p ∉ l.take i) : InOk n l (i + 1) := by
  intro j q hj hq
  by_cases e : j = i
  · subst e
    rw [hx] at hq
    obtain rfl := Option.some.inj hq
    exact ⟨hp, hm⟩
  · exact h j q (by omega) hq
def CycAt (E : List Ed) (n : Nat) (o : Option Nat) : Prop := (∃ p, o = some p ∧ p < n ∧ Round E p ∧ ∀ q, q < p → ¬ Round E (q : Nat)) ∨ (o = none ∧ ∀ q, q < n → ¬ Round E (q : Nat))
theorem CycAt.one {E : List Ed} {n : Nat} {o o' : Option Nat} (h : CycAt E n o) (h' : CycAt E n o') : o = o' := by
  rcases h with ⟨p, rfl, hp, hr, hl⟩ | ⟨rfl, hl⟩
  · rcases h' with ⟨p', rfl, hp', hr', hl'⟩ | ⟨rfl, hl'⟩
    · rcases Nat.lt_trichotomy p p' with e | e | e
      · exact absurd hr (hl' p e)
      · rw [e]
      · exact absurd hr' (hl p' e)
    · exact absurd hr (hl' p hp)
  · rcases h' with ⟨p', rfl, hp', hr', hl'⟩ | ⟨rfl, hl'⟩
    · exact absurd hr' (hl p' hp')
    · rfl
open Classical in
noncomputable def cycO (E : List Ed) (n : Nat) : Option Nat := if h : ∃ o, CycAt E n o then h.choose else none
theorem cycO_eq {E : List Ed} {n : Nat} {o : Option Nat} (h : CycAt E n o) : cycO E n = o := by
  unfold cycO
  have hex : ∃ o, CycAt E n o := ⟨o, h⟩
  rw [dif_pos hex]
  exact hex.choose_spec.one h
def cycV : Option Nat → List Pl × Int
  | none => ([], 0)
  | some p => ([(portS, (p : Int))], 3)
noncomputable def chkV (n : Int) (E : List Ed) (I : List Int) : List Pl × Int :=
  if n < 1 ∨ 64 < n then ([], 2)
  else if 256 < E.length then ([], 4)
  else if (edgesV n 0 E).2 ≠ 0 then edgesV n 0 E
  else if I.length = 0 ∨ 8 < I.length then ([], 4)
  else if (inputsV n 0 [] I).2 ≠ 0 then inputsV n 0 [] I
  else cycV (cycO E n.toNat)
end Go.Proofs.YtlkljeedlkbkgaaGreatDoor.Gr
namespace Go.Proofs.YtlkljeedlkbkgaaGreatDoor.Cl
open Go.RowKit Gr Go.Shelf Go.Lib
set_option linter.unusedVariables false
theorem infoH : (Tryz.prog.info? 40).map (fun i => (i.zero, i.size, i.bytes)) = some (some (.agg #[.int .i64 0, .int .i64 0, .int .u64 0]), 3, 24) := by kernel_rfl
theorem cloneH_any {w : World} {v : Value} {l : List Ed} (h : Sl w v l) (hl : l.length ≤ 100000) :
    Calls Tryz.prog 59 #[v] w fun e w' => ∃ v', e = .returned v' ∧ Own w' w.heap.size 40 v' l ∧ Below w.heap.size w w' := by
  obtain ⟨ao, cap, rfl, h1, _⟩ := h
  obtain ⟨i0, hi, hz0, hz1, hz2⟩ := Gr.info_parts infoH
  rcases h1 with ⟨rfl, rfl⟩ | ⟨b, off, rfl, h1⟩
  · exact (AnyE.slices_Clone_nil Tryz.cloneH 0 cap w).mono fun e w' ⟨he, hw⟩ => ⟨_, he, by rw [hw]; exact Own.nil _ _ _, by rw [hw]; exact Below.refl _ _⟩
  · exact (AnyE.slices_Clone Tryz.cloneH i0 (.agg #[.int .i64 0, .int .i64 0, .int .u64 0]) 3 24 hi hz0 hz1 hz2 rfl (by omega) Tryz.sizeOf40 b off l.length cap (Gr.cellsL l) w (Gr.cellsL_length l) (by unfold maxLen; omega) (by omega) (Gr.cells_of_at h1) (Gr.cellsL_one l)).mono
      fun e w' ⟨v', he, ho, _, hb⟩ => ⟨v', he, ho, hb⟩
theorem formH {w : World} {base : Nat} {T : TypeId} {v : Value} {l : List Ed} (h : Own w base T v l) : ∃ ao cap, v = .slice ao l.length cap := by
  rcases h.2 with ⟨h, h0⟩ | ⟨g, cap, cur, h, _⟩
  · exact ⟨none, 0, by rw [h, h0]⟩
  · exact ⟨_, _, h⟩
theorem formB {w : World} {base : Nat} {T : TypeId} {v : Value} {l : List Batch.Ch} (h : Batch.Own w base T v l) : ∃ ao cap, v = .slice ao l.length cap := by
  rcases h.2 with ⟨h, h0⟩ | ⟨g, cap, cur, h, _⟩
  · exact ⟨none, 0, by rw [h, h0]⟩
  · exact ⟨_, _, h⟩
def handleS : ByteArray := { data := #[104, 97, 110, 100, 108, 101] }
theorem stale_any (h : Int) (w : World) : Calls Tryz.prog 61 #[.int .i64 h] w fun e w' => ∃ v, e = .returned v ∧ ErrIs w' v ([(handleS, h)], 7) ∧ Below w.heap.size w w' := by
  have HA := Lib.hid (at_chain (w := w) (v := .iface 61 (.int .i64 7)) (b := Fault.errnoV 7) (l := []) handleS h rfl (.inl ⟨7, rfl⟩))
  go_enter Tryz.func61, Tryz.ntmps61
  go_wp2_with fail
  go_at_call 58
  refine HA.out.mono ?_
  rintro e w1 ⟨blk, rfl, hch, hb1⟩
  have HE := Lib.hid (ErrIs.some (k := 7) (by decide) hch)
  have HB1 := Lib.hid hb1
  clear hb1 hch
  go_wp2_with fail
  go_ret
  exact ⟨_, rfl, HE.out, HB1.out⟩
set_option maxRecDepth 1000000 in
set_option maxHeartbeats 8000000 in
theorem clones_any {w : World} {vh vb : Value} {H : List Ed} {B : List Batch.Ch} (hH : Sl w vh H) (hB : Batch.Sl w vb B) (hl : H.length ≤ 100000) (hlb : B.length ≤ 100000) :
    Calls Tryz.prog 62 #[.agg #[vh, vb]] w fun e w' => ∃ vh' vb' m, e = .returned (.agg #[vh', vb']) ∧ Own w' w.heap.size 40 vh' H ∧ (∀ k, vh'.ownBlock = some k → k < m) ∧ w.heap.size ≤ m ∧ Batch.Own w' m 72 vb' B ∧ Below w.heap.size w w' := by
  have HHV := Lib.hid hH
  have HBV := Lib.hid hB
  obtain ⟨ao, cap, rfl, _⟩ := hH
  obtain ⟨ab, capb, rfl, _⟩ := hB
  obtain ⟨w0, hw0⟩ : ∃ w0, w0 = (w.alloc (.cells #[.slice ao H.length cap, .slice ab B.length capb] 47)).alloc (.cells #[.slice none 0 0, .slice none 0 0] 47) := ⟨_, rfl⟩
  have hb0 : Below w.heap.size w w0 := by rw [hw0]; exact ((Below.refl _ _).alloc (Nat.le_refl _) _).alloc (by simp) _
  have hs0 : w0.heap.size = w.heap.size + 1 + 1 := by rw [hw0]; simp
  have hx0 : w0.heap[w.heap.size]? = some (.cells #[.slice ao H.length cap, .slice ab B.length capb] 47 (0, 0)) := by
    rw [hw0, heap_alloc_old _ _ (by simp)]; exact heap_alloc_new w _
  have hy0 : w0.heap[w.heap.size + 1]? = some (.cells #[.slice none 0 0, .slice none 0 0] 47 (0, 0)) := by
    rw [hw0]; have := heap_alloc_new (w.alloc (.cells #[.slice ao H.length cap, .slice ab B.length capb] 47)) (.cells #[.slice none 0 0, .slice none 0 0] 47); simpa using this
  have HX := Lib.hid hx0
  have HY := Lib.hid hy0
  have HB0 := Lib.hid hb0
  have HS0 := Lib.hid hs0
  obtain ⟨x0, x1, _⟩ := pair_cells hx0
  have hlt0 : w.heap.size < w0.heap.size := by omega
  clear hx0 hy0
  go_enter Tryz.func62, Tryz.ntmps62
  go_upto_region 1 with fail
  rw [← hw0]
  clear hw0
  have hmn : ∀ W : World, Below w.heap.size w W → w.heap.size ≤ W.heap.size := fun W h => h.size
  go_region_held3 (fun w' => w'.cell? ⟨w.heap.size, 0, none⟩ = some (.slice ao H.length cap) ∧ w'.cell? ⟨w.heap.size, 1, none⟩ = some (.slice ab B.length capb))
    (first
      | go_keep
      | (go_split_ands
         first
           | (refine ⟨?_, ?_⟩ <;> (rw [hcb2.cell (by have := HS0.out; have := hcb.size; simp at *; omega)]; assumption))
           | (refine ⟨?_, ?_⟩ <;> (rw [hcb.cell (by have := HS0.out; simp at *; omega)]; assumption))))
    (first
      | (go_at_call 59; refine (cloneH_any ((HHV.out.below HB0.out).below (below_drewN (Below.refl _ _) 1)) hl).mono ?_; rintro e w1 ⟨v1, rfl, ho, hcb⟩; obtain ⟨a1, c1, rfl⟩ := formH ho)
      | (go_at_call 47; refine (Batch.cloneB_any ((HBV.out.below HB0.out).below ((below_drewN (Below.refl w0.heap.size w0) 1).trans hcb)) hlb).mono ?_; rintro e w2 ⟨v2, rfl, ho2, hcb2⟩; obtain ⟨a2, c2, rfl⟩ := formB ho2; obtain ⟨y0, y1, yf⟩ := pair_cells ((hcb2.block (w.heap.size + 1) (Nat.lt_of_lt_of_le (show w.heap.size + 1 < w0.heap.size by have := HS0.out; omega) hcb.size)).trans ((hcb.block (w.heap.size + 1) (show w.heap.size + 1 < w0.heap.size by have := HS0.out; omega)).trans HY.out)); have yf0 := yf 0; have yf1 := yf 1; clear yf))
  go_wp2_with fail
  have hw0w1 : Below w0.heap.size w0 w1 := (below_drewN (Below.refl w0.heap.size w0) 1).trans hcb
  have hw0w2 : Below w0.heap.size w0 w2 := hw0w1.trans (hcb2.mono hw0w1.size)
  have hlt1 : w.heap.size + 1 < w0.heap.size := by have := HS0.out; omega
  have hHs : w.heap.size ≤ w0.heap.size := by omega
  obtain ⟨r0, r1, _⟩ := pair_cells (heap_setCell_same _ (w.heap.size + 1) 1 _ _ (.slice a2 B.length c2) (heap_setCell_same w2 (w.heap.size + 1) 0 _ _ (.slice a1 H.length c1) ((hw0w2.block _ hlt1).trans HY.out)))
  refine bodyPost_ret (v := .agg #[.slice a1 H.length c1, .slice a2 B.length c2]) (by simp [results, Tryz.results62, go_sem, r0, r1]) rfl ⟨_, _, w1.heap.size, rfl, ?_, fun k e => (World.ownsRow.lt ho k e).2, by have := hw0w1.size; omega, ?_, ?_⟩
  · have h1 : Own w2 w0.heap.size 40 (.slice a1 H.length c1) H := ho.below hcb2
    have h2 := World.ownsRow.lt h1
    exact Own.mono (ownsRow_setCell_other (ownsRow_setCell_other h1 (fun e => by have h := (h2 _ e).1; dsimp only at h; omega) _) (fun e => by have h := (h2 _ e).1; dsimp only at h; omega) _) hHs
  · have h1 : Batch.Own w2 w1.heap.size 72 (.slice a2 B.length c2) B := ho2
    have h2 := World.ownsRow.lt h1
    have h3 := hw0w1.size
    exact ownsRow_setCell_other (ownsRow_setCell_other h1 (fun e => by have h := (h2 _ e).1; dsimp only at h; omega) _) (fun e => by have h := (h2 _ e).1; dsimp only at h; omega) _
  · exact ((HB0.out.trans (hw0w2.mono hHs)).setCell (p := ⟨w.heap.size + 1, 0, none⟩) (Nat.le_succ _) _).setCell (p := ⟨w.heap.size + 1, 1, none⟩) (Nat.le_succ _) _
end Go.Proofs.YtlkljeedlkbkgaaGreatDoor.Cl
namespace Go.Proofs.YtlkljeedlkbkgaaGreatDoor.Cl
open Go.RowKit Gr
set_option linter.unusedVariables false
theorem ch_new (w : World) (p t d : Int) (T : TypeId) (hw : (⟨p, t, d⟩ : Batch.Ch).Wf) : Batch.Sl (w.alloc (.cells #[.int .i64 p, .int .u64 t, .int .i64 d] T)) (.slice (some ⟨w.heap.size, 0, none⟩) 1 1) [⟨p, t, d⟩] := by
  have h := heap_alloc_new w (.cells #[.int .i64 p, .int .u64 t, .int .i64 d] T)
  refine ⟨_, _, rfl, .inr ⟨w.heap.size, 0, rfl, fun i x hx => ?_⟩, Nat.le_refl _, by decide, fun x hx => by simp at hx; subst hx; exact hw⟩
  cases i with
  | succ k => simp at hx
  | zero =>
    simp at hx
    subst hx
    obtain ⟨c0, c1, c2, _⟩ := trip_cells h
    exact ⟨c0, c1, c2⟩
theorem dB (d : Int) (h : d = 1 ∨ d = -1) : -9223372036854775808 ≤ d ∧ d ≤ 9223372036854775807 := by omega
theorem one_sorted (x : Batch.Ch) : Batch.Sorted [x] := by unfold Batch.Sorted; simp
theorem nil_sorted : Batch.Sorted [] := List.Pairwise.nil
set_option maxRecDepth 1000000 in
set_option maxHeartbeats 8000000 in
theorem counts_open {w : World} {x : Ed} (t : Int) (hw : x.Wf) (ht0 : 0 ≤ t) (ht1 : t ≤ 18446744073709551615) :
    Calls Tryz.prog 63 #[.int .i64 0, x.agg, .int .u64 t] w fun e w' => ∃ v, e = .returned v ∧ Batch.Own w' w.heap.size 72 v (Batch.sumsR ([⟨x.t, t, 1⟩] ++ [])) ∧ Below w.heap.size w w' := by
  have HA := Lib.hid (fun W => ch_new W x.t t 1 72 ⟨hw.t0, hw.t1, ht0, ht1, (dB 1 (.inl rfl)).1, (dB 1 (.inl rfl)).2⟩)
  obtain ⟨xf, xt, xa⟩ := x
  clear hw
  have hb0 : Below w.heap.size w (w.alloc (.cells #[.int .i64 xf, .int .i64 xt, .int .u64 xa] 40)) := (Below.refl _ _).alloc (Nat.le_refl _) _
  have HB0 := Lib.hid hb0
  clear hb0
  go_enter Tryz.func63, Tryz.ntmps63
  go_wp2_with fail
  go_at_call 54
  obtain ⟨w1, hw1⟩ : ∃ w1, w1 = (w.alloc (.cells #[.int .i64 xf, .int .i64 xt, .int .u64 xa] 40)).alloc (.cells #[.int .i64 xt, .int .u64 t, .int .i64 1] 72) := ⟨_, rfl⟩
  rw [← hw1]
  have HA1 := Lib.hid (HA.out (w.alloc (.cells #[.int .i64 xf, .int .i64 xt, .int .u64 xa] 40)))
  rw [← hw1] at HA1
  have HB1 := Lib.hid (show Below w.heap.size w w1 by rw [hw1]; exact HB0.out.alloc (by simp) _)
  clear hw1
  refine (Batch.merge_any (by simpa using HA1.out) (Batch.Sl.nil w1) (one_sorted _) nil_sorted (by simp)).mono ?_
  rintro e w2 ⟨v2, rfl, ho, hb⟩
  have HO := Lib.hid (ho.mono HB1.out.size)
  have HB2 := Lib.hid (HB1.out.trans (hb.mono HB1.out.size))
  clear ho hb
  go_wp2_with fail
  go_ret
  exact ⟨_, rfl, HO.out, HB2.out⟩
set_option maxRecDepth 1000000 in
set_option maxHeartbeats 8000000 in
theorem counts_close {w : World} {x : Ed} (t : Int) (hw : x.Wf) :
    Calls Tryz.prog 63 #[.int .i64 2, x.agg, .int .u64 t] w fun e w' => ∃ v, e = .returned v ∧ Batch.Own w' w.heap.size 72 v (Batch.sumsR ([] ++ [⟨x.t, x.a, -1⟩])) ∧ Below w.heap.size w w' := by
  have HA := Lib.hid (fun W => ch_new W x.t x.a (-1) 72 ⟨hw.t0, hw.t1, hw.a0, hw.a1, (dB (-1) (.inr rfl)).1, (dB (-1) (.inr rfl)).2⟩)
  obtain ⟨xf, xt, xa⟩ := x
  clear hw
  have hb0 : Below w.heap.size w (w.alloc (.cells #[.int .i64 xf, .int .i64 xt, .int .u64 xa] 40)) := (Below.refl _ _).alloc (Nat.le_refl _) _
  have HB0 := Lib.hid hb0
  clear hb0
  go_enter Tryz.func63, Tryz.ntmps63
  go_wp2_with fail
  go_at_call 54
  obtain ⟨w1, hw1⟩ : ∃ w1, w1 = (w.alloc (.cells #[.int .i64 xf, .int .i64 xt, .int .u64 xa] 40)).alloc (.cells #[.int .i64 xt, .int .u64 xa, .int .i64 (-1)] 72) := ⟨_, rfl⟩
  rw [← hw1]
  have HA1 := Lib.hid (HA.out (w.alloc (.cells #[.int .i64 xf, .int .i64 xt, .int .u64 xa] 40)))
  rw [← hw1] at HA1
  have HB1 := Lib.hid (show Below w.heap.size w w1 by rw [hw1]; exact HB0.out.alloc (by simp) _)
  clear hw1
  refine (Batch.merge_any (Batch.Sl.nil w1) (by simpa using HA1.out) nil_sorted (one_sorted _) (by simp)).mono ?_
  rintro e w2 ⟨v2, rfl, ho, hb⟩
  have HO := Lib.hid (ho.mono HB1.out.size)
  have HB2 := Lib.hid (HB1.out.trans (hb.mono HB1.out.size))
  clear ho hb
  go_wp2_with fail
  go_ret
  exact ⟨_, rfl, HO.out, HB2.out⟩
set_option maxRecDepth 1000000 in
set_option maxHeartbeats 8000000 in
theorem counts_adv {w : World} {x : Ed} (t : Int) (hw : x.Wf) (ht0 : 0 ≤ t) (ht1 : t ≤ 18446744073709551615) :
    Calls Tryz.prog 63 #[.int .i64 1, x.agg, .int .u64 t] w fun e w' => ∃ v, e = .returned v ∧ Batch.Own w' w.heap.size 72 v (Batch.sumsR ([⟨x.t, t, 1⟩] ++ [⟨x.t, x.a, -1⟩])) ∧ Below w.heap.size w w' := by
  have HA := Lib.hid (fun W => ch_new W x.t t 1 72 ⟨hw.t0, hw.t1, ht0, ht1, (dB 1 (.inl rfl)).1, (dB 1 (.inl rfl)).2⟩)
  have HC := Lib.hid (fun W => ch_new W x.t x.a (-1) 72 ⟨hw.t0, hw.t1, hw.a0, hw.a1, (dB (-1) (.inr rfl)).1, (dB (-1) (.inr rfl)).2⟩)
  obtain ⟨xf, xt, xa⟩ := x
  clear hw
  have hb0 : Below w.heap.size w (w.alloc (.cells #[.int .i64 xf, .int .i64 xt, .int .u64 xa] 40)) := (Below.refl _ _).alloc (Nat.le_refl _) _
  have HB0 := Lib.hid hb0
  clear hb0
  go_enter Tryz.func63, Tryz.ntmps63
  go_wp2_with fail
  go_at_call 54
  obtain ⟨w0, hw0⟩ : ∃ w0, w0 = (w.alloc (.cells #[.int .i64 xf, .int .i64 xt, .int .u64 xa] 40)).alloc (.cells #[.int .i64 xt, .int .u64 t, .int .i64 1] 72) := ⟨_, rfl⟩
  obtain ⟨w1, hw1⟩ : ∃ w1, w1 = w0.alloc (.cells #[.int .i64 xt, .int .u64 xa, .int .i64 (-1)] 72) := ⟨_, rfl⟩
  have hs0 : w0.heap.size = w.heap.size + 1 + 1 := by rw [hw0]; simp
  have HA1 := Lib.hid (HA.out (w.alloc (.cells #[.int .i64 xf, .int .i64 xt, .int .u64 xa] 40)))
  have HC1 := Lib.hid (HC.out w0)
  have hbw0 : Below w.heap.size w w0 := by rw [hw0]; exact HB0.out.alloc (by simp) _
  rw [← hw0] at HA1 ⊢
  rw [← hw1] at HC1 ⊢
  have hbw1 : Below w0.heap.size w0 w1 := by rw [hw1]; exact (Below.refl _ _).alloc (Nat.le_refl _) _
  have HB1 := Lib.hid (hbw0.trans (hbw1.mono hbw0.size))
  have HA2 := Lib.hid (HA1.out.below hbw1)
  rw [hs0] at HC1
  clear hw0 hw1 hbw0 hbw1 hs0
  refine (Batch.merge_any (by simpa using HA2.out) HC1.out (one_sorted _) (one_sorted _) (by simp)).mono ?_
  rintro e w2 ⟨v2, rfl, ho, hb⟩
  have HO := Lib.hid (ho.mono HB1.out.size)
  have HB2 := Lib.hid (HB1.out.trans (hb.mono HB1.out.size))
  clear ho hb
  go_wp2_with fail
  go_ret
  exact ⟨_, rfl, HO.out, HB2.out⟩
end Go.Proofs.YtlkljeedlkbkgaaGreatDoor.Cl
