/-
  PACKAGE marchlandref09, MEMORY and PLAIN MATHEMATICS: of each Event which ones happen before it.
-/
import Derived.Test.YtjmkcgkkgamafaaCkMath
import Derived.Test.YtjmkcgkkgamafaaMemStep
import Derived.Test.YtjmkcgkkgamafaaMemNew
namespace Go.Proofs.Ytjmkcgkkgamafaa.Ck
open Go.RowKit Rw Mm Go.Maps Pk
set_option linter.unusedVariables false

def boolK : Kd Bool where
  k := 1
  cells b := [.bool b]
  wf _ := True
  len _ := rfl
  one x u hu := by simp at hu; subst hu; rfl
theorem infoBo : (Try.prog.info? 4).map (fun i => (i.zero, i.size, i.bytes)) = some (some (.bool false), boolK.k, 1) := by kernel_rfl
theorem infoBs : (Try.prog.info? 23).map (fun i => (i.zero, i.size, i.bytes)) = some (some (.slice none 0 0), 1, 24) := by kernel_rfl

/-! ### plain -/
structure AhRow (l : List Ev) (j m : Nat) (R : List Bool) : Prop where
  len : R.length = l.length
  done : ∀ x, m ≤ x → x < j → (R.getD x false = true ↔ HB l x j)
  left : ∀ x, x < m → (R.getD x false = true ↔ ∃ p, m ≤ p ∧ StepP l p j ∧ HB l x p)
  far : ∀ x, j ≤ x → R.getD x false = false
theorem ahRow_start (l : List Ev) (j : Nat) : AhRow l j j (List.replicate l.length false) := by
  have hz : ∀ x, (List.replicate l.length false).getD x false = false := fun x => by rw [List.getD_eq_getElem?_getD, List.getElem?_replicate]; split <;> rfl
  refine ⟨by simp, fun x h1 h2 => by omega, fun x hx => ?_, fun x _ => hz x⟩
  rw [hz]
  exact ⟨(fun h => by cases h), fun ⟨p, h1, h2, _⟩ => by have := h2.1; omega⟩
/-- Nothing comes by i itself. -/
theorem ahRow_skip {l : List Ev} {j i : Nat} {R : List Bool} (h : AhRow l j (i + 1) R) (hij : i < j) (hs : R.getD i false = true ∨ ¬ StepP l i j) : AhRow l j i R := by
  have hi := h.left i (by omega)
  refine ⟨h.len, fun x h1 h2 => ?_, fun x hx => ?_, h.far⟩
  · by_cases hxi : x = i
    · subst hxi
      constructor
      · intro ht
        obtain ⟨p, h3, h4, h5⟩ := hi.1 ht
        exact .more h5 h4
      · intro hb
        obtain ⟨p, h3, h4⟩ := HB.last.1 hb
        rcases h4 with rfl | h4
        · rcases hs with hs | hs
          · exact hs
          · exact absurd h3 hs
        · exact hi.2 ⟨p, by have := h4.lt; omega, h3, h4⟩
    · exact h.done x (by omega) h2
  · rw [h.left x (by omega)]
    constructor
    · rintro ⟨p, h1, h2, h3⟩
      exact ⟨p, by omega, h2, h3⟩
    · rintro ⟨p, h1, h2, h3⟩
      by_cases hpi : p = i
      · subst hpi
        rcases hs with hs | hs
        · obtain ⟨q, q1, q2, q3⟩ := hi.1 hs
          exact ⟨q, q1, q2, h3.trans q3⟩
        · exact absurd h2 hs
      · exact ⟨p, by omega, h2, h3⟩
/-- In the midst of what comes by i: the first k are done. -/
structure AhMid (l : List Ev) (j i k : Nat) (R : List Bool) : Prop where
  len : R.length = l.length
  one : ∀ x, i ≤ x → x < j → (R.getD x false = true ↔ HB l x j)
  yes : ∀ x, x < k → x < i → (R.getD x false = true ↔ ∃ p, i ≤ p ∧ StepP l p j ∧ HB l x p)
  left : ∀ x, k ≤ x → x < i → (R.getD x false = true ↔ ∃ p, i + 1 ≤ p ∧ StepP l p j ∧ HB l x p)
  far : ∀ x, j ≤ x → R.getD x false = false
theorem getDB_self {L : List Bool} {n : Nat} (h : n < L.length) (x : Bool) : (L.set n x).getD n false = x := by rw [List.getD_eq_getElem?_getD, List.getElem?_set_self h]; rfl
theorem getDB_ne {L : List Bool} {n n' : Nat} (h : n ≠ n') (x : Bool) : (L.set n x).getD n' false = L.getD n' false := by rw [List.getD_eq_getElem?_getD, List.getD_eq_getElem?_getD, List.getElem?_set_ne h]
theorem ahMid_start {l : List Ev} {j i : Nat} {R : List Bool} (h : AhRow l j (i + 1) R) (hij : i < j) (hj : j < l.length) (hs : StepP l i j) : AhMid l j i 0 (R.set i true) := by
  have hl := h.len
  refine ⟨by rw [List.length_set]; exact h.len, fun x h1 h2 => ?_, fun x h1 => by omega, fun x h1 h2 => ?_, fun x hx => ?_⟩
  · by_cases hxi : i = x
    · subst hxi
      rw [getDB_self (by omega)]
      exact ⟨fun _ => .one hs, fun _ => rfl⟩
    · rw [getDB_ne hxi]; exact h.done x (by omega) h2
  · rw [getDB_ne (by omega)]; exact h.left x (by omega)
  · rw [getDB_ne (by omega)]; exact h.far x hx
theorem ahMid_next {l : List Ev} {j i k : Nat} {R : List Bool} (h : AhMid l j i k R) (hij : i < j) (hj : j < l.length) (hs : StepP l i j) (hk : k < i) {b : Bool} (hb : b = true ↔ HB l k i) : AhMid l j i (k + 1) (R.set k (R.getD k false || b)) := by
  have hl := h.len
  refine ⟨by rw [List.length_set]; exact h.len, fun x h1 h2 => ?_, fun x h1 h2 => ?_, fun x h1 h2 => ?_, fun x hx => ?_⟩
  · rw [getDB_ne (by omega)]; exact h.one x h1 h2
  · by_cases hxk : k = x
    · subst hxk
      rw [getDB_self (by omega), Bool.or_eq_true, h.left k (Nat.le_refl _) hk, hb]
      constructor
      · rintro (⟨p, q1, q2, q3⟩ | q)
        · exact ⟨p, by omega, q2, q3⟩
        · exact ⟨i, Nat.le_refl _, hs, q⟩
      · rintro ⟨p, q1, q2, q3⟩
        by_cases hpi : p = i
        · subst hpi; exact .inr q3
        · exact .inl ⟨p, by omega, q2, q3⟩
    · rw [getDB_ne hxk]; exact h.yes x (by omega) h2
  · rw [getDB_ne (by omega)]; exact h.left x (by omega) h2
  · rw [getDB_ne (by omega)]; exact h.far x hx
theorem ahMid_end {l : List Ev} {j i : Nat} {R : List Bool} (h : AhMid l j i i R) : AhRow l j i R := ⟨h.len, h.one, fun x hx => h.yes x hx hx, h.far⟩
def RowOk (l : List Ev) (j : Nat) (R : List Bool) : Prop := R.length = l.length ∧ ∀ x, R.getD x false = true ↔ HB l x j
theorem ahRow_end {l : List Ev} {j : Nat} {R : List Bool} (h : AhRow l j 0 R) : RowOk l j R := by
  refine ⟨h.len, fun x => ?_⟩
  by_cases hx : x < j
  · exact h.done x (Nat.zero_le _) hx
  · rw [h.far x (by omega)]
    exact ⟨(fun q => by cases q), fun q => by have := q.lt; omega⟩

/-! ### memory -/
structure AhIs (n0 : Nat) (τ : Nat → Nat) (w0 w : World) (vo : Value) (bv : List Sv) (rows : List (List Bool)) : Prop where
  out : Row svK w τ 1 23 vo bv
  len : bv.length = rows.length
  row : ∀ (i : Nat) s r, bv[i]? = some s → rows[i]? = some r → Row boolK w τ 2 4 s.val r ∧ ∃ g, s = ⟨some ⟨g, 0, none⟩, r.length, r.length⟩
  tz : ∀ i, τ i ≠ 0 → n0 ≤ i ∧ i < w.heap.size
  bl : Below n0 w0 w
  nl : n0 ≤ w.heap.size
section
variable {n0 gr : Nat} {τ τ' : Nat → Nat} {w0 w w' : World} {vo : Value} {bv : List Sv} {rows : List (List Bool)} {R : List Bool}
theorem ahIs_start (w : World) : AhIs w.heap.size (fun _ => 0) w w (.slice none 0 0) [] [] :=
  ⟨⟨Own.nil _ _ _, fun g h => by simp [Value.ownBlock] at h⟩, rfl, fun i s r h => by simp at h, fun i h => absurd rfl h, Below.refl _ _, Nat.le_refl _⟩
theorem AhIs.keep (h : AhIs n0 τ w0 w vo bv rows) (hk : Keep τ (fun t => t = 3) w w') (he : Ext w.heap.size τ τ') (hz : ∀ i, τ' i ≠ 0 → n0 ≤ i ∧ i < w'.heap.size) (hb : Below n0 w w') : AhIs n0 τ' w0 w' vo bv rows :=
  ⟨h.out.keep hk he (by decide) (by decide), h.len, fun i s r hs hr => ⟨(h.row i s r hs hr).1.keep hk he (by decide) (by decide), (h.row i s r hs hr).2⟩, hz, h.bl.trans hb, Nat.le_trans h.nl hk.1⟩
def AhC (n0 : Nat) (w0 : World) (vo : Value) (bv : List Sv) (rows : List (List Bool)) (gr : Nat) (R : List Bool) (w : World) : Prop := ∃ τ, AhIs n0 τ w0 w vo bv rows ∧ Row boolK w τ 3 4 (.slice (some ⟨gr, 0, none⟩) R.length R.length) R
def AhD (n0 : Nat) (w0 : World) (vo : Value) (bv : List Sv) (rows : List (List Bool)) (w : World) : Prop := ∃ τ, AhIs n0 τ w0 w vo bv rows
theorem AhD.below (h : AhD n0 w0 vo bv rows w) (hb : Below w.heap.size w w') : AhD n0 w0 vo bv rows w' := by
  obtain ⟨τ, h⟩ := h
  exact ⟨τ, h.keep ⟨hb.size, fun i hi _ _ => hb.block i hi⟩ (fun _ _ => rfl) (fun i hi => ⟨(h.tz i hi).1, Nat.lt_of_lt_of_le (h.tz i hi).2 hb.size⟩) (hb.mono h.nl)⟩
theorem AhC.below (h : AhC n0 w0 vo bv rows gr R w) (hb : Below w.heap.size w w') : AhC n0 w0 vo bv rows gr R w' := by
  obtain ⟨τ, h, k⟩ := h
  exact ⟨τ, h.keep ⟨hb.size, fun i hi _ _ => hb.block i hi⟩ (fun _ _ => rfl) (fun i hi => ⟨(h.tz i hi).1, Nat.lt_of_lt_of_le (h.tz i hi).2 hb.size⟩) (hb.mono h.nl), k.keep (q := fun _ => False) ⟨hb.size, fun i hi _ _ => hb.block i hi⟩ (fun _ _ => rfl) (by decide) id⟩
theorem AhD.bl (h : AhD n0 w0 vo bv rows w) : Below n0 w0 w := by obtain ⟨_, h⟩ := h; exact h.bl
theorem AhC.bl (h : AhC n0 w0 vo bv rows gr R w) : Below n0 w0 w := by obtain ⟨_, h, _⟩ := h; exact h.bl
theorem AhD.new (h : AhD n0 w0 vo bv rows w) {o : Obj} {n : Nat} (ho : ∀ (w' : World) (g : Nat), w'.heap[g]? = some o → Own boolK w' 0 4 (.slice (some ⟨g, 0, none⟩) n n) (List.replicate n false)) : AhC n0 w0 vo bv rows w.heap.size (List.replicate n false) (w.alloc o) := by
  obtain ⟨τ, h⟩ := h
  have hb : Below w.heap.size w (w.alloc o) := (Below.refl _ _).alloc (Nat.le_refl _) _
  have hown := ho (w.alloc o) w.heap.size (heap_alloc_new w o)
  refine ⟨fun i => if i = w.heap.size then 3 else τ i, h.keep ⟨hb.size, fun i hi _ _ => hb.block i hi⟩ (fun i hi => if_neg (by omega)) (fun i hi => ?_) (hb.mono h.nl), ?_, fun g hg => ?_⟩
  · by_cases e : i = w.heap.size
    · subst e; exact ⟨h.nl, by simp⟩
    · simp only [if_neg e] at hi
      exact ⟨(h.tz i hi).1, Nat.lt_of_lt_of_le (h.tz i hi).2 hb.size⟩
  · rw [List.length_replicate]; exact hown
  · simp [Value.ownBlock] at hg
    subst hg; exact if_pos rfl
theorem AhC.set (h : AhC n0 w0 vo bv rows gr R w) {x : Nat} (hx : x < R.length) (b : Bool) : AhC n0 w0 vo bv rows gr (R.set x b) (w.setCell ⟨gr, x, none⟩ (.bool b)) := by
  obtain ⟨τ, h, k⟩ := h
  have hg : τ gr = 3 := k.2 gr rfl
  have hn := (h.tz gr (by rw [hg]; decide)).1
  have hk := keep_set (w := w) hg x (.bool b)
  have hxx : R[x]? = some R[x] := List.getElem?_eq_getElem hx
  refine ⟨τ, h.keep hk (fun _ _ => rfl) (fun i hi => by rw [size_setCell]; exact h.tz i hi) ((Below.refl _ _).setCell hn _), ?_⟩
  rw [List.length_set]
  exact row_set1 rfl k hxx rfl
theorem AhC.cell (h : AhC n0 w0 vo bv rows gr R w) {x : Nat} (hx : x < R.length) : w.cell? ⟨gr, x, none⟩ = some (.bool (R.getD x false)) ∧ w.frozen? ⟨gr, x, none⟩ = false := by
  obtain ⟨τ, h, k⟩ := h
  have hxx : R[x]? = some (R.getD x false) := by rw [List.getD_eq_getElem?_getD, List.getElem?_eq_getElem hx]; rfl
  have := (k.1.at hxx) 0 _ (by decide) rfl
  simp only [show boolK.k = 1 from rfl, Nat.mul_one, Nat.add_zero] at this
  exact ⟨this, k.1.free _⟩
/-- Where row i lies, and what it has at k. -/
theorem AhIs.at (h : AhIs n0 τ w0 w vo bv rows) {i x : Nat} {r : List Bool} (hr : rows[i]? = some r) (hx : x < r.length) : ∃ g cap gi, vo = .slice (some ⟨g, 0, none⟩) rows.length cap ∧ w.cell? ⟨g, i, none⟩ = some (.slice (some ⟨gi, 0, none⟩) r.length r.length) ∧ w.cell? ⟨gi, x, none⟩ = some (.bool (r.getD x false)) := by
  have hi := (List.getElem?_eq_some_iff.1 hr).1
  obtain ⟨s, hs⟩ : ∃ s, bv[i]? = some s := ⟨_, List.getElem?_eq_getElem (by rw [h.len]; exact hi)⟩
  obtain ⟨g, cap, hv, hgl, _, hat, _⟩ := row_at h.out hs
  obtain ⟨hrow, gi, rfl⟩ := h.row i s r hs hr
  have hxx : r[x]? = some (r.getD x false) := by rw [List.getD_eq_getElem?_getD, List.getElem?_eq_getElem hx]; rfl
  have h1 := hat 0 _ (by decide) rfl
  have h2 := (Own.at (show Own boolK w 0 4 (.slice (some ⟨gi, 0, none⟩) r.length r.length) r from hrow.1) hxx) 0 _ (by decide) rfl
  simp only [show boolK.k = 1 from rfl, show svK.k = 1 from rfl, Nat.mul_one, Nat.add_zero] at h1 h2
  exact ⟨g, cap, gi, by rw [hv, h.len], h1, h2⟩
theorem AhC.at (h : AhC n0 w0 vo bv rows gr R w) {i x : Nat} {r : List Bool} (hr : rows[i]? = some r) (hx : x < r.length) : ∃ g cap gi, vo = .slice (some ⟨g, 0, none⟩) rows.length cap ∧ w.cell? ⟨g, i, none⟩ = some (.slice (some ⟨gi, 0, none⟩) r.length r.length) ∧ w.cell? ⟨gi, x, none⟩ = some (.bool (r.getD x false)) := by
  obtain ⟨τ, h, _⟩ := h; exact h.at hr hx
theorem AhD.at (h : AhD n0 w0 vo bv rows w) {i x : Nat} {r : List Bool} (hr : rows[i]? = some r) (hx : x < r.length) : ∃ g cap gi, vo = .slice (some ⟨g, 0, none⟩) rows.length cap ∧ w.cell? ⟨g, i, none⟩ = some (.slice (some ⟨gi, 0, none⟩) r.length r.length) ∧ w.cell? ⟨gi, x, none⟩ = some (.bool (r.getD x false)) := by
  obtain ⟨τ, h⟩ := h; exact h.at hr hx
theorem AhC.form (h : AhC n0 w0 vo bv rows gr R w) : ∃ ao cap, vo = .slice ao rows.length cap ∧ w.ownsRow 0 23 1 vo rows.length (svK.flat bv) ∧ gr < w.heap.size := by
  obtain ⟨τ, h, k⟩ := h
  obtain ⟨ao, cap, hv⟩ := h.out.1.form2
  have := h.out.1
  unfold Own at this
  rw [h.len] at this hv
  exact ⟨ao, cap, hv, this, own_block_lt k.1 rfl⟩
theorem AhC.append {w1 : World} {v' : Value} (h : AhC n0 w0 vo bv rows gr R w) (o : Obj) (hown : w1.ownsRow 0 23 1 v' (rows.length + 1) (svK.flat bv ++ [.slice (some ⟨gr, 0, none⟩) R.length R.length])) (hg : (w.alloc o).grownBy w1 vo.ownBlock) (hblk : v'.ownBlock = vo.ownBlock ∨ v'.ownBlock = some (w.heap.size + 1)) :
    AhD n0 w0 v' (bv ++ [⟨some ⟨gr, 0, none⟩, R.length, R.length⟩]) (rows ++ [R]) w1 := by
  obtain ⟨τ, h, k⟩ := h
  have hgr : τ gr = 3 := k.2 gr rfl
  have hgl : gr < w.heap.size := own_block_lt k.1 rfl
  have hs0 : (w.alloc o).heap.size = w.heap.size + 1 := by simp
  have hs1 : w.heap.size + 1 ≤ w1.heap.size := by rw [← hs0]; exact hg.size
  have hold : ∀ i, i < w.heap.size → some i ≠ vo.ownBlock → w1.heap[i]? = w.heap[i]? := fun i hi hne => (hg.block i (by omega) hne).trans (heap_alloc_old w o hi)
  have hown' : Own svK w1 0 23 v' (bv ++ [⟨some ⟨gr, 0, none⟩, R.length, R.length⟩]) := own_any hown (by simp [h.len]) (by rw [flat_snoc]; rfl)
  obtain ⟨τ', hτ⟩ : ∃ τ' : Nat → Nat, τ' = fun i => if i < w.heap.size then (if i = gr then 2 else τ i) else if v'.ownBlock = some i then 1 else 0 := ⟨_, rfl⟩
  have hlt : ∀ i, i < w.heap.size → i ≠ gr → τ' i = τ i := fun i hi hne => by rw [hτ]; simp only [if_pos hi, if_neg hne]
  have hlg : τ' gr = 2 := by rw [hτ]; simp only [if_pos hgl, if_true]
  refine ⟨τ', ⟨hown', fun g hgg => ?_⟩, by simp [h.len], fun i s r hs hr => ?_, fun i hi => ?_, ?_, by have := h.nl; omega⟩
  · by_cases hgs : g < w.heap.size
    · rcases hblk with hb | hb
      · have ht := h.out.2 g (by rw [← hb]; exact hgg)
        rw [hlt g hgs (fun e => by rw [e, hgr] at ht; cases ht)]; exact ht
      · rw [hb] at hgg; have := Option.some.inj hgg; omega
    · rw [hτ]; simp only [if_neg hgs, if_pos hgg]
  · by_cases hil : i < rows.length
    · rw [List.getElem?_append_left (by rw [h.len]; exact hil)] at hs
      rw [List.getElem?_append_left hil] at hr
      obtain ⟨h1, h2⟩ := h.row i s r hs hr
      refine ⟨⟨own_of_block h1.1 fun g hgg => hold g (own_block_lt h1.1 hgg) fun e => ?_, fun g hgg => ?_⟩, h2⟩
      · have a1 := h1.2 g hgg
        have a2 := h.out.2 g e.symm
        rw [a1] at a2; cases a2
      · have a1 := h1.2 g hgg
        rw [hlt g (own_block_lt h1.1 hgg) (fun e => by rw [e, hgr] at a1; cases a1)]; exact a1
    · have hi2 : i = rows.length := by
        have := (List.getElem?_eq_some_iff.1 hr).1
        simp at this; omega
      subst hi2
      rw [List.getElem?_append_right (Nat.le_refl _)] at hr
      rw [← h.len, List.getElem?_append_right (Nat.le_refl _)] at hs
      simp at hs hr
      subst hs hr
      refine ⟨⟨own_of_block k.1 fun g hgg => ?_, fun g hgg => ?_⟩, gr, rfl⟩
      · simp [Sv.val, Value.ownBlock] at hgg
        subst hgg
        exact hold gr hgl fun e => by have := h.out.2 gr e.symm; rw [hgr] at this; cases this
      · simp [Sv.val, Value.ownBlock] at hgg
        subst hgg; exact hlg
  · by_cases hil : i < w.heap.size
    · by_cases hig : i = gr
      · subst hig; exact ⟨(h.tz i (by rw [hgr]; decide)).1, by omega⟩
      · rw [hlt i hil hig] at hi
        exact ⟨(h.tz i hi).1, by omega⟩
    · rw [hτ] at hi
      simp only [if_neg hil] at hi
      by_cases hv : v'.ownBlock = some i
      · exact ⟨by have := h.nl; omega, own_block_lt hown' hv⟩
      · rw [if_neg hv] at hi; exact absurd rfl hi
  · exact h.bl.trans (((Below.refl _ _).alloc h.nl o).grown hg (by rw [hs0]; have := h.nl; omega) (fun g e => (h.tz g (by rw [h.out.2 g e]; decide)).1))
end
end Go.Proofs.Ytjmkcgkkgamafaa.Ck
