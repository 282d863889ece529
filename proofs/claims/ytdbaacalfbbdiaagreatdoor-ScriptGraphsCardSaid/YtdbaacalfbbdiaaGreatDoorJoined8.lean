/-
  PACKAGES graph, marchlandref05: Paths; marchlandlaw05: Rows.
  PACKAGE marchlandref05: Fix: a graph that may be, out of any.
-/
import Derived.Test.YtdbaacalfbbdiaaGreatDoorGRef
import Derived.Test.YtdbaacalfbbdiaaGreatDoorGTo
import Derived.Deep.RegionHeld3
import Derived.Deep.RegionHeldLaw
import Derived.Deep.DeepCutAuto
import Derived.BigRegion
import Derived.Maps.AppendAt
namespace Go.Proofs.YtdbaacalfbbdiaaGreatDoor.Gr
open Go.RowKit Fault
set_option linter.unusedVariables false

def zd (M : Nat → Nat → Int) (k : Nat) : Nat → Nat → Int := fun i j => if i = j ∧ i < k then 0 else M i j
theorem zd_step (M : Nat → Nat → Int) (k : Nat) (i j : Nat) : upd (zd M k) k k 0 i j = zd M (k + 1) i j := by
  unfold upd zd
  by_cases e : i = k ∧ j = k
  · obtain ⟨rfl, rfl⟩ := e
    rw [if_pos ⟨rfl, rfl⟩, if_pos ⟨rfl, Nat.lt_succ_self _⟩]
  · rw [if_neg e]
    by_cases e2 : i = j ∧ i < k
    · rw [if_pos e2, if_pos ⟨e2.1, by omega⟩]
    · rw [if_neg e2, if_neg (fun h => e2 ⟨h.1, by omega⟩)]
theorem zd_least {E : List Ed} {n : Nat} {M : Nat → Nat → Int} (hE : Fits E n) (h : LeastM E false n M) : LeastM E true n (zd M n) := by
  intro i j hi hj
  unfold zd
  by_cases e : i = j
  · subst e
    rw [if_pos ⟨rfl, hi⟩]
    exact least_here hE i
  · rw [if_neg (fun h => e h.1)]
    exact least_far (by omega) (h i j hi hj)
theorem inputsV_E {n : Int} {I : List Int} : (chkI n I).2 = 0 → ¬ (I.length = 0 ∨ 8 < I.length) := fun h h' => by rw [chkI_many h'] at h; exact absurd h (show (4 : Int) ≠ 0 by decide)
/-- A graph that may be. -/
structure GOk (n : Nat) (E : List Ed) (I : List Int) : Prop where
  n0 : 1 ≤ n
  n1 : n ≤ 64
  len : E.length ≤ 256
  fits : Fits E n
  chk : chkV (n : Int) E I = ([], 0)
theorem gok_of {n : Int} {E : List Ed} {I : List Int} (hw : ∀ x ∈ E, x.Wf) (h : (chkV n E I).2 = 0) : ∃ m : Nat, n = m ∧ GOk m E I := by
  have h' := h
  unfold chkV at h
  split at h
  · exact absurd h (show (2 : Int) ≠ 0 by decide)
  · rename_i h1
    split at h
    · exact absurd h (show (4 : Int) ≠ 0 by decide)
    · rename_i h2
      split at h
      · rename_i h3; exact absurd h h3
      · rename_i h3
        split at h
        · exact absurd h (show (4 : Int) ≠ 0 by decide)
        · rename_i h4
          split at h
          · rename_i h5; exact absurd h h5
          · rename_i h5
            have hn : n = ((n.toNat : Nat) : Int) := by omega
            refine ⟨n.toNat, hn, by omega, by omega, by omega, fits_of hw (by rw [← hn]; exact Decidable.not_not.1 h3), ?_⟩
            rw [← hn]
            unfold chkV
            rw [if_neg h1, if_neg h2, if_neg h3, if_neg h4, if_neg h5]
            cases ho : cycO E n.toNat with
            | none => rfl
            | some p => rw [ho] at h; exact absurd h (show (3 : Int) ≠ 0 by decide)

/-! the same rows? -/
end Go.Proofs.YtdbaacalfbbdiaaGreatDoor.Gr
namespace Go.Proofs.YtdbaacalfbbdiaaGreatDoor.Gr
open Go.RowKit Go.Deep
set_option linter.unusedVariables false
set_option linter.unusedSimpArgs false

/-! plain -/
theorem cost_zero {E : List Ed} (ha : ∀ e ∈ E, 0 ≤ e.a) : ∀ {es : List Ed} {i j : Int}, Chn E i es j → 0 ≤ cost es
  | [], _, _, _ => Int.le_refl _
  | e :: r, _, _, h => by
    have h1 := ha e h.1
    have h2 := cost_zero ha h.2.2
    unfold cost
    omega
theorem chn_rises {E : List Ed} (ha : ∀ e ∈ E, 0 ≤ e.a) (h : ∀ e ∈ E, e.f < e.t ∨ 1 ≤ e.a) : ∀ {es : List Ed} {i j : Int}, Chn E i es j → cost es = 0 → i + es.length ≤ j
  | [], _, _, hc, _ => by obtain rfl := hc; simp
  | e :: r, i, j, hc, h0 => by
    have h1 := ha e hc.1
    have h2 := cost_zero ha hc.2.2
    unfold cost at h0
    have h3 := chn_rises ha h hc.2.2 (by omega)
    have h4 := hc.2.1
    rcases h e hc.1 with h5 | h5
    · rw [List.length_cons]; push_cast; omega
    · omega
theorem no_round {E : List Ed} (ha : ∀ e ∈ E, 0 ≤ e.a) (h : ∀ e ∈ E, e.f < e.t ∨ 1 ≤ e.a) (p : Int) : ¬ Round E p := by
  rintro ⟨es, hw, h0⟩
  have h1 := chn_rises ha h hw.1 h0
  rcases hw.2 with e | e
  · exact absurd e (by decide)
  · have : 0 < es.length := List.length_pos_iff.2 e
    omega
theorem chkV_ok {n : Nat} {E : List Ed} {I : List Int} (n0 : 1 ≤ n) (n1 : n ≤ 64) (hl : E.length ≤ 256) (hf : Fits E n) (i0 : I ≠ []) (i1 : I.length ≤ 8) (hi : InOk n I I.length) (hr : ∀ p, ¬ Round E p) : chkV (n : Int) E I = ([], 0) := by
  unfold chkV
  rw [if_neg (by omega), if_neg (by omega), if_neg (by rw [edgesV_ok (fun y hy => ⟨⟨(hf y hy).1, (hf y hy).2.1⟩, ⟨(hf y hy).2.2.1, (hf y hy).2.2.2.1⟩⟩)]; simp), if_neg (by have : I.length ≠ 0 := fun e => i0 (List.length_eq_zero_iff.1 e); omega), if_neg (by rw [inputsV_ok hi]; simp), Int.toNat_natCast, cycO_eq (.inr ⟨rfl, fun q _ => hr q⟩)]
  rfl
theorem u64_range (n : Int) : 0 ≤ IntKind.u64.wrap n ∧ IntKind.u64.wrap n ≤ 18446744073709551615 := by
  unfold IntKind.wrap
  simp [IntKind.bits, IntKind.signed]
  omega
theorem i64_id {n : Int} (h0 : -9223372036854775808 ≤ n) (h1 : n ≤ 9223372036854775807) : IntKind.i64.wrap n = n := by
  unfold IntKind.wrap
  simp [IntKind.bits, IntKind.signed]
  omega
theorem u64_id {n : Int} (h0 : 0 ≤ n) (h1 : n ≤ 18446744073709551615) : IntKind.u64.wrap n = n := by
  unfold IntKind.wrap
  simp [IntKind.bits, IntKind.signed]
  omega
def fixM (m x : Int) : Int := IntKind.i64.wrap ((IntKind.u64.wrap x).tmod (IntKind.u64.wrap m))
theorem fixM_range {m x : Int} (h0 : 1 ≤ m) (h1 : m ≤ 64) : 0 ≤ fixM m x ∧ fixM m x < m := by
  unfold fixM
  rw [u64_id (n := m) (by omega) (by omega)]
  have h2 := Int.tmod_nonneg m (u64_range x).1
  have h3 := Int.tmod_lt_of_pos (IntKind.u64.wrap x) (show 0 < m by omega)
  rw [i64_id (by omega) (by omega)]
  exact ⟨h2, h3⟩
def fixE (m : Int) (e : Ed) : Ed := ⟨fixM m e.f, fixM m e.t, if fixM m e.t ≤ fixM m e.f ∧ e.a = 0 then 1 else e.a⟩
def fixEs (m : Int) (E : List Ed) : List Ed := (E.take 12).map (fixE m)
theorem fixEs_fits {m : Nat} {E : List Ed} (h0 : 1 ≤ m) (h1 : m ≤ 64) (hw : ∀ x ∈ E, x.Wf) : Fits (fixEs m E) m := by
  intro e he
  obtain ⟨y, hy, rfl⟩ := List.mem_map.1 he
  have hyw := hw y (List.mem_of_mem_take hy)
  have a1 := fixM_range (m := m) (x := y.f) (by omega) (by omega)
  have a2 := fixM_range (m := m) (x := y.t) (by omega) (by omega)
  refine ⟨a1.1, a1.2, a2.1, a2.2, ?_, ?_⟩ <;> (unfold fixE; simp only; split <;> first | omega | exact hyw.a0 | exact hyw.a1)
theorem fixEs_wf {m : Nat} {E : List Ed} (h0 : 1 ≤ m) (h1 : m ≤ 64) (hw : ∀ x ∈ E, x.Wf) : ∀ x ∈ fixEs m E, x.Wf := by
  intro e he
  have h := fixEs_fits h0 h1 hw e he
  exact ⟨by omega, by omega, by omega, by omega, h.2.2.2.2.1, h.2.2.2.2.2⟩
theorem fixEs_rise {m : Nat} {E : List Ed} (hw : ∀ x ∈ E, x.Wf) : ∀ e ∈ fixEs m E, e.f < e.t ∨ 1 ≤ e.a := by
  intro e he
  obtain ⟨y, hy, rfl⟩ := List.mem_map.1 he
  have hyw := (hw y (List.mem_of_mem_take hy)).a0
  unfold fixE
  simp only
  split <;> omega
def fixN (n : Int) : Int := 1 + IntKind.i64.wrap ((IntKind.u64.wrap n).tmod 6)
theorem fixN_range (n : Int) : 1 ≤ fixN n ∧ fixN n ≤ 6 := by
  unfold fixN
  have h2 := Int.tmod_nonneg 6 (u64_range n).1
  have h3 := Int.tmod_lt_of_pos (IntKind.u64.wrap n) (show (0 : Int) < 6 by decide)
  rw [i64_id (by omega) (by omega)]
  omega
theorem fixN_walk (n : Int) : wrap64 (1 + wrap64 ((IntKind.u64.wrap n).tmod 6)) = fixN n := by
  have h2 := Int.tmod_nonneg 6 (u64_range n).1
  have h3 := Int.tmod_lt_of_pos (IntKind.u64.wrap n) (show (0 : Int) < 6 by decide)
  have e1 : IntKind.i64.wrap ((IntKind.u64.wrap n).tmod 6) = (IntKind.u64.wrap n).tmod 6 := i64_id (by omega) (by omega)
  have e2 : wrap64 ((IntKind.u64.wrap n).tmod 6) = (IntKind.u64.wrap n).tmod 6 := by unfold wrap64; omega
  unfold fixN
  rw [e2, e1]
  unfold wrap64
  omega
theorem Own.grown {w w' : World} {base : Nat} {T : TypeId} {v : Value} {l : List Ed} {row : Option Nat} (h : Own w base T v l) (hg : w.grownBy w' row) (hne : v.ownBlock = none ∨ v.ownBlock ≠ row) : Own w' base T v l := by
  refine ⟨h.1, ?_⟩
  rcases h.2 with h2 | ⟨g, cap, cur, rfl, hb, hk, rest⟩
  · exact .inl h2
  · refine .inr ⟨g, cap, cur, rfl, hb, (hg.block g (Array.getElem?_eq_some_iff.1 hk).1 ?_).trans hk, rest⟩
    rcases hne with h | h
    · simp [Value.ownBlock] at h
    · exact h
theorem own1 {w : World} {base : Nat} {T : TypeId} (a : Int) (hb : base ≤ w.heap.size) : OwnI (w.alloc (.cells #[.int .i64 a] T)) base T (.slice (some ⟨w.heap.size, 0, none⟩) 1 1) [a] :=
  ⟨rfl, .inr ⟨w.heap.size, 1, #[.int .i64 a], rfl, hb, heap_alloc_new w _, Nat.le_refl _, by decide, rfl, rfl⟩⟩
theorem InOk.snoc {n : Int} {l : List Int} {p : Int} (h : InOk n l l.length) (hp : inP n p) (hm : p ∉ l) : InOk n (l ++ [p]) (l ++ [p]).length := by
  intro j q hj hq
  rw [List.length_append] at hj
  simp only [List.length_cons, List.length_nil] at hj
  by_cases e : j < l.length
  · rw [List.getElem?_append_left e] at hq
    rw [List.take_append_of_le_length (by omega)]
    exact h j q e hq
  · obtain rfl : j = l.length := by omega
    rw [List.getElem?_append_right (Nat.le_refl _), Nat.sub_self] at hq
    obtain rfl := Option.some.inj hq
    rw [List.take_left]
    exact ⟨hp, hm⟩
theorem OwnI.cells {w : World} {base : Nat} {T : TypeId} {v : Value} {l : List Int} (h : OwnI w base T v l) (hne : l ≠ []) : ∃ g cap, v = .slice (some ⟨g, 0, none⟩) l.length cap ∧ ∀ j x, l[j]? = some x → w.cell? ⟨g, j, none⟩ = some (.int .i64 x) := by
  have h0 := h
  rcases h.2 with ⟨_, hn⟩ | ⟨g, cap, cur, rfl, hb, hg, hc, hm, _⟩
  · exact absurd (List.length_eq_zero_iff.1 hn) hne
  · refine ⟨g, cap, rfl, fun i x hx => ?_⟩
    have := World.ownsRow.cells h0 (g := g) rfl i _ (intsL_at hx)
    rw [show ((⟨g, 0, none⟩ : Addr).add i) = ⟨g, i, none⟩ by unfold Addr.add; split <;> simp_all] at this
    exact this
theorem intsL_snoc (l : List Int) (x : Int) : intsL (l ++ [x]) = intsL l ++ [.int .i64 x] := by unfold intsL; simp
def Mk (p : Prop) : Prop := p
theorem mk_of {p : Prop} (h : Mk p) : p := h
theorem infoRed : (Tryz.prog.info? 96).map (fun i => (i.zero, i.size, i.bytes)) = some (some (.agg #[.int .i64 0, .int .i64 0, .int .u64 0]), 3, 24) := by kernel_rfl
/-- What the walk works on: the box of the argument, the result's cells. -/
structure FixW (w w2 : World) (n : Int) (ao aoi : Option Addr) (le ce li ci : Nat) : Prop where
  sz : w2.heap.size = w.heap.size + 2
  bel : Below w.heap.size w w2
  b0 : w2.cell? ⟨w.heap.size, 0, none⟩ = some (.int .i64 n)
  b1 : w2.cell? ⟨w.heap.size, 1, none⟩ = some (.slice ao le ce)
  b2 : w2.cell? ⟨w.heap.size, 2, none⟩ = some (.slice aoi li ci)
  res : w2.heap[w.heap.size + 1]? = some (.cells #[.int .i64 0, .slice none 0 0, .slice none 0 0] 44 (0, 0))
def FixPost (w : World) (e : Ending) (w' : World) : Prop := ∃ (m : Nat) (ve' vi' : Value) (E' : List Ed) (I' : List Int), m ≤ 6 ∧ E'.length ≤ 12 ∧ e = .returned (.agg #[.int .i64 (m : Int), ve', vi']) ∧ GMemP w' ve' vi' E' I' ∧ Own w' (w.heap.size + 3) 96 ve' E' ∧ OwnI w' (w.heap.size + 3) 3 vi' I' ∧ GOk m E' I' ∧ Below w.heap.size w w'
end Go.Proofs.YtdbaacalfbbdiaaGreatDoor.Gr
