/-
  PACKAGE script: one more at the end of a row; the pieces of a text; a struct of five cells.
-/
import Derived.Test.YtdbaacalfbbdiaaGreatDoorJoined5
namespace Go.Proofs.YtdbaacalfbbdiaaGreatDoor.Sc
open Go.RowKit
set_option linter.unusedVariables false
set_option linter.unusedSimpArgs false
/-- Only block c is another one. -/
def Ex (c : Nat) (w w' : World) : Prop := w.heap.size ≤ w'.heap.size ∧ ∀ k, k < w.heap.size → k ≠ c → w'.heap[k]? = w.heap[k]?
theorem Ex.refl (c : Nat) (w : World) : Ex c w w := ⟨Nat.le_refl _, fun _ _ _ => rfl⟩
theorem Ex.below {c : Nat} {w w1 w2 : World} (h : Ex c w w1) (hb : Below w1.heap.size w1 w2) : Ex c w w2 := ⟨Nat.le_trans h.1 hb.size, fun k hk hc => (hb.block k (Nat.lt_of_lt_of_le hk h.1)).trans (h.2 k hk hc)⟩
theorem Ex.base {c B : Nat} {w w1 w2 : World} (h : Ex c w w1) (hB : w.heap.size ≤ B) (hb : Below B w1 w2) : Ex c w w2 := ⟨Nat.le_trans h.1 hb.size, fun k hk hc => (hb.block k (by omega)).trans (h.2 k hk hc)⟩
theorem Ex.set {c : Nat} {w w1 : World} (h : Ex c w w1) (o : Nat) (v : Value) : Ex c w (w1.setCell ⟨c, o, none⟩ v) := ⟨by simpa using h.1, fun k hk hc => (heap_setCell_other _ _ _ _ hc).trans (h.2 k hk hc)⟩
theorem Ex.cell {c : Nat} {w w1 : World} (h : Ex c w w1) {g o : Nat} {v : Option Value} (hg : g < w.heap.size) (hne : g ≠ c) (hv : w.cell? ⟨g, o, none⟩ = v) : w1.cell? ⟨g, o, none⟩ = v := (World.cell?_of_block (w := w) (h.2 g hg hne)).trans hv
theorem Ex.rd {c : Nat} {w w1 : World} (h : Ex c w w1) {g o n k : Nat} {xs : List Bs} (hv : RdStr w (.slice (some ⟨g, o, none⟩) n k) xs) (hne : g ≠ c) : RdStr w1 (.slice (some ⟨g, o, none⟩) n k) xs := by
  obtain ⟨g', o', c', e, h1, h2, h3⟩ := hv
  simp only [Value.slice.injEq, Option.some.injEq, Addr.mk.injEq] at e
  obtain ⟨⟨rfl, rfl, _⟩, rfl, rfl⟩ := e
  exact ⟨_, _, _, rfl, h1, Nat.lt_of_lt_of_le h2 h.1, fun i x hx => h.cell h2 hne (h3 i x hx)⟩
theorem free_of {w : World} {b : Nat} {T : TypeId} {cs : Array Value} (h : w.heap[b]? = some (.cells cs T (0, 0))) (o : Nat) : w.frozen? ⟨b, o, none⟩ = false := by simp [World.frozen?, h]
/-- One element at the end of a row of the call's own. -/
theorem app1 {P : Program} (w : World) {ops : Array Oper} {o : Oper} {a : Act} {K : Act → World → Prop} {Q : Exit → Act → World → Prop} {E : Prop} (hgd : o.guard = none) (s x : Operand) (t : TypeId)
    (ho : o.op = .call { callee := .builtin .append, args := #[s, x], argTypes := #[t, t] })
    (base : Nat) (e : TypeId) (i : TypeInfo) (z : Value) (size bytes : Nat) (ht : P.underlying t = some (.slice e)) (hi : P.info? e = some i) (hz : i.zero = some z)
    (hsize : i.size = size) (hby : i.bytes = bytes) (hzs : z.cells.size = size) (hsz : 0 < size)
    (v : Value) (n : Nat) (xs : List Value) (hs : a.eval s = v) (hown : w.ownsRow base e size v n xs)
    (g : Nat) (cs : List Value) (T : TypeId) (hx : a.eval x = .slice (some ⟨g, 0, none⟩) 1 1) (hg : w.heap[g]? = some (.cells cs.toArray T (0, 0))) (hl : cs.length = size) (h1 : ∀ u ∈ cs, u.oneCell' = true)
    (h63 : n + 1 ≤ maxLen) (hbytes : (n + 1) * bytes ≤ 140737488355328) (hbase : base ≤ w.heap.size)
    (h : ∀ v' w', w'.ownsRow base e size v' (n + 1) (xs ++ cs) → Below base w w' → (∀ k, k < w.heap.size → v.ownBlock ≠ some k → w'.heap[k]? = w.heap[k]?) → K (a.put o.dst v') w') :
    if Region.wanted o (yielded ops a.tmps) = true then Oper.wp P o a w K Q else E := by
  have hw : Region.wanted o (yielded ops a.tmps) = true := by simp [Region.wanted, hgd]
  rw [if_pos hw]
  refine Batch.wp_append_any w s x t t ho base e e i z size bytes ht ht hi hz hsize hby hzs hsz v n xs hs hown (some ⟨g, 0, none⟩) 1 1 cs hx (by omega) (.inr ⟨_, rfl, World.news_of_block (cs := cs.toArray) hg⟩) h1 h63 hbytes hbase fun v' w' h2 h3 _ => ?_
  exact h v' w' h2 ((Below.refl base w).grown h3 hbase fun k e => (hown.lt k e).1) fun k hk hne => h3.block k hk fun e => hne e.symm
theorem app1w {P : Program} (w : World) {ops : Array Oper} {rest : List Oper} {o : Oper} {a : Act} {Q : Exit → Act → World → Prop} (hgd : o.guard = none) (s x : Operand) (t : TypeId)
    (ho : o.op = .call { callee := .builtin .append, args := #[s, x], argTypes := #[t, t] })
    (base : Nat) (e : TypeId) (i : TypeInfo) (z : Value) (size bytes : Nat) (ht : P.underlying t = some (.slice e)) (hi : P.info? e = some i) (hz : i.zero = some z)
    (hsize : i.size = size) (hby : i.bytes = bytes) (hzs : z.cells.size = size) (hsz : 0 < size)
    (v : Value) (n : Nat) (xs : List Value) (hs : a.eval s = v) (hown : w.ownsRow base e size v n xs)
    (g : Nat) (cs : List Value) (T : TypeId) (hx : a.eval x = .slice (some ⟨g, 0, none⟩) 1 1) (hg : w.heap[g]? = some (.cells cs.toArray T (0, 0))) (hl : cs.length = size) (h1 : ∀ u ∈ cs, u.oneCell' = true)
    (h63 : n + 1 ≤ maxLen) (hbytes : (n + 1) * bytes ≤ 140737488355328) (hbase : base ≤ w.heap.size)
    (h : ∀ v' w', w'.ownsRow base e size v' (n + 1) (xs ++ cs) → Below base w w' → wpList P ops Q rest (a.put o.dst v') w') : wpList P ops Q (o :: rest) a w :=
  Batch.wpList_append_any w hgd s x t t ho base e e i z size bytes ht ht hi hz hsize hby hzs hsz v n xs hs hown (some ⟨g, 0, none⟩) 1 1 cs hx (by omega) (.inr ⟨_, rfl, World.news_of_block (cs := cs.toArray) hg⟩) h1 h63 hbytes hbase fun v' w' h2 h3 _ =>
    h v' w' h2 ((Below.refl base w).grown h3 hbase fun k e => (hown.lt k e).1)
/-- A row of texts of the call's own. -/
def OwS (w : World) (base : Nat) (v : Value) (L : List Bs) : Prop := w.ownsRow base 9 1 v L.length (L.map fun x => Value.string (bs x))
theorem OwS.nil (w : World) (base : Nat) : OwS w base (.slice none 0 0) [] := World.ownsRow_nil _ _ _ _
theorem OwS.below {w w' : World} {base : Nat} {v : Value} {L : List Bs} (h : OwS w base v L) (hb : Below w.heap.size w w') : OwS w' base v L := by
  refine ⟨h.1, ?_⟩
  rcases h.2 with h0 | ⟨g, cap, cur, h1, h2, h3, h4⟩
  · exact .inl h0
  · exact .inr ⟨g, cap, cur, h1, h2, (hb.block g (Array.getElem?_eq_some_iff.1 h3).1).trans h3, h4⟩
theorem OwS.mono {w : World} {base base' : Nat} {v : Value} {L : List Bs} (h : OwS w base v L) (hb : base' ≤ base) : OwS w base' v L := by
  refine ⟨h.1, ?_⟩
  rcases h.2 with h0 | ⟨g, cap, cur, h1, h2, h3⟩
  · exact .inl h0
  · exact .inr ⟨g, cap, cur, h1, Nat.le_trans hb h2, h3⟩
theorem OwS.rd {w : World} {base : Nat} {v : Value} {L : List Bs} (h : OwS w base v L) (hne : L ≠ []) : RdStr w v L ∧ ∃ g c, v = .slice (some ⟨g, 0, none⟩) L.length c ∧ base ≤ g := by
  have hc := h
  rcases h.2 with ⟨_, h0⟩ | ⟨g, cap, cur, h1, h2, h3, h4, _⟩
  · exact absurd (List.length_eq_zero_iff.1 h0) hne
  · refine ⟨⟨g, 0, cap, h1, h4, (Array.getElem?_eq_some_iff.1 h3).1, fun i x hx => ?_⟩, g, cap, h1, h2⟩
    have := World.ownsRow.cells hc (g := g) (by rw [h1]; rfl) i (.string (bs x)) (by rw [List.getElem?_map, hx]; rfl)
    rw [Nat.zero_add]
    rw [show ((⟨g, 0, none⟩ : Addr).add i) = ⟨g, i, none⟩ by unfold Addr.add; split <;> simp_all] at this
    exact this
theorem splitS_any (s : Bs) (n : Nat) (hs : s.length ≤ 100000) (hn : 1 ≤ n ∧ n ≤ 1000) {w : World} (hL : SV w) :
    Calls Tryz.prog 58 #[.string (bs s), .string (bs [44]), .int .i64 (n : Int)] w fun e w' => ∃ v, e = .returned v ∧ RdStr w' v (Lib.splitK [44] 0 (min n (s.length + 1) - 1) s) ∧ (∀ g n k, v = .slice (some g) n k → w.heap.size ≤ g.block) ∧ Below w.heap.size w w' := by
  obtain ⟨m, hm⟩ := hL.mx
  refine (Tryz.strings_SplitN (bs s) (bs [44]) n m w (by rw [bs_size]; omega) hm (by rw [bs_size]; simp) hn.1 (by omega)).mono ?_
  rintro e w' ⟨rfl, rfl⟩
  refine ⟨_, rfl, ?_, fun g n k e => ?_, (Below.refl _ _).alloc (Nat.le_refl _) _⟩
  rotate_left 1
  · simp only [Value.slice.injEq, Option.some.injEq] at e
    obtain ⟨rfl, _, _⟩ := e
    exact Nat.le_refl _
  have hd := Lib.splitB_data (bs [44]) 0 (min n ((bs s).size + 1) - 1) (bs s)
  have hle := Lib.splitB_length_le (bs [44]) 0 (min n ((bs s).size + 1) - 1) (bs s)
  generalize hX : Lib.splitB (bs [44]) 0 (min n ((bs s).size + 1) - 1) (bs s) = X at *
  rw [bs_data, bs_data, bs_size] at hd
  rw [bs_size] at hle ⊢
  refine ⟨w.heap.size, 0, min n (s.length + 1), by rw [← hd, List.length_map], by rw [← hd, List.length_map]; omega, by simp, fun i x hx => ?_⟩
  rw [← hd, List.getElem?_map] at hx
  obtain ⟨y, hy, rfl⟩ := Option.map_eq_some_iff.1 hx
  have hi := (List.getElem?_eq_some_iff.1 hy).1
  unfold World.cell?
  rw [heap_alloc_new w _]
  dsimp only
  unfold Lib.cellsOf
  rw [Nat.zero_add, List.getElem?_toArray, List.getElem?_append_left (by simpa using hi), List.getElem?_map, hy]
  simp [bs_of]
theorem splitK_len (sep : Bs) : ∀ (k : Nat) (s : Bs), ∀ x ∈ Lib.splitK sep 0 k s, x.length ≤ s.length
  | 0, s, x, h => by simp [Lib.splitK] at h; subst h; exact Nat.le_refl _
  | k + 1, s, x, h => by
    unfold Lib.splitK at h
    split at h
    · simp at h; subst h; exact Nat.le_refl _
    · rcases List.mem_cons.1 h with rfl | h
      · simp; omega
      · have := splitK_len sep k _ x h
        simp at this; omega
theorem splitK_count (sep : Bs) : ∀ (k : Nat) (s : Bs), (Lib.splitK sep 0 k s).length ≤ k + 1
  | 0, s => by simp [Lib.splitK]
  | k + 1, s => by
    unfold Lib.splitK
    split
    · simp
    · have := splitK_count sep k (s.drop ((Lib.index s sep).toNat + sep.length))
      simp; omega
end Go.Proofs.YtdbaacalfbbdiaaGreatDoor.Sc
