/-
  append onto memory of the call's own, the source nil, empty or not, its slice type of another name.
  MEMORY: a slice that came in, of any kind of element, as it reads (Rr): where it is empty nothing is said of its address.
  MEMORY: a row of the call's own of which several cells are laid anew, or that is cut; clear.
-/
import Derived.Test.YtmggnalobfihnaaBatchMem
import Derived.Maps.AppendAt
import Derived.Deep.AppendLies
import Derived.RegionTactic
import Derived.OwnWalk
import Derived.Test.YtmggnalobfihnaaRowMem
import Derived.Laws.IdiomCopy
import Derived.Deep.Upon
import Derived.Lib.SliceRun
import Derived.Deep.RegionLaw
namespace Go.Proofs.Ytmggnalobfihnaa.Batch
open Go.RowKit
set_option linter.unusedVariables false

section
variable {P : Program} (w : World)
theorem run_append_types (t t2 ty e e2 : TypeId) (ht : P.underlying t = some (.slice e)) (ht2 : P.underlying t2 = some (.slice e2)) (A B : Option Addr) (n m c d : Nat) :
    (Builtin.append_ #[t, t2] ty #[.slice A n c, .slice B m d]).run P w = (Builtin.append_ #[t, t] ty #[.slice A n c, .slice B m d]).run P w := by
  simp [Builtin.append_, run_underlying ht, run_underlying ht2]
theorem run_append_of_nil (base : Nat) (t ty e : TypeId) (i : TypeInfo) (size : Nat) (ht : P.underlying t = some (.slice e)) (hi : P.info? e = some i)
    (v : Value) (n : Nat) (xs : List Value) (hown : w.ownsRow base e size v n xs) (c : Nat) : (Builtin.append_ #[t, t] ty #[v, .slice none 0 c]).run P w = .ok v w := by
  rcases hown.2 with ⟨rfl, rfl⟩ | ⟨g, cap, cur, rfl, _, _, hnc, _⟩
  · simp [Builtin.append_, run_underlying ht, sizeOf, typeInfo, hi, Builtin.lenOf, Builtin.firstCells]
  · simp [Builtin.append_, run_underlying ht, sizeOf, typeInfo, hi, Builtin.lenOf, Builtin.firstCells, hnc, storeCells]
/-- The source of an append: nothing, or cells that lie at an address. -/
def Src (w : World) (A : Option Addr) (m : Nat) (news : List Value) : Prop := (A = none ∧ m = 0 ∧ news = []) ∨ ∃ ad, A = some ad ∧ ∀ j u, news[j]? = some u → w.cell? (ad.add j) = some u
theorem run_append_any (base : Nat) (t t2 ty e e2 : TypeId) (i : TypeInfo) (z : Value) (size bytes : Nat) (ht : P.underlying t = some (.slice e)) (ht2 : P.underlying t2 = some (.slice e2)) (hi : P.info? e = some i) (hz : i.zero = some z)
    (hsize : i.size = size) (hby : i.bytes = bytes) (hzs : z.cells.size = size) (hsz : 0 < size)
    (v : Value) (n : Nat) (xs : List Value) (hown : w.ownsRow base e size v n xs)
    (A : Option Addr) (m c : Nat) (news : List Value) (hl : news.length = m * size) (hr : Src w A m news) (h1 : ∀ u ∈ news, u.oneCell' = true)
    (h63 : n + m ≤ maxLen) (hbytes : (n + m) * bytes ≤ 140737488355328) (hbase : base ≤ w.heap.size) :
    ∃ v' w', (Builtin.append_ #[t, t2] ty #[v, .slice A m c]).run P w = .ok v' w' ∧ w'.ownsRow base e size v' (n + m) (xs ++ news) ∧ w.grownBy w' v.ownBlock ∧
      (v'.ownBlock = v.ownBlock ∨ v'.ownBlock = some w.heap.size) := by
  have hform : ∃ vo vc, v = .slice vo n vc := by
    rcases hown.2 with ⟨hv, h0⟩ | ⟨g, cap, cur, hv, _⟩
    · exact ⟨none, 0, by rw [hv, h0]⟩
    · exact ⟨_, _, hv⟩
  obtain ⟨vo, vc, hvf⟩ := hform
  rw [show (#[v, .slice A m c] : Array Value) = #[.slice vo n vc, .slice A m c] by rw [hvf], run_append_types w t t2 ty e e2 ht ht2, ← hvf]
  rcases hr with ⟨rfl, rfl, rfl⟩ | ⟨ad, rfl, hc⟩
  · exact ⟨_, w, run_append_of_nil w base t ty e i size ht hi _ n xs hown c, by simpa using hown, World.grownBy.refl w _, .inl rfl⟩
  · obtain ⟨v', w', hrun, h2, h3, _, h5⟩ := run_append_own_at (P := P) w base t ty e i z size bytes ht hi hz hsize hby hzs hsz _ n xs hown ad m c news hl hc h1 h63 hbytes hbase
    exact ⟨v', w', hrun, h2, h3, h5⟩
theorem wp_append_any {o : Oper} {a : Act} {K : Act → World → Prop} {Q : Exit → Act → World → Prop} (s x : Operand) (t t2 : TypeId)
    (ho : o.op = .call { callee := .builtin .append, args := #[s, x], argTypes := #[t, t2] })
    (base : Nat) (e e2 : TypeId) (i : TypeInfo) (z : Value) (size bytes : Nat) (ht : P.underlying t = some (.slice e)) (ht2 : P.underlying t2 = some (.slice e2)) (hi : P.info? e = some i) (hz : i.zero = some z)
    (hsize : i.size = size) (hby : i.bytes = bytes) (hzs : z.cells.size = size) (hsz : 0 < size)
    (v : Value) (n : Nat) (xs : List Value) (hs : a.eval s = v) (hown : w.ownsRow base e size v n xs)
    (A : Option Addr) (m c : Nat) (news : List Value) (hx : a.eval x = .slice A m c) (hl : news.length = m * size) (hr : Src w A m news) (h1 : ∀ u ∈ news, u.oneCell' = true)
    (h63 : n + m ≤ maxLen) (hbytes : (n + m) * bytes ≤ 140737488355328) (hbase : base ≤ w.heap.size)
    (h : ∀ v' w', w'.ownsRow base e size v' (n + m) (xs ++ news) → w.grownBy w' v.ownBlock → (v'.ownBlock = v.ownBlock ∨ v'.ownBlock = some w.heap.size) → K (a.put o.dst v') w') : o.wp P a w K Q := by
  obtain ⟨v', w', hrun, h2, h3, h4⟩ := run_append_any (P := P) w base t t2 o.type e e2 i z size bytes ht ht2 hi hz hsize hby hzs hsz v n xs hown A m c news hl hr h1 h63 hbytes hbase
  unfold Oper.wp execOp
  simp only [ho, resolve, invoke, builtin, Sem.run_bind, Sem.run_pure, Result.andThen_ok, List.map_toArray, List.map_cons, List.map_nil, hs, hx, hrun]
  exact h v' w' h2 h3 h4
theorem wpList_append_any {ops : Array Oper} {rest : List Oper} {o : Oper} {a : Act} {Q : Exit → Act → World → Prop} (hgd : o.guard = none) (s x : Operand) (t t2 : TypeId)
    (ho : o.op = .call { callee := .builtin .append, args := #[s, x], argTypes := #[t, t2] })
    (base : Nat) (e e2 : TypeId) (i : TypeInfo) (z : Value) (size bytes : Nat) (ht : P.underlying t = some (.slice e)) (ht2 : P.underlying t2 = some (.slice e2)) (hi : P.info? e = some i) (hz : i.zero = some z)
    (hsize : i.size = size) (hby : i.bytes = bytes) (hzs : z.cells.size = size) (hsz : 0 < size)
    (v : Value) (n : Nat) (xs : List Value) (hs : a.eval s = v) (hown : w.ownsRow base e size v n xs)
    (A : Option Addr) (m c : Nat) (news : List Value) (hx : a.eval x = .slice A m c) (hl : news.length = m * size) (hr : Src w A m news) (h1 : ∀ u ∈ news, u.oneCell' = true)
    (h63 : n + m ≤ maxLen) (hbytes : (n + m) * bytes ≤ 140737488355328) (hbase : base ≤ w.heap.size)
    (h : ∀ v' w', w'.ownsRow base e size v' (n + m) (xs ++ news) → w.grownBy w' v.ownBlock → (v'.ownBlock = v.ownBlock ∨ v'.ownBlock = some w.heap.size) → wpList P ops Q rest (a.put o.dst v') w') : wpList P ops Q (o :: rest) a w :=
  wpList_plain hgd fun _ hK => wp_append_any w s x t t2 ho base e e2 i z size bytes ht ht2 hi hz hsize hby hzs hsz v n xs hs hown A m c news hx hl hr h1 h63 hbytes hbase fun v' w' h2 h3 h4 => hK _ _ (h v' w' h2 h3 h4)
end
theorem Sl.src {w : World} {ao : Option Addr} {n cap : Nat} {l : List Ch} (h : Sl w (.slice ao n cap) l) : n = l.length ∧ Src w ao l.length (cellsL l) := by
  obtain ⟨ao', cap', hv, h1, _⟩ := h
  simp at hv
  obtain ⟨rfl, rfl, rfl⟩ := hv
  refine ⟨rfl, ?_⟩
  rcases h1 with ⟨rfl, rfl⟩ | ⟨b, off, rfl, h1⟩
  · exact .inl ⟨rfl, rfl, rfl⟩
  · refine .inr ⟨_, rfl, fun j u hu => ?_⟩
    rw [show ((⟨b, off, none⟩ : Addr).add j) = ⟨b, off + j, none⟩ by unfold Addr.add; split <;> simp_all]
    exact cells_of_at h1 j u hu
end Go.Proofs.Ytmggnalobfihnaa.Batch
namespace Go.Proofs.Ytmggnalobfihnaa.Rw
open Go.RowKit
set_option linter.unusedVariables false
variable {α : Type} {S : Kd α}

def Rr (S : Kd α) (w : World) (v : Value) (l : List α) : Prop := ∃ (ao : Option Addr) (cap : Nat), v = .slice ao l.length cap ∧ (l = [] ∨ ∃ b off, b < w.heap.size ∧ ao = some ⟨b, off, none⟩ ∧ ∀ i x, l[i]? = some x → AtK S w b (off + i * S.k) x) ∧ l.length ≤ cap ∧ cap ≤ 9223372036854775807 ∧ ∀ x ∈ l, S.wf x
theorem Sl.rr {w : World} {v : Value} {l : List α} (h : Sl S w v l) : Rr S w v l := by
  obtain ⟨ao, cap, rfl, h1, h2, h3, h4⟩ := h
  refine ⟨ao, cap, rfl, ?_, h2, h3, h4⟩
  rcases h1 with h1 | h1
  · exact .inl h1.2
  · exact .inr h1
theorem Rr.below {w w' : World} {v : Value} {l : List α} (h : Rr S w v l) (hw : Below w.heap.size w w') : Rr S w' v l := by
  obtain ⟨ao, cap, rfl, h1, h2, h3, h4⟩ := h
  refine ⟨ao, cap, rfl, ?_, h2, h3, h4⟩
  rcases h1 with h1 | ⟨b, off, hb, ha, h1⟩
  · exact .inl h1
  · exact .inr ⟨b, off, Nat.lt_of_lt_of_le hb hw.size, ha, fun i x hx => (h1 i x hx).below hw hb⟩
theorem Rr.wf {w : World} {v : Value} {l : List α} (h : Rr S w v l) : ∀ x ∈ l, S.wf x := by obtain ⟨_, _, _, _, _, _, h⟩ := h; exact h
theorem Rr.form {w : World} {v : Value} {l : List α} (h : Rr S w v l) : ∃ ao cap, v = .slice ao l.length cap ∧ l.length ≤ cap ∧ cap ≤ 9223372036854775807 := by obtain ⟨ao, cap, h, _, h1, h2, _⟩ := h; exact ⟨ao, cap, h, h1, h2⟩
theorem Rr.at {w : World} {ao : Option Addr} {n cap : Nat} {l : List α} (h : Rr S w (.slice ao n cap) l) {i : Nat} {x : α} (hx : l[i]? = some x) : ∃ b off, ao = some ⟨b, off, none⟩ ∧ b < w.heap.size ∧ AtK S w b (off + i * S.k) x := by
  obtain ⟨ao', cap', hv, h4, _⟩ := h
  simp at hv
  obtain ⟨rfl, rfl, rfl⟩ := hv
  rcases h4 with h4 | ⟨b, off, hb, ha, h4⟩
  · subst h4; simp at hx
  · exact ⟨b, off, ha, hb, h4 i x hx⟩
theorem Rr.len {w : World} {ao : Option Addr} {n cap : Nat} {l : List α} (h : Rr S w (.slice ao n cap) l) : n = l.length := by
  obtain ⟨ao', cap', hv, _⟩ := h
  simp at hv
  exact hv.2.1
theorem Rr.take {w : World} {ao : Option Addr} {n cap k : Nat} {l : List α} (h : Rr S w (.slice ao n cap) l) (hk : k ≤ n) : Rr S w (.slice ao k cap) (l.take k) := by
  have hn := h.len
  obtain ⟨ao', cap', hv, h1, h2, h3, h4⟩ := h
  simp at hv
  obtain ⟨rfl, _, rfl⟩ := hv
  have hl : (l.take k).length = k := by rw [List.length_take]; omega
  refine ⟨ao, cap, by rw [hl], ?_, by omega, h3, fun x hx => h4 x (List.mem_of_mem_take hx)⟩
  rcases h1 with rfl | ⟨b, off, hb, rfl, h1⟩
  · exact .inl (by simp)
  · refine .inr ⟨b, off, hb, rfl, fun i x hx => h1 i x ?_⟩
    have hik : i < k := by have := (List.getElem?_eq_some_iff.1 hx).1; omega
    rwa [List.getElem?_take_of_lt hik] at hx
theorem Rr.src {w : World} {ao : Option Addr} {n cap : Nat} {l : List α} (hk : 0 < S.k) (h : Rr S w (.slice ao n cap) l) : Batch.Src w ao n (S.flat l) := by
  have hn := h.len
  obtain ⟨ao', cap', hv, h1, h2, h3, h4⟩ := h
  simp at hv
  obtain ⟨rfl, _, rfl⟩ := hv
  rcases h1 with rfl | ⟨b, off, hb, rfl, h1⟩
  · cases ao
    · exact .inl ⟨rfl, hn, rfl⟩
    · exact .inr ⟨_, rfl, fun j u hu => by simp [Kd.flat] at hu⟩
  · refine .inr ⟨_, rfl, fun j u hu => ?_⟩
    rw [show ((⟨b, off, none⟩ : Addr).add j) = ⟨b, off + j, none⟩ by unfold Addr.add; split <;> simp_all]
    exact (show Sl S w (.slice (some ⟨b, off, none⟩) l.length cap) l from ⟨_, _, rfl, .inr ⟨b, off, hb, rfl, h1⟩, h2, h3, h4⟩).cells hk j u hu
/-- From an address that may be any where there is nothing. -/
theorem rr_of {w : World} {a : Addr} {len cap : Nat} {l : List α} (hk : 0 < S.k) (hl : l.length = len) (hc : len ≤ cap) (hm : cap ≤ 9223372036854775807) (hwf : ∀ x ∈ l, S.wf x)
    (h : ∀ i x, l[i]? = some x → ∀ c u, c < S.k → (S.cells x)[c]? = some u → w.cell? (a.add (i * S.k + c)) = some u) : Rr S w (.slice (some a) len cap) l := by
  subst hl
  refine ⟨some a, cap, rfl, ?_, hc, hm, hwf⟩
  by_cases h0 : l = []
  · exact .inl h0
  · right
    have hpos : 0 < l.length := List.length_pos_iff.2 h0
    have h00 := h 0 l[0] (List.getElem?_eq_getElem hpos) 0 _ hk (List.getElem?_eq_getElem (by rw [S.len]; exact hk))
    obtain ⟨b, off, spot⟩ := a
    have hspot : spot = none := by simpa [Addr.add] using World.cell?_spot h00
    subst hspot
    have e : ∀ j, ((⟨b, off, none⟩ : Addr).add j) = ⟨b, off + j, none⟩ := fun j => by unfold Addr.add; split <;> simp_all
    rw [e] at h00
    refine ⟨b, off, Lib.lt_of_cell h00, rfl, fun i x hx c u hc hu => ?_⟩
    have := h i x hx c u hc hu
    rw [e] at this
    rw [Nat.add_assoc]
    exact this
end Go.Proofs.Ytmggnalobfihnaa.Rw
namespace Go.Proofs.Ytmggnalobfihnaa.Rw
open Go.RowKit Go.Lib
set_option linter.unusedVariables false

theorem row_setCells {base g n cap m : Nat} {T : TypeId} {size : Nat} : ∀ (vs : List Value) (o : Nat) (w : World) (xs : List Value), w.ownsRow base T size (.slice (some ⟨g, 0, none⟩) m cap) n xs → o + vs.length ≤ n * size →
    (w.setCells g o vs).ownsRow base T size (.slice (some ⟨g, 0, none⟩) m cap) n (xs.take o ++ vs ++ xs.drop (o + vs.length))
  | [], o, w, xs, h, _ => by simpa [World.setCells] using h
  | v :: r, o, w, xs, h, ho => by
    have hl : xs.length = n * size := h.1
    rw [List.length_cons] at ho
    have h1 := row_set h (j := o) (by omega) v
    have h2 := row_setCells r (o + 1) _ _ h1 (by omega)
    show ((w.setCell ⟨g, o, none⟩ v).setCells g (o + 1) r).ownsRow _ _ _ _ _ _
    have e : xs.take o ++ (v :: r) ++ xs.drop (o + (r.length + 1)) = (xs.set o v).take (o + 1) ++ r ++ (xs.set o v).drop (o + 1 + r.length) := by
      have ho' : o < xs.length := by omega
      obtain ⟨A, y, C, hx, hA⟩ : ∃ A y C, xs = A ++ y :: C ∧ A.length = o := ⟨xs.take o, xs[o], xs.drop (o + 1), by rw [← List.drop_eq_getElem_cons ho', List.take_append_drop], by rw [List.length_take]; omega⟩
      subst hx hA
      have e1 : (A ++ y :: C).set A.length v = A ++ v :: C := by simp
      have e2 : (A ++ v :: C).take (A.length + 1) = A ++ [v] := by rw [List.take_append, List.take_of_length_le (by omega), show A.length + 1 - A.length = 1 by omega]; rfl
      have e3 : (A ++ v :: C).drop (A.length + 1 + r.length) = C.drop r.length := by
        rw [show A.length + 1 + r.length = A.length + (r.length + 1) by omega, List.drop_length_add_append, List.drop_succ_cons]
      have e4 : (A ++ y :: C).drop (A.length + (r.length + 1)) = C.drop r.length := by rw [List.drop_length_add_append, List.drop_succ_cons]
      have e5 : (A ++ y :: C).take A.length = A := by simp
      rw [e1, e2, e3, e4, e5]
      simp
    rw [List.length_cons, e]
    exact h2
theorem row_cut {w : World} {base g n cap k : Nat} {T : TypeId} {size : Nat} {xs : List Value} (h : w.ownsRow base T size (.slice (some ⟨g, 0, none⟩) n cap) n xs) (hk : k ≤ n) :
    w.ownsRow base T size (.slice (some ⟨g, 0, none⟩) k cap) k (xs.take (k * size)) := by
  have hl : xs.length = n * size := h.1
  have hks : k * size ≤ n * size := Nat.mul_le_mul_right _ hk
  refine ⟨by rw [List.length_take, hl]; omega, ?_⟩
  rcases h.2 with ⟨hv, _⟩ | ⟨g', cap', cur, hv, hb, hg, hn, hc, hs, ht⟩
  · simp at hv
  · simp at hv
    obtain ⟨rfl, rfl⟩ := hv
    refine .inr ⟨g, cap, cur, rfl, hb, hg, by omega, hc, hs, ?_⟩
    rw [← ht, List.take_take, Nat.min_eq_left hks]
/-- A slice that goes on to where its array has room. -/
theorem below_setCells {B : Nat} {a : World} {g : Nat} (hg : B ≤ g) : ∀ (vs : List Value) (o : Nat) (w : World), Below B a w → Below B a (w.setCells g o vs)
  | [], _, _, h => h
  | v :: r, o, w, h => below_setCells hg r (o + 1) _ (h.setCell (p := ⟨g, o, none⟩) hg v)
theorem run_clear_any {P : Program} (w : World) (t e ty : TypeId) (z : Value) (ht : P.underlying t = some (.slice e)) (hv : ∀ w, (zeroValue e).run P w = .ok z w) (b o n c : Nat) (hn : 0 < n) (h1 : ∀ v ∈ (Builtin.zeroCells z.cells n).toList, v.oneCell' = true)
    (hc : ∀ j, j < (Builtin.zeroCells z.cells n).toList.length → (w.cell? ⟨b, o + j, none⟩).isSome = true) (hf : ∀ j, j < (Builtin.zeroCells z.cells n).toList.length → w.frozen? ⟨b, o + j, none⟩ = false) :
    (Builtin.clear_ #[t] ty #[.slice (some ⟨b, o, none⟩) n c]).run P w = .ok (.tuple #[]) (w.setCells b o (Builtin.zeroCells z.cells n).toList) := by
  have hst := run_storeCells_cells (P := P) b o (Builtin.zeroCells z.cells n).toList 0 w (by simpa using hc) (by simpa using hf) h1
  simp only [Nat.add_zero] at hst
  obtain ⟨m, rfl⟩ : ∃ m, n = m + 1 := ⟨n - 1, by omega⟩
  simp [Builtin.clear_, run_underlying ht, hv, hst]
end Go.Proofs.Ytmggnalobfihnaa.Rw
