/-
  PACKAGE marchlandref05: Fix: a graph that may be, out of any.
  A strings.Builder OF THE CALL's OWN, at this program: the check for a copy, and WriteString (after the shelf's text, which this translation's copyCheck does not fit).
-/
import Derived.Test.YtdllgeanmlmmfaaGreatDoorJoined15
import Derived.Test.YtdllgeanmlmmfaaGreatDoorGTo
import Derived.Deep.RegionHeld3
import Derived.Deep.RegionHeldLaw
import Derived.Deep.DeepCutAuto
import Derived.BigRegion
import Derived.Maps.AppendAt
import Derived.Test.YtdllgeanmlmmfaaGreatDoorShelf
import Derived.Shelf.Strings.Builder1
import Derived.WalkKit
import Derived.Lib.Builder
import Derived.Lib.AppendStr
import Derived.Laws.Externs
import Derived.BigCall
import Derived.Lib.Hide
import Derived.Outline
namespace Go.Proofs.YtdllgeanmlmmfaaGreatDoor.Gr
open Go.RowKit Go.Deep
set_option linter.unusedVariables false
set_option linter.unusedSimpArgs false

/-! plain -/
theorem cost_zero {E : List Ed} (ha : ∀ e ∈ E, 0 ≤ e.a) : ∀ {es : List Ed} {i j : Int}, Chn E i es j → 0 ≤ cost es
  | [], _, _, _ => Int.le_refl _
  | e :: r, _, _, h => by
    have h1 := ha e h.1
    have h2 := cost_zero ha h.2.2
    unfold cost
    omega
theorem chn_rises {E : List Ed} (ha : ∀ e ∈ E, 0 ≤ e.a) (h : ∀ e ∈ E, e.f < e.t ∨ 1 ≤ e.a) : ∀ {es : List Ed} {i j : Int}, Chn E i es j → cost es = 0 → i + es.length ≤ j
  | [], _, _, hc, _ => by obtain rfl := hc; simp
  | e :: r, i, j, hc, h0 => by
    have h1 := ha e hc.1
    have h2 := cost_zero ha hc.2.2
    unfold cost at h0
    have h3 := chn_rises ha h hc.2.2 (by omega)
    have h4 := hc.2.1
    rcases h e hc.1 with h5 | h5
    · rw [List.length_cons]; push_cast; omega
    · omega
theorem no_round {E : List Ed} (ha : ∀ e ∈ E, 0 ≤ e.a) (h : ∀ e ∈ E, e.f < e.t ∨ 1 ≤ e.a) (p : Int) : ¬ Round E p := by
  rintro ⟨es, hw, h0⟩
  have h1 := chn_rises ha h hw.1 h0
  rcases hw.2 with e | e
  · exact absurd e (by decide)
  · have : 0 < es.length := List.length_pos_iff.2 e
    omega
theorem chkV_ok {n : Nat} {E : List Ed} {I : List Int} (n0 : 1 ≤ n) (n1 : n ≤ 64) (hl : E.length ≤ 256) (hf : Fits E n) (i0 : I ≠ []) (i1 : I.length ≤ 8) (hi : InOk n I I.length) (hr : ∀ p, ¬ Round E p) : chkV (n : Int) E I = ([], 0) := by
  unfold chkV
  rw [if_neg (by omega), if_neg (by omega), if_neg (by rw [edgesV_ok (fun y hy => ⟨⟨(hf y hy).1, (hf y hy).2.1⟩, ⟨(hf y hy).2.2.1, (hf y hy).2.2.2.1⟩⟩)]; simp), if_neg (by have : I.length ≠ 0 := fun e => i0 (List.length_eq_zero_iff.1 e); omega), if_neg (by rw [inputsV_ok hi]; simp), Int.toNat_natCast, cycO_eq (.inr ⟨rfl, fun q _ => hr q⟩)]
  rfl
theorem u64_range (n : Int) : 0 ≤ IntKind.u64.wrap n ∧ IntKind.u64.wrap n ≤ 18446744073709551615 := by
  unfold IntKind.wrap
  simp [IntKind.bits, IntKind.signed]
  omega
theorem i64_id {n : Int} (h0 : -9223372036854775808 ≤ n) (h1 : n ≤ 9223372036854775807) : IntKind.i64.wrap n = n := by
  unfold IntKind.wrap
  simp [IntKind.bits, IntKind.signed]
  omega
theorem u64_id {n : Int} (h0 : 0 ≤ n) (h1 : n ≤ 18446744073709551615) : IntKind.u64.wrap n = n := by
  unfold IntKind.wrap
  simp [IntKind.bits, IntKind.signed]
  omega
def fixM (m x : Int) : Int := IntKind.i64.wrap ((IntKind.u64.wrap x).tmod (IntKind.u64.wrap m))
theorem fixM_range {m x : Int} (h0 : 1 ≤ m) (h1 : m ≤ 64) : 0 ≤ fixM m x ∧ fixM m x < m := by
  unfold fixM
  rw [u64_id (n := m) (by omega) (by omega)]
  have h2 := Int.tmod_nonneg m (u64_range x).1
  have h3 := Int.tmod_lt_of_pos (IntKind.u64.wrap x) (show 0 < m by omega)
  rw [i64_id (by omega) (by omega)]
  exact ⟨h2, h3⟩
def fixE (m : Int) (e : Ed) : Ed := ⟨fixM m e.f, fixM m e.t, if fixM m e.t ≤ fixM m e.f ∧ e.a = 0 then 1 else e.a⟩
def fixEs (m : Int) (E : List Ed) : List Ed := (E.take 12).map (fixE m)
theorem fixEs_fits {m : Nat} {E : List Ed} (h0 : 1 ≤ m) (h1 : m ≤ 64) (hw : ∀ x ∈ E, x.Wf) : Fits (fixEs m E) m := by
  intro e he
  obtain ⟨y, hy, rfl⟩ := List.mem_map.1 he
  have hyw := hw y (List.mem_of_mem_take hy)
  have a1 := fixM_range (m := m) (x := y.f) (by omega) (by omega)
  have a2 := fixM_range (m := m) (x := y.t) (by omega) (by omega)
  refine ⟨a1.1, a1.2, a2.1, a2.2, ?_, ?_⟩ <;> (unfold fixE; simp only; split <;> first | omega | exact hyw.a0 | exact hyw.a1)
theorem fixEs_wf {m : Nat} {E : List Ed} (h0 : 1 ≤ m) (h1 : m ≤ 64) (hw : ∀ x ∈ E, x.Wf) : ∀ x ∈ fixEs m E, x.Wf := by
  intro e he
  have h := fixEs_fits h0 h1 hw e he
  exact ⟨by omega, by omega, by omega, by omega, h.2.2.2.2.1, h.2.2.2.2.2⟩
theorem fixEs_rise {m : Nat} {E : List Ed} (hw : ∀ x ∈ E, x.Wf) : ∀ e ∈ fixEs m E, e.f < e.t ∨ 1 ≤ e.a := by
  intro e he
  obtain ⟨y, hy, rfl⟩ := List.mem_map.1 he
  have hyw := (hw y (List.mem_of_mem_take hy)).a0
  unfold fixE
  simp only
  split <;> omega
def fixN (n : Int) : Int := 1 + IntKind.i64.wrap ((IntKind.u64.wrap n).tmod 6)
theorem fixN_range (n : Int) : 1 ≤ fixN n ∧ fixN n ≤ 6 := by
  unfold fixN
  have h2 := Int.tmod_nonneg 6 (u64_range n).1
  have h3 := Int.tmod_lt_of_pos (IntKind.u64.wrap n) (show (0 : Int) < 6 by decide)
  rw [i64_id (by omega) (by omega)]
  omega
theorem fixN_walk (n : Int) : wrap64 (1 + wrap64 ((IntKind.u64.wrap n).tmod 6)) = fixN n := by
  have h2 := Int.tmod_nonneg 6 (u64_range n).1
  have h3 := Int.tmod_lt_of_pos (IntKind.u64.wrap n) (show (0 : Int) < 6 by decide)
  have e1 : IntKind.i64.wrap ((IntKind.u64.wrap n).tmod 6) = (IntKind.u64.wrap n).tmod 6 := i64_id (by omega) (by omega)
  have e2 : wrap64 ((IntKind.u64.wrap n).tmod 6) = (IntKind.u64.wrap n).tmod 6 := by unfold wrap64; omega
  unfold fixN
  rw [e2, e1]
  unfold wrap64
  omega
theorem Own.grown {w w' : World} {base : Nat} {T : TypeId} {v : Value} {l : List Ed} {row : Option Nat} (h : Own w base T v l) (hg : w.grownBy w' row) (hne : v.ownBlock = none ∨ v.ownBlock ≠ row) : Own w' base T v l := by
  refine ⟨h.1, ?_⟩
  rcases h.2 with h2 | ⟨g, cap, cur, rfl, hb, hk, rest⟩
  · exact .inl h2
  · refine .inr ⟨g, cap, cur, rfl, hb, (hg.block g (Array.getElem?_eq_some_iff.1 hk).1 ?_).trans hk, rest⟩
    rcases hne with h | h
    · simp [Value.ownBlock] at h
    · exact h
theorem own1 {w : World} {base : Nat} {T : TypeId} (a : Int) (hb : base ≤ w.heap.size) : OwnI (w.alloc (.cells #[.int .i64 a] T)) base T (.slice (some ⟨w.heap.size, 0, none⟩) 1 1) [a] :=
  ⟨rfl, .inr ⟨w.heap.size, 1, #[.int .i64 a], rfl, hb, heap_alloc_new w _, Nat.le_refl _, by decide, rfl, rfl⟩⟩
theorem InOk.snoc {n : Int} {l : List Int} {p : Int} (h : InOk n l l.length) (hp : inP n p) (hm : p ∉ l) : InOk n (l ++ [p]) (l ++ [p]).length := by
  intro j q hj hq
  rw [List.length_append] at hj
  simp only [List.length_cons, List.length_nil] at hj
  by_cases e : j < l.length
  · rw [List.getElem?_append_left e] at hq
    rw [List.take_append_of_le_length (by omega)]
    exact h j q e hq
  · obtain rfl : j = l.length := by omega
    rw [List.getElem?_append_right (Nat.le_refl _), Nat.sub_self] at hq
    obtain rfl := Option.some.inj hq
    rw [List.take_left]
    exact ⟨hp, hm⟩
theorem OwnI.cells {w : World} {base : Nat} {T : TypeId} {v : Value} {l : List Int} (h : OwnI w base T v l) (hne : l ≠ []) : ∃ g cap, v = .slice (some ⟨g, 0, none⟩) l.length cap ∧ ∀ j x, l[j]? = some x → w.cell? ⟨g, j, none⟩ = some (.int .i64 x) := by
  have h0 := h
  rcases h.2 with ⟨_, hn⟩ | ⟨g, cap, cur, rfl, hb, hg, hc, hm, _⟩
  · exact absurd (List.length_eq_zero_iff.1 hn) hne
  · refine ⟨g, cap, rfl, fun i x hx => ?_⟩
    have := World.ownsRow.cells h0 (g := g) rfl i _ (intsL_at hx)
    rw [show ((⟨g, 0, none⟩ : Addr).add i) = ⟨g, i, none⟩ by unfold Addr.add; split <;> simp_all] at this
    exact this
theorem intsL_snoc (l : List Int) (x : Int) : intsL (l ++ [x]) = intsL l ++ [.int .i64 x] := by unfold intsL; simp
def Mk (p : Prop) : Prop := p
theorem mk_of {p : Prop} (h : Mk p) : p := h
theorem infoRed : (Tryz.prog.info? 127).map (fun i => (i.zero, i.size, i.bytes)) = some (some (.agg #[.int .i64 0, .int .i64 0, .int .u64 0]), 3, 24) := by kernel_rfl
/-- What the walk works on: the box of the argument, the result's cells. -/
structure FixW (w w2 : World) (n : Int) (ao aoi : Option Addr) (le ce li ci : Nat) : Prop where
  sz : w2.heap.size = w.heap.size + 2
  bel : Below w.heap.size w w2
  b0 : w2.cell? ⟨w.heap.size, 0, none⟩ = some (.int .i64 n)
  b1 : w2.cell? ⟨w.heap.size, 1, none⟩ = some (.slice ao le ce)
  b2 : w2.cell? ⟨w.heap.size, 2, none⟩ = some (.slice aoi li ci)
  res : w2.heap[w.heap.size + 1]? = some (.cells #[.int .i64 0, .slice none 0 0, .slice none 0 0] 25 (0, 0))
def FixPost (w : World) (e : Ending) (w' : World) : Prop := ∃ (m : Nat) (ve' vi' : Value) (E' : List Ed) (I' : List Int), m ≤ 6 ∧ E'.length ≤ 12 ∧ e = .returned (.agg #[.int .i64 (m : Int), ve', vi']) ∧ GMemP w' ve' vi' E' I' ∧ Own w' (w.heap.size + 3) 127 ve' E' ∧ OwnI w' (w.heap.size + 3) 3 vi' I' ∧ GOk m E' I' ∧ Below w.heap.size w w'
end Go.Proofs.YtdllgeanmlmmfaaGreatDoor.Gr
namespace Go.Proofs.YtdllgeanmlmmfaaGreatDoor.Bld
open Go.RowKit
set_option linter.unusedVariables false

/-- Whatever lies in other blocks than the builder's, and is no row of bytes, stays as it was. -/
def Keeps (b : Nat) (w w' : World) : Prop := w.heap.size ≤ w'.heap.size ∧ ∀ k o, k ≠ b → w.heap[k]? = some o → (∀ cur fz, o ≠ .cells cur 5 fz) → w'.heap[k]? = some o
theorem Keeps.refl (b : Nat) (w : World) : Keeps b w w := ⟨Nat.le_refl _, fun _ _ _ h _ => h⟩
theorem Keeps.trans {b : Nat} {w w' w'' : World} (h : Keeps b w w') (h' : Keeps b w' w'') : Keeps b w w'' := ⟨Nat.le_trans h.1 h'.1, fun k o hk ho hn => h'.2 k o hk (h.2 k o hk ho hn) hn⟩
theorem Keeps.of_below {b : Nat} {w w' : World} (h : Below w.heap.size w w') : Keeps b w w' := ⟨h.size, fun k o _ ho _ => by
  have hk : k < w.heap.size := by
    rcases Nat.lt_or_ge k w.heap.size with h1 | h1
    · exact h1
    · rw [Array.getElem?_eq_none h1] at ho; cases ho
  rw [h.block k hk]; exact ho⟩
theorem Keeps.setCell (b : Nat) (w : World) (j : Nat) (v : Value) : Keeps b w (w.setCell ⟨b, j, none⟩ v) := ⟨by simp [World.setCell], fun k o hk ho _ => by rw [Below.heap_setCell _ _ _ _ hk]; exact ho⟩
theorem sizeB : (Tryz.prog.info? 111).map (·.size) = some 2 := by kernel_rfl
theorem liesB : liesAt Tryz.prog Tryz.prog.depth 111 (2 / Tryz.prog.cellsOf 111) 0 111 1 = true := by kernel_rfl
theorem infoByte : (Tryz.prog.info? 5).map (fun i => (i.zero, i.size, i.bytes)) = some (some (.int .u8 0), 1, 1) := by kernel_rfl

set_option maxHeartbeats 1000000 in
set_option maxRecDepth 100000 in
theorem copyCheck_used (b : Nat) (w : World) (h0 : w.cell? ⟨b, 0, none⟩ = some (.pointer (some ⟨b, 0, none⟩))) :
    Calls Tryz.prog 80 #[.pointer (some ⟨b, 0, none⟩)] w fun e w' => e = .returned (.tuple #[]) ∧ w' = w := by
  obtain ⟨j, hj, _⟩ := Option.map_eq_some_iff.1 sizeB
  go_enter Tryz.func80, Tryz.ntmps80
  go_wp2
  rw [Lib.run_neq_ptr_same w _ Tryz.underlying108 hj]
  go_wp2
  go_end0
  exact ⟨rfl, rfl⟩

set_option maxHeartbeats 1000000 in
set_option maxRecDepth 100000 in
theorem copyCheck_fresh (b : Nat) (w : World) (h0 : w.cell? ⟨b, 0, none⟩ = some (.pointer none)) (hsh : w.shape? b = some (111, 2)) (hfz : w.frozen? ⟨b, 0, none⟩ = false) :
    Calls Tryz.prog 80 #[.pointer (some ⟨b, 0, none⟩)] w fun e w' => e = .returned (.tuple #[]) ∧ w' = w.setCell ⟨b, 0, none⟩ (.pointer (some ⟨b, 0, none⟩)) := by
  obtain ⟨j, hj, hjs⟩ := Option.map_eq_some_iff.1 sizeB
  have hneq := Lib.run_neq_ptr_same (P := Tryz.prog) (w.setCell ⟨b, 0, none⟩ (.pointer (some ⟨b, 0, none⟩))) ⟨b, 0, none⟩ Tryz.underlying108 hj
  have hc1 : (w.setCell ⟨b, 0, none⟩ (.pointer (some ⟨b, 0, none⟩))).cell? ⟨b, 0, none⟩ = some (.pointer (some ⟨b, 0, none⟩)) := World.cell?_setCell_same _ _ _ h0
  go_enter Tryz.func80, Tryz.ntmps80
  go_wp2
  rw [Lib.run_to_unsafe w ⟨b, 0, none⟩ Tryz.underlying108 Tryz.underlying133 hj (by rw [hjs]; decide) hsh (Nat.zero_lt_succ 1)]
  simp only [Result.andThen]
  rw [Oper.upon_value]
  go_wp2
  rw [run_callFunc_extern Tryz.func115 (by kernel_rfl) (by kernel_rfl) (by kernel_rfl) (e := Extern.AbiNoEscape.same) (by kernel_rfl)]
  rw [Lib.run_noEscape]
  simp only [Result.andThen]
  rw [Oper.upon_value]
  go_wp2
  rw [Lib.run_from_unsafe w ⟨b, 0, none⟩ Tryz.underlying133 Tryz.underlying108 hj hsh liesB]
  simp only [Result.andThen]
  rw [Oper.upon_value]
  go_wp2
  go_end0
  exact ⟨rfl, rfl⟩

theorem copyCheck (B b : Nat) (bs : List Value) (w : World) (h : Lib.IsBuilder 111 5 B b bs w) :
    Calls Tryz.prog 80 #[.pointer (some ⟨b, 0, none⟩)] w fun e w' => e = .returned (.tuple #[]) ∧ (Lib.BuilderAt 111 5 B b (.pointer (some ⟨b, 0, none⟩)) bs w' ∧ Below B w w' ∧ Keeps b w w') := by
  rcases h with h | h
  · refine (copyCheck_fresh b w h.cell0 h.shape h.frozen0).mono ?_
    rintro e w' ⟨rfl, rfl⟩
    exact ⟨rfl, h.used _, (Below.refl B w).setCell (p := ⟨b, 0, none⟩) h.1 _, Keeps.setCell b w 0 _⟩
  · refine (copyCheck_used b w h.cell0).mono ?_
    rintro e w' ⟨rfl, rfl⟩
    exact ⟨rfl, h, Below.refl B _, Keeps.refl _ _⟩

set_option maxHeartbeats 2000000 in
set_option maxRecDepth 100000 in
theorem writeString (B b : Nat) (bs : List Value) (s : ByteArray) (w : World) (h : Lib.IsBuilder 111 5 B b bs w) (hlen : bs.length + s.size ≤ 140737488355328) (hBw : B ≤ w.heap.size) :
    Calls Tryz.prog 48 #[.pointer (some ⟨b, 0, none⟩), .string s] w fun e w' => e = .returned (.tuple #[.int .i64 s.size, .nilIface]) ∧ (Lib.BuilderAt 111 5 B b (.pointer (some ⟨b, 0, none⟩)) (bs ++ Lib.strCells s) w' ∧ Below B w w' ∧ Keeps b w w') := by
  obtain ⟨i0, hi, hz0, hz1, hz2⟩ := info_parts infoByte
  have HC := Lib.hid (copyCheck B b bs w h)
  clear h
  go_enter Tryz.func48, Tryz.ntmps48
  go_wp2_with (go_at_call 80; refine HC.out.mono ?_)
  rintro e w1 ⟨rfl, h1, hb1, hk1⟩
  obtain ⟨hB, v, hbk, hown, hne⟩ := h1
  have c0 : w1.cell? ⟨b, 0, none⟩ = some (.pointer (some ⟨b, 0, none⟩)) := by rw [Lib.cell_of_heap hbk]; rfl
  have c1 : w1.cell? ⟨b, 1, none⟩ = some v := by rw [Lib.cell_of_heap hbk]; rfl
  go_wp2_with (at_builtin; refine Lib.wpList_append_own_string _ rfl _ _ 109 9 rfl B 5 i0 Tryz.underlying109 Tryz.underlying9 hi hz0 hz1 hz2 _ _ _ rfl hown s rfl ?c3 ?c4 ?c5 ?_)
  case c3 => unfold maxLen; omega
  case c4 => omega
  case c5 => have := hb1.size; omega
  intro v' w2 hown' hgrow _
  have hlt : b < w1.heap.size := by
    rcases Nat.lt_or_ge b w1.heap.size with h' | h'
    · exact h'
    · simp [Array.getElem?_eq_none h'] at hbk
  have hb2 : w2.heap[b]? = some (.cells #[.pointer (some ⟨b, 0, none⟩), v] 111 (0, 0)) := by
    rw [hgrow.block b hlt (fun e => hne e.symm)]
    exact hbk
  have d0 : w2.cell? ⟨b, 0, none⟩ = some (.pointer (some ⟨b, 0, none⟩)) := by rw [Lib.cell_of_heap hb2]; rfl
  have d1 : w2.cell? ⟨b, 1, none⟩ = some v := by rw [Lib.cell_of_heap hb2]; rfl
  have f1 : w2.frozen? ⟨b, 1, none⟩ = false := Lib.frozen_of_heap hb2 1
  obtain ⟨ao, n', cap, rfl⟩ : ∃ ao n' cap, v' = .slice ao n' cap := by
    rcases hown'.2 with ⟨hv, _⟩ | ⟨g, cap, cur, hv, _⟩
    · exact ⟨_, _, _, hv⟩
    · exact ⟨_, _, _, hv⟩
  go_wp2
  go_ret2
  refine ⟨rfl, ?_, ?_, ?_⟩
  · exact Lib.BuilderAt.put (T := 111) (e := 5) hB hb2 (bs' := bs ++ Lib.strCells s) (by simpa [Lib.strCells_length] using hown') (by decide)
  · exact (hb1.grown hgrow (by have := hb1.size; omega) (fun k hk => (hown.lt k hk).1)).setCell (p := ⟨b, 1, none⟩) hB _
  · refine (hk1.trans ?_).trans (Keeps.setCell b w2 1 _)
    refine ⟨hgrow.size, fun k o hk ho hn => ?_⟩
    have hkl : k < w1.heap.size := by
      rcases Nat.lt_or_ge k w1.heap.size with h1 | h1
      · exact h1
      · rw [Array.getElem?_eq_none h1] at ho; cases ho
    rw [hgrow.block k hkl (fun e => ?_)]
    · exact ho
    · rcases hown.2 with ⟨hv, _⟩ | ⟨g, cap0, cur, hv, _, hg, _⟩
      · rw [hv] at e; cases e
      · rw [hv] at e
        obtain rfl : k = g := Option.some.inj e
        rw [hg] at ho
        exact hn _ _ (Option.some.inj ho).symm
end Go.Proofs.YtdllgeanmlmmfaaGreatDoor.Bld
