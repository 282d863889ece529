/-
  PACKAGE hist: order: the places of those that took effect, rising by their marks.
-/
import Derived.Test.YtdllgeanmlmmfaaGreatDoorHsRight
import Derived.Test.YtdllgeanmlmmfaaGreatDoorJoined3
import Derived.Test.YtdllgeanmlmmfaaGreatDoorJoined4
import Derived.Shelf.SlSortCmp.NoneTotal
namespace Go.Proofs.YtdllgeanmlmmfaaGreatDoor.Hs
open Go.RowKit Go.Sort Go.Shelf Go.Lib
set_option linter.unusedVariables false
set_option linter.unusedSimpArgs false

theorem cmpSame (a b : Int) (w : World) : Calls Tryz.prog 113 #[.int .i64 a, .int .i64 b] w fun e w' => e = .returned (.int .i64 (Batch.cmpI a b)) ∧ w' = w := (Batch.cmpInt_any a b w).mono fun _ _ ⟨he, hw⟩ => ⟨he, hw.symm⟩
set_option maxRecDepth 1000000 in
set_option maxHeartbeats 8000000 in
theorem markCmp_any {W : World} {pb : Nat} {ao : Option Addr} {cap : Nat} {L : List En} {i j : Nat} {x y : En} (hc : W.cell? ⟨pb, 0, none⟩ = some (.slice ao L.length cap)) (hv : RdE W (.slice ao L.length cap) L) (hx : L[i]? = some x) (hy : L[j]? = some y) :
    Calls Tryz.prog 118 #[.int .i64 (i : Int), .int .i64 (j : Int), .pointer (some ⟨pb, 0, none⟩)] W fun e w' => e = .returned (.int .i64 (Batch.cmpI x.mark y.mark)) ∧ ∃ q, w' = W.drewN q := by
  obtain ⟨ao', cap', hv, hll, hcell⟩ := hv
  simp only [Value.slice.injEq] at hv
  obtain ⟨rfl, _, rfl⟩ := hv
  obtain ⟨b, off, rfl, hcc⟩ := hcell.resolve_left (fun h => by rw [h] at hx; simp at hx)
  obtain ⟨_, _, x2, _⟩ := (hcc i x hx).1
  obtain ⟨_, _, y2, _⟩ := (hcc j y hy).1
  have hil := (List.getElem?_eq_some_iff.1 hx).1
  have hjl := (List.getElem?_eq_some_iff.1 hy).1
  have hi0 : (0 : Int) ≤ (i : Int) := Int.natCast_nonneg _
  have hj0 : (0 : Int) ≤ (j : Int) := Int.natCast_nonneg _
  have hi1 : (i : Int) < (L.length : Int) := by omega
  have hj1 : (j : Int) < (L.length : Int) := by omega
  clear hcc hcell hx hy
  go_enter Tryz.func118, Tryz.ntmps118
  go_wp2_with fail
  go_quiet ((go_at_call 113; exact Calls.quiet_of_same (cmpSame _ _ _)))
  go_wp2_with fail
  go_ret
  exact ⟨rfl, nq, rfl⟩

/-! ### the sort of the places -/
def nK : Rw.Kd Nat where
  k := 1
  cells := fun i => [.int .i64 (i : Int)]
  wf := fun _ => True
  len := fun _ => rfl
  one := by intro x u hu; simp at hu; subst hu; rfl
theorem flat_nK (l : List Nat) : nK.flat l = l.map fun (i : Nat) => Value.int .i64 (i : Int) := by
  induction l with
  | nil => rfl
  | cons x r ih => show nK.cells x ++ nK.flat r = _; rw [ih]; rfl
theorem put_take1 {α : Type} [Inhabited α] (enc : α → Value) (d : Array α) (cur : Array Value) (h : d.size ≤ cur.size) : (putCells enc 0 d cur).toList.take d.size = d.toList.map enc := by
  apply List.ext_getElem?
  intro t
  by_cases ht : t < d.size
  · rw [List.getElem?_take_of_lt ht, Array.getElem?_toList]
    simp only [putCells, Array.getElem?_mapIdx]
    rw [Array.getElem?_eq_getElem (xs := cur) (show t < cur.size by omega), Option.map_some, if_pos ⟨Nat.zero_le _, by omega⟩, List.getElem?_map, Array.getElem?_toList, Array.getElem?_eq_getElem (xs := d) ht, Nat.sub_zero, getElem!_pos d t ht]
    rfl
  · rw [List.getElem?_eq_none (by simp; omega), List.getElem?_eq_none (by simp; omega)]
theorem heap_sw {α : Type} [Inhabited α] (enc : α → Value) (w : World) (g n : Nat) (d' : Array α) (os : Array Obj) {k : Nat} (hk : k < w.heap.size) (hne : k ≠ g) : (sortWorld enc w g 0 n d' os).heap[k]? = w.heap[k]? := by
  show (grow (mapBlock (Sort.ahead w n) g (putCells enc 0 d')) os).heap[k]? = _
  rw [Go.Sort.heap_grow_old _ _ (by simpa [mapBlock] using hk)]
  simp only [mapBlock, heap_ahead, Array.getElem?_modify]
  rw [if_neg (by omega)]
theorem size_sw {α : Type} [Inhabited α] (enc : α → Value) (w : World) (g n : Nat) (d' : Array α) (os : Array Obj) : w.heap.size ≤ (sortWorld enc w g 0 n d' os).heap.size := by
  show w.heap.size ≤ (grow (mapBlock (Sort.ahead w n) g (putCells enc 0 d')) os).heap.size
  simp [grow, mapBlock, heap_ahead]
def mk (L : List En) (i : Nat) : Int := ((L[i]?).map (·.mark)).getD 0
/-- Rising by the marks. -/
def RiseM (L : List En) (l : List Nat) : Prop := l.Pairwise fun i j => mk L i ≤ mk L j
abbrev Pl (L : List En) : Type := { i : Nat // i < L.length }
def encP (L : List En) (x : Pl L) : Value := .int .i64 (x.1 : Int)
def cfP (L : List En) (x y : Pl L) : Int := Batch.cmpI (mk L x.1) (mk L y.1)
theorem ltP (L : List En) (x y : Pl L) : ltOf (cfP L) x y = decide (mk L x.1 < mk L y.1) := by
  unfold ltOf cfP Batch.cmpI
  rw [Bool.eq_iff_iff, decide_eq_true_iff, decide_eq_true_iff]
  split
  · rename_i h; exact ⟨fun _ => h, fun _ => by decide⟩
  · rename_i h
    split
    · exact ⟨fun h' => absurd h' (by decide), fun h' => absurd h' h⟩
    · exact ⟨fun h' => absurd h' (by decide), fun h' => absurd h' h⟩
theorem swoP (L : List En) : SWO (ltOf (cfP L)) where
  irrefl x := by rw [ltP]; exact decide_eq_false (by omega)
  trans x y z h1 h2 := by rw [ltP] at *; have := of_decide_eq_true h1; have := of_decide_eq_true h2; exact decide_eq_true (by omega)
  ntrans x y z h1 h2 := by rw [ltP] at *; have := of_decide_eq_false h1; have := of_decide_eq_false h2; exact decide_eq_false (by omega)
theorem mk_of {L : List En} {i : Nat} {x : En} (h : L[i]? = some x) : mk L i = x.mark := by unfold mk; rw [h]; rfl
theorem RdE.of_cells {w w' : World} {ao : Option Addr} {cap : Nat} {L : List En} (h : RdE w (.slice ao L.length cap) L) (e : ∀ b off, ao = some ⟨b, off, none⟩ → L ≠ [] → ∀ j, w'.cell? ⟨b, j, none⟩ = w.cell? ⟨b, j, none⟩) : RdE w' (.slice ao L.length cap) L := by
  obtain ⟨ao', cap', hv, hl, h⟩ := h
  simp only [Value.slice.injEq] at hv
  obtain ⟨rfl, _, rfl⟩ := hv
  refine ⟨_, _, rfl, hl, ?_⟩
  rcases h with h | ⟨b, off, ha, h⟩
  · exact .inl h
  · by_cases h0 : L = []
    · exact .inl h0
    · exact .inr ⟨b, off, ha, fun i x hx => ⟨(h i x hx).1.of_cells (e b off ha h0), (h i x hx).2⟩⟩

set_option maxRecDepth 1000000 in
theorem sortMark_any {W : World} {B pb : Nat} {v : Value} {ao : Option Addr} {capL : Nat} {L : List En} {l : List Nat} (hc : W.cell? ⟨pb, 0, none⟩ = some (.slice ao L.length capL)) (hpb : pb < B) (hv : RdE W (.slice ao L.length capL) L) (hvb : ∀ b off, ao = some ⟨b, off, none⟩ → L ≠ [] → b < B)
    (h : Rw.Own nK W B 3 v l) (hlt : ∀ i ∈ l, i < L.length) (hB : B ≤ W.heap.size) (hll : l.length ≤ 65536) :
    Calls Tryz.prog 117 #[v, .func (.func 118) #[] #[.pointer (some ⟨pb, 0, none⟩)]] W fun e w' => e = .returned (.tuple #[]) ∧ ∃ l' : List Nat, l'.Perm l ∧ RiseM L l' ∧ Rw.Own nK w' B 3 v l' ∧ Below B W w' := by
  rcases h.form with ⟨rfl, rfl⟩ | ⟨g, cap, rfl, hb, hg, hcap, hcm⟩
  · exact (AnyF.slices_SortFunc_none { Tryz.sortI with } none 0 _ W).mono fun e w' ⟨he, hw⟩ => ⟨he, [], List.Perm.refl _, List.Pairwise.nil, by rw [hw]; exact h, by rw [hw]; exact Below.refl _ _⟩
  · by_cases hn : l = []
    · subst hn
      exact (AnyF.slices_SortFunc_none { Tryz.sortI with } (some ⟨g, 0, none⟩) cap _ W).mono fun e w' ⟨he, hw⟩ => ⟨he, [], List.Perm.refl _, List.Pairwise.nil, by rw [hw]; exact h, by rw [hw]; exact Below.refl _ _⟩
    obtain ⟨i0, hi0⟩ := List.exists_mem_of_ne_nil l hn
    letI : Inhabited (Pl L) := ⟨⟨i0, hlt i0 hi0⟩⟩
    have hL0 : L ≠ [] := by intro e; have := hlt i0 hi0; rw [e] at this; simp at this
    obtain ⟨d, hd⟩ : ∃ d : List (Pl L), d.map (·.1) = l := ⟨l.attach.map fun x => ⟨x.1, hlt x.1 x.2⟩, by rw [List.map_map]; exact (List.attach_map_subtype_val l)⟩
    have hdl : d.length = l.length := by rw [← hd, List.length_map]
    have eg : ∀ args w, (callFunc 118 args).run Tryz.prog w = .ok (.enter 118 args) w := enters_of Tryz.func118 (by kernel_rfl) rfl
    have hH : Holds (encP L) W g 0 d.toArray := by
      intro j hj
      have hj' : j < d.length := by simpa using hj
      have hx : l[j]? = some (d[j]).1 := by rw [← hd, List.getElem?_map, List.getElem?_eq_getElem hj']; rfl
      have h3 := h.at hx 0 _ (by decide) rfl
      refine ⟨?_, h.free _⟩
      rw [getElem!_pos _ _ (by simpa using hj')]
      rw [show j * nK.k + 0 = 0 + j by show j * 1 + 0 = 0 + j; omega] at h3
      simpa [encP] using h3
    have hC : CmpLays1 Tryz.prog 118 #[.pointer (some ⟨pb, 0, none⟩)] (encP L) (cfP L) g 0 d.toArray.size W := by
      intro m os dk hs x y
      have hx : L[x.1]? = some (L[x.1]'x.2) := List.getElem?_eq_getElem x.2
      have hy : L[y.1]? = some (L[y.1]'y.2) := List.getElem?_eq_getElem y.2
      have ho : ∀ a : Addr, a.block ≠ g → a.block < W.heap.size → (sortWorld (encP L) W g 0 m dk os).cell? a = W.cell? a := fun a h1 h2 => World.cell?_of_block (heap_sw _ _ _ _ _ _ h2 h1)
      have hcc := markCmp_any (W := sortWorld (encP L) W g 0 m dk os) (pb := pb) (ao := ao) (cap := capL) (L := L) ((ho ⟨pb, 0, none⟩ (by show pb ≠ g; omega) (by show pb < _; omega)).trans hc) (hv.of_cells fun b off ha h0 j => ho ⟨b, j, none⟩ (by have := hvb b off ha h0; show b ≠ g; omega) (by have := hvb b off ha h0; show b < _; omega)) hx hy
      refine hcc.mono fun e w' ⟨he, q, hw⟩ => ⟨?_, q, #[], by rw [hw, grow_empty]⟩
      rw [he]; unfold cfP; rw [mk_of hx, mk_of hy]
    have hcon := Any.slices_SortFunc Tryz.sortI (encP L) (fun _ => rfl) (cfP L) (swoP L) 118 #[.pointer (some ⟨pb, 0, none⟩)] g 0 cap d.toArray W eg hC hH hg (by simp; omega)
    rw [List.size_toArray, hdl] at hcon
    refine hcon.mono fun e w' ⟨he, d', n, os, hp, hs, hw⟩ => ⟨he, d'.toList.map (·.1), ?_, ?_, ?_, ?_⟩
    · have hsz : d'.size = d.length := by simpa using hp.1
      have h2 := hp.2.2
      have e1 : d'.extract 0 l.length = d' := by rw [← hdl, ← hsz, Array.extract_size]
      have e2 : d.toArray.extract 0 l.length = d.toArray := by rw [← hdl, ← List.size_toArray, Array.extract_size]
      rw [e1, e2] at h2
      rw [← hd]
      simpa using h2.map (·.1)
    · have hsz : d'.size = l.length := by rw [← hdl]; simpa using hp.1
      unfold RiseM
      rw [List.pairwise_map, List.pairwise_iff_getElem]
      intro i j hi hj hij
      have hi' : i < d'.size := by simpa using hi
      have hj' : j < d'.size := by simpa using hj
      have := hs i j (Nat.zero_le _) hij (by omega)
      rw [ltP, getElem!_pos d' i hi', getElem!_pos d' j hj'] at this
      have := of_decide_eq_false this
      simpa using this
    · have hsz : d'.size = l.length := by rw [← hdl]; simpa using hp.1
      rcases h.2 with ⟨hv', _⟩ | ⟨g', cap', cur, hv', hb', hg', hn', hc', hs', ht'⟩
      · simp at hv'
      · simp at hv'
        obtain ⟨rfl, rfl⟩ := hv'
        refine ⟨by rw [Rw.flat_length], .inr ⟨g, cap, putCells (encP L) 0 d' cur, by simp [hsz], hb', ?_, by simp [hsz]; exact hn', hc', by simp [putCells, hs'], ?_⟩⟩
        · rw [hw]
          show (grow (mapBlock (Sort.ahead W n) g (putCells (encP L) 0 d')) os).heap[g]? = _
          rw [Go.Sort.heap_grow_old _ _ (by simpa [mapBlock] using hg)]
          simp only [mapBlock, heap_ahead, Array.getElem?_modify, if_true, hg', Option.map_some]
          rfl
        · have e : (d'.toList.map (·.1)).length * nK.k = d'.size := by simp [nK]
          rw [e, put_take1 _ _ _ (by rw [hs', hsz]; show _ ≤ cap * 1; omega), flat_nK, List.map_map]
          rfl
    · rw [hw]
      exact ⟨rfl, rfl, rfl, size_sw _ _ _ _ _ _, fun k hk => heap_sw _ _ _ _ _ _ (by omega) (by omega)⟩

/-! ### order -/
theorem info_partsH {x : Option TypeInfo} {z : Value} {s b : Nat} (h : (x.map fun i => (i.zero, i.size, i.bytes)) = some (some z, s, b)) : ∃ i, x = some i ∧ i.zero = some z ∧ i.size = s ∧ i.bytes = b := by
  cases x with
  | none => simp at h
  | some i => simp at h; exact ⟨i, rfl, h.1, h.2.1, h.2.2⟩
theorem infoH : ((Tryz.prog.info? 3).map fun i => (i.zero, i.size, i.bytes)) = some (some (.int .i64 0), 1, 8) := by kernel_rfl
def tk (L : List En) (i : Nat) : List Nat := (List.range i).filter fun j => mk L j != 0
theorem tk_succ (L : List En) (i : Nat) : tk L (i + 1) = if mk L i = 0 then tk L i else tk L i ++ [i] := by
  unfold tk
  rw [List.range_succ, List.filter_append]
  split
  · rename_i h; simp [h]
  · rename_i h; simp [h]
theorem tk_length (L : List En) (i : Nat) : (tk L i).length ≤ i := by
  unfold tk
  exact Nat.le_trans (List.length_filter_le _ _) (by simp)
theorem tk_lt {L : List En} {i j : Nat} (h : j ∈ tk L i) : j < i := by unfold tk at h; simpa using (List.mem_filter.1 h).1

set_option maxRecDepth 1000000 in
set_option maxHeartbeats 8000000 in
theorem hsOrder_any {w : World} {v : Value} {L : List En} (hv : RdE w v L) (hll : L.length ≤ 65536) :
    Calls Tryz.prog 83 #[v] w fun e w' => ∃ v' l, e = .returned v' ∧ Rw.Own nK w' (w.heap.size + 1) 3 v' l ∧ l.Perm (tk L L.length) ∧ RiseM L l ∧ Below w.heap.size w w' := by
  have HV := Lib.hid hv
  obtain ⟨ao, cap, rfl, _, hcell⟩ := hv
  have HC := Lib.hid hcell
  have HLL := Lib.hid hll
  obtain ⟨i0, hi, hz0, hz1, hz2⟩ := info_partsH infoH
  obtain ⟨w0, hw0⟩ : ∃ w0, w0 = w.alloc (.cells #[.slice ao L.length cap] 68) := ⟨_, rfl⟩
  have hx0 : w0.heap[w.heap.size]? = some (.cells #[.slice ao L.length cap] 68 (0, 0)) := by rw [hw0]; exact heap_alloc_new w _
  have HX0 := Lib.hid hx0
  have HB0 := Lib.hid (show Below w.heap.size w w0 by rw [hw0]; exact (Below.refl _ _).alloc (Nat.le_refl _) _)
  have hs0 : w0.heap.size = w.heap.size + 1 := by rw [hw0]; simp
  have HS0 := Lib.hid hs0
  clear hcell hx0 hs0
  go_enter Tryz.func83, Tryz.ntmps83
  go_upto_region 2 with fail
  rw [← hw0]
  clear hw0
  have x0 : w0.cell? ⟨w.heap.size, 0, none⟩ = some (.slice ao L.length cap) := by simp [World.cell?, HX0.out]
  have hll3 : (L.length : Int) ≤ 65536 := by have := HLL.out; omega
  go_wp2_with fail
  clear x0
  go_loopg [3, 8] L.length (fun k s3 s8 wr => ∃ (i : Nat), i + k = L.length ∧ s8 = .int .i64 (i : Int) ∧ Hid (Rw.Own nK wr (w.heap.size + 1) 3 s3 (tk L i)) ∧ Hid (Below (w.heap.size + 1) w0 wr))
  case atStart => exact ⟨0, by omega, rfl, Lib.hid (Rw.Own.nil _ _ _), Lib.hid (Below.refl _ _)⟩
  case round =>
    obtain ⟨i, hik, rfl, HO, HB⟩ := hrel
    have HIK := Lib.hid hik
    have hi0 : (0 : Int) ≤ (i : Int) := Int.natCast_nonneg _
    have hsr : w.heap.size + 1 ≤ wr.heap.size := by have := HB.out.size; have := HS0.out; omega
    by_cases hlt : i < L.length
    · obtain ⟨x, hx⟩ : ∃ x, L[i]? = some x := ⟨_, List.getElem?_eq_getElem hlt⟩
      have HMK := Lib.hid (mk_of hx)
      obtain ⟨b, off, rfl, hcc⟩ := HC.out.resolve_left (fun h => by rw [h] at hx; simp at hx)
      have q := (hcc i x hx).1
      obtain ⟨c0, c1, c2, c3, c4, c5, c6, c7, c8, c9, c10, c11, c12, c13⟩ := (q.below HB0.out q.lt).below HB.out (by have := q.lt; omega)
      have HLT := Lib.hid hlt
      have hlt1 : decide ((i : Int) < (L.length : Int)) = true := decide_eq_true (by omega)
      have hlt2 : (i : Int) < (L.length : Int) := by omega
      clear hx hcc q hlt hik
      obtain ⟨who, beg, mark, fin, kind, owho, hand, port, time, la, ln, lc, way, n, err, ta, tn, tc⟩ := x
      dsimp only at c0 c1 c2 c3 c4 c5 c6 c7 c8 c9 c10 c11 c12 c13 HMK
      by_cases hm0 : mark = 0
      · have hmb : (mark != 0) = false := by simp [hm0]
        have HT := Lib.hid (show tk L (i + 1) = tk L i by rw [tk_succ, if_pos (by rw [HMK.out]; exact hm0)])
        clear hm0
        go_wp2_with fail
        go_roundg (gk - 1)
        case measure => have := HIK.out; have := HLT.out; omega
        case rel => exact ⟨i + 1, by have := HIK.out; have := HLT.out; omega, by go_num, Lib.hid (by rw [HT.out]; exact HO.out.below ((Below.refl _ _).alloc (Nat.le_refl _) _)), Lib.hid (HB.out.alloc hsr _)⟩
      · have hmb : (mark != 0) = true := by simp [hm0]
        have HT := Lib.hid (show tk L (i + 1) = tk L i ++ [i] by rw [tk_succ, if_neg (by rw [HMK.out]; exact hm0)])
        have htl := tk_length L i
        have hil := HLL.out
        have hil2 := HLT.out
        have hown : wr.ownsRow (w.heap.size + 1) 3 1 u3 (tk L i).length (nK.flat (tk L i)) := HO.out
        clear hm0
        go_upto_region 6 with fail
        obtain ⟨w2, hw2⟩ : ∃ w2, w2 = wr.alloc (.cells #[.int .i64 who, .int .i64 beg, .int .i64 mark, .int .i64 fin, .int .i64 kind, .int .i64 owho, .int .i64 hand, .int .i64 port, .int .u64 time, .slice la ln lc, .int .i64 way, .int .i64 n, .int .i64 err, .slice ta tn tc] 66) := ⟨_, rfl⟩
        rw [← hw2]
        have hown2 : w2.ownsRow (w.heap.size + 1) 3 1 u3 (tk L i).length (nK.flat (tk L i)) := by rw [hw2]; exact hown.alloc _
        have HB2 := Lib.hid (show Below (w.heap.size + 1) w0 w2 by rw [hw2]; exact HB.out.alloc hsr _)
        have hs2 : w.heap.size + 1 ≤ w2.heap.size := by have := HB2.out.size; have := HS0.out; omega
        clear hw2 hown c0 c1 c2 c3 c4 c5 c6 c7 c8 c9 c10 c11 c12 c13
        go_wp2_with (at_builtin; refine Batch.wpList_append_any _ rfl _ _ 23 23 rfl (w.heap.size + 1) 3 3 i0 (.int .i64 0) 1 8 Tryz.underlying23 Tryz.underlying23 hi hz0 hz1 hz2 rfl (by decide) u3 (tk L i).length (nK.flat (tk L i)) rfl (hown2.alloc _) (some ⟨w2.heap.size, 0, none⟩) 1 1 [.int .i64 (i : Int)] rfl rfl ?c1 ?c2 ?c3 ?c4 ?c5 ?_)
        case c1 => exact .inr ⟨_, rfl, World.news_of_block (cs := #[.int .i64 (i : Int)]) (heap_alloc_new w2 _)⟩
        case c2 => intro y hy; simp at hy; subst hy; rfl
        case c3 => unfold maxLen; omega
        case c4 => omega
        case c5 => simp; omega
        intro v' w6 hown6 hgrow hblk
        have hb6 : Below (w.heap.size + 1) w2 w6 := ((Below.refl _ _).alloc hs2 _).grown hgrow (by simp; omega) (fun k e => (hown2.lt k e).1)
        have HB6 := Lib.hid (HB2.out.trans hb6)
        have HO6 := Lib.hid (show Rw.Own nK w6 (w.heap.size + 1) 3 v' (tk L (i + 1)) by rw [HT.out]; unfold Rw.Own; rw [Rw.flat_snoc, List.length_append]; exact hown6)
        clear hown2 hown6 hgrow hblk hb6 hs2
        go_wp2_with fail
        go_roundg (gk - 1)
        case measure => have := HIK.out; have := HLT.out; omega
        case rel => exact ⟨i + 1, by have := HIK.out; have := HLT.out; omega, by go_num, HO6, HB6⟩
    · have hiL : i = L.length := by omega
      have HO2 := Lib.hid (show Rw.Own nK wr (w.heap.size + 1) 3 u3 (tk L L.length) by rw [← hiL]; exact HO.out)
      have hlt1 : decide ((i : Int) < (L.length : Int)) = false := decide_eq_false (by omega)
      have HVW := Lib.hid ((HV.out.below HB0.out).below (HB.out.mono (by rw [HS0.out]; exact Nat.le_refl _)))
      have HBW := Lib.hid (HB0.out.trans (HB.out.mono (Nat.le_succ _)))
      have hcw : wr.cell? ⟨w.heap.size, 0, none⟩ = some (.slice ao L.length cap) := (HB.out.cell (p := ⟨w.heap.size, 0, none⟩) (Nat.lt_succ_self _)).trans (by simp [World.cell?, HX0.out])
      have HCW := Lib.hid hcw
      have HBL := Lib.hid (show ∀ b off, ao = some ⟨b, off, none⟩ → L ≠ [] → b < w.heap.size + 1 from fun b off ha h0 => by
        obtain ⟨b', off', ha', hcc⟩ := HC.out.resolve_left h0
        rw [ha] at ha'
        cases ha'
        have := (hcc 0 _ (List.getElem?_eq_getElem (List.length_pos_iff.2 h0))).1.lt
        omega)
      have HSR := Lib.hid hsr
      clear hik hiL hcw hi hz0 hz1 hz2
      go_wp2_with fail
      go_at_call 117
      refine (sortMark_any HCW.out (Nat.lt_succ_self _) HVW.out HBL.out HO2.out (fun j hj => tk_lt hj) HSR.out (Nat.le_trans (tk_length _ _) HLL.out)).mono ?_
      rintro e w7 ⟨rfl, l', hp, hr, ho, hb⟩
      have HF := Lib.hid (And.intro hp (And.intro hr (And.intro ho (HBW.out.trans (hb.mono (Nat.le_succ _))))))
      clear hp hr ho hb
      go_wp2_with fail
      go_ret
      exact ⟨_, l', rfl, HF.out.2.2.1, HF.out.1, HF.out.2.1, HF.out.2.2.2⟩
end Go.Proofs.YtdllgeanmlmmfaaGreatDoor.Hs
