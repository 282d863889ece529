/-
  YtlkljeedlkbkgaaGreatDoorClInsert
-/
import Derived.Test.YtlkljeedlkbkgaaGreatDoorJoined12
import Derived.Test.YtlkljeedlkbkgaaGreatDoorJoined4
import Derived.Shelf.Spec.SlicesInsert
import Derived.Lib.AppendZerosOnto
import Derived.Laws.NewBlocks
import Derived.Deep.Cut
namespace Go.Proofs.YtlkljeedlkbkgaaGreatDoor.Cl
open Go.RowKit Gr Go.Lib
set_option linter.unusedVariables false
set_option linter.unusedSimpArgs false
theorem run_copy_k {P : Program} (w : World) (dT sT ty elem : TypeId) (b o dLen dCap k : Nat) (a : Addr) (sLen sCap m : Nat) (cs : List Value)
    (hu : P.underlying dT = some (.slice elem)) (hs : (P.info? elem).map (·.size) = some k) (hm : Nat.min sLen dLen = m) (hn : cs.length = m * k)
    (hsrc : ∀ j v, cs[j]? = some v → w.cell? (a.add j) = some v) (hc : ∀ j, j < cs.length → (w.cell? ⟨b, o + j, none⟩).isSome = true) (hf : ∀ j, j < cs.length → w.frozen? ⟨b, o + j, none⟩ = false) (h1 : ∀ v ∈ cs, v.oneCell' = true) :
    (Builtin.copy_ #[dT, sT] ty #[.slice (some ⟨b, o, none⟩) dLen dCap, .slice (some a) sLen sCap]).run P w = .ok (goInt m) (w.setCells b o cs) := by
  have hl := run_loadCells_list (P := P) w a cs hsrc
  have hst := run_storeCells_cells (P := P) b o cs 0 w (by simpa using hc) (by simpa using hf) h1
  cases hq : P.info? elem with
  | none => simp [hq] at hs
  | some i =>
    have hi : i.size = k := by simpa [hq] using hs
    simp [Builtin.copy_, run_underlying hu, Builtin.lenOf, Builtin.firstCells, sizeOf, typeInfo, hq, hi, hm, ← hn, hl, hst]
theorem wrap_suc (i : Nat) (h : i ≤ 10000) : IntKind.i64.wrap ((i : Int) + 1) = (i : Int) + 1 := by rw [IntKind.wrap_i64]; omega
theorem own_spare {w : World} {base g n cap : Nat} {T : TypeId} {H : List Ed} (h : Own w base T (.slice (some ⟨g, 0, none⟩) n cap) H) :
    (∀ j, j < cap * 3 → (w.cell? ⟨g, j, none⟩).isSome = true) ∧ base ≤ g ∧ g < w.heap.size ∧ n = H.length ∧ n ≤ cap ∧ cap ≤ 9223372036854775807 ∧ w.shape? g = some (T, cap * 3) := by
  rcases h.2 with ⟨hv, _⟩ | ⟨g', cap', cur, hv, hb, hg, hc, hm, hs, ht⟩
  · simp at hv
  · simp at hv
    obtain ⟨rfl, hn, rfl⟩ := hv
    refine ⟨fun j hj => ?_, hb, (Array.getElem?_eq_some_iff.1 hg).1, hn, by omega, by unfold maxLen at hm; exact hm, ?_⟩
    · have : w.cell? ⟨g, j, none⟩ = cur[j]? := by simp [World.cell?, hg]
      rw [this, Array.getElem?_eq_getElem (by omega)]
      rfl
    · simp [World.shape?, hg, hs]
theorem own_ext {w : World} {base g n cap : Nat} {T : TypeId} {H : List Ed} (h : Own w base T (.slice (some ⟨g, 0, none⟩) n cap) H) (hk : n + 1 ≤ cap) :
    ∃ ys : List Value, ys.length = 3 ∧ w.ownsRow base T 3 (.slice (some ⟨g, 0, none⟩) (n + 1) cap) (n + 1) (Gr.cellsL H ++ ys) := by
  rcases h.2 with ⟨hv, _⟩ | ⟨g', cap', cur, hv, hb, hg, hc, hm, hs, ht⟩
  · simp at hv
  · simp at hv
    obtain ⟨rfl, hn, rfl⟩ := hv
    have hlc : (Gr.cellsL H).length = H.length * 3 := Gr.cellsL_length H
    have hly : ((cur.toList.drop (n * 3)).take 3).length = 3 := by
      rw [List.length_take, List.length_drop, Array.length_toList, hs]; omega
    refine ⟨(cur.toList.drop (n * 3)).take 3, hly, by rw [List.length_append, hlc, hly]; omega, .inr ⟨g, cap, cur, rfl, hb, hg, hk, hm, hs, ?_⟩⟩
    rw [show (n + 1) * 3 = n * 3 + 3 by omega, List.take_add, ← ht, hn]
theorem cellsH_ins (H : List Ed) (i : Nat) (x : Ed) : Gr.cellsL (H.take i ++ x :: H.drop i) = Gr.cellsL (H.take i) ++ x.cells ++ Gr.cellsL (H.drop i) := by
  rw [Gr.cellsL_append]
  have : Gr.cellsL (x :: H.drop i) = x.cells ++ Gr.cellsL (H.drop i) := rfl
  rw [this, List.append_assoc]
theorem ins_length {H : List Ed} {i : Nat} (hi : i ≤ H.length) (x : Ed) : (H.take i ++ x :: H.drop i).length = H.length + 1 := by
  rw [List.length_append, List.length_cons, List.length_take, List.length_drop]; omega
theorem own_ins {w : World} {base g n cap i : Nat} {T : TypeId} {H : List Ed} (h : Own w base T (.slice (some ⟨g, 0, none⟩) n cap) H) (hn : n = H.length) (hk : n + 1 ≤ cap) (hi : i ≤ n) (x : Ed) :
    Own ((w.setCells g ((i + 1) * 3) (Gr.cellsL (H.drop i))).setCells g (i * 3) x.cells) base T (.slice (some ⟨g, 0, none⟩) (n + 1) cap) (H.take i ++ x :: H.drop i) := by
  obtain ⟨ys, hy, hr⟩ := own_ext h hk
  have hld : (Gr.cellsL (H.drop i)).length = (n - i) * 3 := by rw [Gr.cellsL_length, List.length_drop, hn]
  have hlt : (Gr.cellsL (H.take i)).length = i * 3 := by rw [Gr.cellsL_length, List.length_take]; omega
  have hlx : x.cells.length = 3 := rfl
  have hlh : (Gr.cellsL H).length = n * 3 := by rw [Gr.cellsL_length, hn]
  have h1 := Rw.row_setCells (Gr.cellsL (H.drop i)) ((i + 1) * 3) w _ hr (by rw [hld]; omega)
  have h2 := Rw.row_setCells x.cells (i * 3) _ _ h1 (by rw [hlx]; omega)
  have hall : Gr.cellsL H = Gr.cellsL (H.take i) ++ Gr.cellsL (H.drop i) := by rw [← Gr.cellsL_append, List.take_append_drop]
  have e0 : List.drop ((i + 1) * 3 + (Gr.cellsL (H.drop i)).length) (Gr.cellsL H ++ ys) = [] := List.drop_eq_nil_of_le (by rw [List.length_append, hlh, hld, hy]; omega)
  rw [e0, List.append_nil] at h2
  have hlt1 : (List.take ((i + 1) * 3) (Gr.cellsL H ++ ys)).length = (i + 1) * 3 := by rw [List.length_take, List.length_append, hlh, hy]; omega
  have e1 : List.take (i * 3) (List.take ((i + 1) * 3) (Gr.cellsL H ++ ys) ++ Gr.cellsL (H.drop i)) = Gr.cellsL (H.take i) := by
    rw [List.take_append_of_le_length (by rw [hlt1]; omega), List.take_take, show min (i * 3) ((i + 1) * 3) = i * 3 by omega, List.take_append_of_le_length (by rw [hlh]; omega), cellsH_take]
  have e2 : List.drop (i * 3 + x.cells.length) (List.take ((i + 1) * 3) (Gr.cellsL H ++ ys) ++ Gr.cellsL (H.drop i)) = Gr.cellsL (H.drop i) := by
    rw [hlx, show i * 3 + 3 = (List.take ((i + 1) * 3) (Gr.cellsL H ++ ys)).length by rw [hlt1]; omega, List.drop_left]
  rw [e1, e2] at h2
  unfold Own
  rw [ins_length (by omega) x, ← hn, cellsH_ins]
  exact h2
theorem own_ins2 {Wa Wb : World} {base g n cap i : Nat} {T : TypeId} {H : List Ed} {xs : List Value} (hr : Wa.ownsRow base T 3 (.slice (some ⟨g, 0, none⟩) (n + 1) cap) (n + 1) xs) (hx : xs.take (i * 3) = Gr.cellsL (H.take i)) (hn : n = H.length) (hi : i ≤ n) (x : Ed)
    (hW : Wb.heap = (Wa.setCells g (i * 3) x.cells).heap) :
    Own (Wb.setCells g ((i + 1) * 3) (Gr.cellsL (H.drop i))) base T (.slice (some ⟨g, 0, none⟩) (n + 1) cap) (H.take i ++ x :: H.drop i) := by
  have hld : (Gr.cellsL (H.drop i)).length = (n - i) * 3 := by rw [Gr.cellsL_length, List.length_drop, hn]
  have hlx : x.cells.length = 3 := rfl
  have hl : xs.length = (n + 1) * 3 := hr.1
  have h1 := Rw.row_setCells x.cells (i * 3) Wa _ hr (by rw [hlx]; omega)
  have h1' : Wb.ownsRow base T 3 (.slice (some ⟨g, 0, none⟩) (n + 1) cap) (n + 1) (xs.take (i * 3) ++ x.cells ++ xs.drop (i * 3 + x.cells.length)) := by
    unfold World.ownsRow at h1 ⊢
    rw [hW]
    exact h1
  have h2 := Rw.row_setCells (Gr.cellsL (H.drop i)) ((i + 1) * 3) Wb _ h1' (by rw [hld]; omega)
  have hlt : (Gr.cellsL (H.take i)).length = i * 3 := by rw [Gr.cellsL_length, List.length_take]; omega
  have hl2 : (Gr.cellsL (H.take i) ++ x.cells).length = (i + 1) * 3 := by rw [List.length_append, hlt, hlx]; omega
  rw [hx] at h2
  have e1 : List.take ((i + 1) * 3) (Gr.cellsL (H.take i) ++ x.cells ++ xs.drop (i * 3 + x.cells.length)) = Gr.cellsL (H.take i) ++ x.cells := by rw [← hl2, List.take_left]
  have e2 : List.drop ((i + 1) * 3 + (Gr.cellsL (H.drop i)).length) (Gr.cellsL (H.take i) ++ x.cells ++ xs.drop (i * 3 + x.cells.length)) = [] := List.drop_eq_nil_of_le (by rw [List.length_append, hl2, List.length_drop, hl, hld, hlx]; omega)
  rw [e1, e2, List.append_nil] at h2
  unfold Own
  rw [ins_length (by omega) x, ← hn, cellsH_ins]
  exact h2
def InsQ (base g : Nat) (L : List Ed) (w : World) (e : Ending) (w' : World) : Prop := ∃ v', e = .returned v' ∧ (∃ k c, v' = .slice (some ⟨k, 0, none⟩) L.length c ∧ (k = g ∨ k = w.heap.size)) ∧ Own w' base 40 v' L ∧ OnlyB g w w'
theorem OnlyB.grown {g : Nat} {w w' : World} (hg : w.grownBy w' (some g)) (hgl : g < w.heap.size) : OnlyB g w w' :=
  ⟨fun B hB => (Below.refl B w).grown hg (by omega) (fun k hk => by obtain rfl := Option.some.inj hk; exact hB), fun k hk hl => hg.block k hl (fun e => hk (Option.some.inj e))⟩
theorem x_cells (x : Ed) : ∀ u ∈ x.cells, u.oneCell' = true := by intro u hu; simp [Ed.cells] at hu; rcases hu with rfl | rfl | rfl <;> rfl
theorem x_at {w : World} {gv : Nat} {x : Ed} {T : TypeId} (hv : w.heap[gv]? = some (.cells #[.int .i64 x.f, .int .i64 x.t, .int .u64 x.a] T (0, 0))) : ∀ j u, x.cells[j]? = some u → w.cell? ((⟨gv, 0, none⟩ : Addr).add j) = some u := by
  intro j u hu
  rw [Addr.add_lit, Nat.zero_add]
  have : w.cell? ⟨gv, j, none⟩ = (#[.int .i64 x.f, .int .i64 x.t, .int .u64 x.a] : Array Value)[j]? := by simp [World.cell?, hv]
  rw [this, ← Array.getElem?_toList]
  exact hu
set_option maxRecDepth 1000000 in
set_option maxHeartbeats 8000000 in
theorem insert_end {w : World} {base g n cap gv : Nat} {H : List Ed} {x : Ed} (h : Own w base 40 (.slice (some ⟨g, 0, none⟩) n cap) H) (hl : n ≤ 10000) (hbase : base ≤ w.heap.size)
    (hv : w.heap[gv]? = some (.cells #[.int .i64 x.f, .int .i64 x.t, .int .u64 x.a] 40 (0, 0))) :
    Calls Tryz.prog 73 #[.slice (some ⟨g, 0, none⟩) n cap, .int .i64 n, .slice (some ⟨gv, 0, none⟩) 1 1] w (InsQ base g (H ++ [x]) w) := by
  obtain ⟨i0, hi0, hz0, hz1, hz2⟩ := Gr.info_parts infoH
  have hs := own_spare h
  have HS := Lib.hid hs
  have HO := Lib.hid h
  obtain ⟨_, _, _, hn, hn1, hn2, _⟩ := hs
  have HX := Lib.hid (x_at hv)
  have HN := Lib.hid hn
  have h1 : ((n : Int) == (n : Int)) = true := by simp
  have h2 : (n : Int) ≤ (n : Int) := Int.le_refl _
  have h3 : (0 : Int) ≤ (n : Int) := Int.natCast_nonneg _
  have h4 : (n : Int) ≤ (cap : Int) := by omega
  have HRW : Hid (w.ownsRow base 40 3 (.slice (some ⟨g, 0, none⟩) n cap) n (Gr.cellsL H)) := by
    have := HO.out
    unfold Own at this
    rw [← HN.out] at this
    exact Lib.hid this
  clear h hn hv
  go_enter Tryz.func73, Tryz.ntmps73
  go_wp2_with (at_builtin; refine Batch.wpList_append_any (P := Tryz.prog) _ rfl _ _ 43 43 rfl base 40 40 i0 _ 3 24 Tryz.underlying43 Tryz.underlying43 hi0 hz0 hz1 hz2 (by kernel_rfl) (by decide) (.slice (some ⟨g, 0, none⟩) n cap) n (Gr.cellsL H) rfl HRW.out (some ⟨gv, 0, none⟩) 1 1 x.cells rfl rfl (.inr ⟨_, rfl, HX.out⟩) (x_cells x) (by unfold maxLen; omega) (by omega) hbase ?_; intro v' w' ho hg hb)
  all_goals
    go_ret
    have hob : Own w' base 40 v' (H ++ [x]) := by
      unfold Own
      rw [List.length_append, ← HN.out, Gr.cellsL_append]
      exact ho
    refine ⟨_, rfl, ?_, hob, OnlyB.grown hg HS.out.2.2.1⟩
    rcases hob.form with ⟨hh, _⟩ | ⟨k, c, hv, _⟩
    · simp at hh
    · refine ⟨k, c, hv, ?_⟩
      rw [hv] at hb
      simp [Value.ownBlock] at hb
      exact hb
set_option maxRecDepth 1000000 in
set_option maxHeartbeats 8000000 in
theorem insert_room {w : World} {base g n cap i gv : Nat} {H : List Ed} {x : Ed} (h : Own w base 40 (.slice (some ⟨g, 0, none⟩) n cap) H) (hi : i < n) (hl : n ≤ 10000) (hroom : n + 1 ≤ cap) (hne : gv ≠ g)
    (hv : w.heap[gv]? = some (.cells #[.int .i64 x.f, .int .i64 x.t, .int .u64 x.a] 40 (0, 0))) :
    Calls Tryz.prog 73 #[.slice (some ⟨g, 0, none⟩) n cap, .int .i64 i, .slice (some ⟨gv, 0, none⟩) 1 1] w (InsQ base g (H.take i ++ x :: H.drop i) w) := by
  obtain ⟨i0, hi0, hz0, hz1, hz2⟩ := Gr.info_parts infoH
  have hs := own_spare h
  have HO := Lib.hid h
  obtain ⟨hsp, hsb, hsg, hn, hn1, hn2, hsh⟩ := hs
  have HG := Lib.hid hsg
  have HN := Lib.hid hn
  have hsz : (Tryz.prog.info? 40).map (·.size) = some 3 := by rw [hi0]; simp [hz1]
  have hfr : ∀ o, w.frozen? ⟨g, o, none⟩ = false := fun o => h.free o
  have hdl : (Gr.cellsL (H.drop i)).length = (n - i) * 3 := by rw [Gr.cellsL_length, List.length_drop, hn]
  have hfv : ∀ o, w.frozen? ⟨gv, o, none⟩ = false := fun o => by simp [World.frozen?, hv]
  have hsv : w.shape? gv = some (40, 3) := by simp [World.shape?, hv]
  have hsrc : ∀ j u, (Gr.cellsL (H.drop i))[j]? = some u → w.cell? ((⟨g, i * 3, none⟩ : Addr).add j) = some u := fun j u hu => by
    rw [← cellsH_drop, List.getElem?_drop] at hu
    have := World.ownsRow.cells h (g := g) rfl _ u hu
    rw [Addr.add_lit, Nat.zero_add] at this
    rw [Addr.add_lit]
    exact this
  have hx := x_at hv
  have hov : ∀ lb cb, (callFunc 109 #[.slice (some ⟨gv, 0, none⟩) 1 1, .slice (some ⟨g, (i + 1) * 3, none⟩) lb cb]).run Tryz.prog w = .ok (.value (.bool false)) w := fun lb cb => by
    rw [run_callFunc_extern Tryz.func109 (by kernel_rfl) (by kernel_rfl) (by kernel_rfl) (e := Extern.SlicesOverlaps.overlaps #[43, 43] #[4]) (by kernel_rfl),
      Lib.run_overlaps_apart w 43 4 40 Tryz.underlying43 3 Tryz.sizeOf40 ⟨gv, 0, none⟩ ⟨g, (i + 1) * 3, none⟩ 1 1 lb cb hne 40 40 3 (cap * 3) hsv hsh (by omega) (hfv 0) (hfv 3)]
    rfl
  have hcp1 : ∀ ty dc sc, (Builtin.copy_ #[43, 43] ty #[.slice (some ⟨g, (i + 1) * 3, none⟩) (n - i) dc, .slice (some ⟨g, i * 3, none⟩) (n + 1 - i) sc]).run Tryz.prog w.drew = .ok (goInt ((n - i : Nat) : Int)) (w.drew.setCells g ((i + 1) * 3) (Gr.cellsL (H.drop i))) := fun ty dc sc =>
    run_copy_k w.drew _ _ ty 40 g ((i + 1) * 3) (n - i) dc 3 ⟨g, i * 3, none⟩ (n + 1 - i) sc (n - i) (Gr.cellsL (H.drop i)) Tryz.underlying43 hsz (by simp only [Nat.min_def]; split <;> omega) hdl
      (fun j v hj => hsrc j v hj) (fun j hj => hsp _ (by rw [hdl] at hj; omega)) (fun j hj => hfr _) (Gr.cellsL_one _)
  obtain ⟨W1, hW1⟩ : ∃ W1, W1 = w.drew.setCells g ((i + 1) * 3) (Gr.cellsL (H.drop i)) := ⟨_, rfl⟩
  have hcp2 : ∀ (W : World), (∀ x, W.cell? x = W1.cell? x) → (∀ x, W.frozen? x = W1.frozen? x) → ∀ ty dc, (Builtin.copy_ #[43, 43] ty #[.slice (some ⟨g, i * 3, none⟩) (n + 1 - i) dc, .slice (some ⟨gv, 0, none⟩) 1 1]).run Tryz.prog W = .ok (goInt 1) (W.setCells g (i * 3) x.cells) := fun W hWc hWf ty dc =>
    run_copy_k W _ _ ty 40 g (i * 3) (n + 1 - i) dc 3 ⟨gv, 0, none⟩ 1 1 1 x.cells Tryz.underlying43 hsz (by simp only [Nat.min_def]; split <;> omega) rfl
      (fun j v hj => by
        rw [Addr.add_lit, hWc, hW1, World.cell?_setCells_out g _ _ _ _ (fun h _ => absurd h hne)]
        have := hx j v hj
        rw [Addr.add_lit] at this
        exact this)
      (fun j hj => by
        rw [hWc, hW1]
        exact isSome_setCells g (Gr.cellsL (H.drop i)) ((i + 1) * 3) w.drew (fun t ht => hsp ((i + 1) * 3 + t) (by rw [hdl] at ht; omega)) (i * 3 + j) (hsp (i * 3 + j) (by have : x.cells.length = 3 := rfl; omega)))
      (fun j hj => by rw [hWf, hW1, World.frozen?_setCells]; exact hfr _) (x_cells x)
  rw [← hW1] at hcp1
  have HW1 := Lib.hid hW1
  have b1 : ((i : Int) == (n : Int)) = false := by rw [beq_eq_false_iff_ne]; omega
  have b2 : ¬ ((i : Int) = (n : Int)) := by omega
  have b3 : decide ((cap : Int) < (n : Int) + 1) = false := decide_eq_false (by omega)
  have b4 : ¬ ((cap : Int) < (n : Int) + 1) := by omega
  have b5 : (0 : Int) ≤ (i : Int) := Int.natCast_nonneg _
  have b6 : (i : Int) ≤ (n : Int) := by omega
  have b7 : (0 : Int) ≤ (n : Int) + 1 := by omega
  have b8 : (n : Int) + 1 ≤ (cap : Int) := by omega
  have b9 : ((n : Int) + 1).toNat = n + 1 := by omega
  have b10 : (0 : Int) ≤ (i : Int) + 1 := by omega
  have b11 : (i : Int) + 1 ≤ (n : Int) + 1 := by omega
  have b12 : ((i : Int) + 1).toNat = i + 1 := by omega
  have b20 : IntKind.i64.wrap ((i : Int) + 1) = (i : Int) + 1 := wrap_suc i (by omega)
  have mixed : Tryz.prog.follows Departure.mixedOrders = true := by kernel_rfl
  have b13 : ¬ (cap = i + 1) := by omega
  have b14 : ¬ (cap = i) := by omega
  have b15 : (i : Int) ≤ (n : Int) + 1 := by omega
  have b16 : i ≤ n := by omega
  have b17 : i ≤ n + 1 := by omega
  have b18 : i + 1 ≤ n + 1 := by omega
  clear h hn hv hsp hfr hfv hsv hsrc hx hW1 hsh hdl
  go_enter Tryz.func73, Tryz.ntmps73
  go_wp2_with (simp only [hov])
  go_region_law_o (refine step_copy_runI rfl _ _ 43 43 rfl _ _ (by simp [Act.eval, Act.put]) (by simp [Act.eval, Act.put]) (hcp1 _ _ _) ?_)
  go_wp2_with (at_builtin; refine wpList_copy_runI _ rfl _ _ 43 43 rfl _ _ rfl rfl (hcp2 _ (fun _ => rfl) (fun _ => rfl) _ _) ?_)
  go_ret
  refine ⟨.slice (some ⟨g, 0, none⟩) (n + 1) cap, rfl, ⟨g, cap, by rw [ins_length (by have := HN.out; omega) x, ← HN.out], .inl rfl⟩, ?_, ?_⟩
  · rw [HW1.out]
    exact own_ins (HO.out.draw 1) HN.out hroom (by omega) x
  · rw [HW1.out]
    exact ((OnlyB.drew g w 1).cells (Nat.le_refl _) _ _).cells (by rw [sizeC]; exact Nat.le_refl _) _ _
set_option maxRecDepth 1000000 in
set_option maxHeartbeats 8000000 in
theorem insert_grow {w : World} {base g n cap i gv : Nat} {H : List Ed} {x : Ed} (h : Own w base 40 (.slice (some ⟨g, 0, none⟩) n cap) H) (hi : i < n) (hl : n ≤ 10000) (hroom : cap < n + 1) (hne : gv ≠ g) (hgv : gv < w.heap.size)
    (hv : w.heap[gv]? = some (.cells #[.int .i64 x.f, .int .i64 x.t, .int .u64 x.a] 40 (0, 0))) :
    Calls Tryz.prog 73 #[.slice (some ⟨g, 0, none⟩) n cap, .int .i64 i, .slice (some ⟨gv, 0, none⟩) 1 1] w (InsQ base g (H.take i ++ x :: H.drop i) w) := by
  obtain ⟨i0, hi0, hz0, hz1, hz2⟩ := Gr.info_parts infoH
  have hs := own_spare h
  have HO := Lib.hid h
  obtain ⟨hsp, hsb, hsg, hn, hn1, hn2, hsh⟩ := hs
  have HG := Lib.hid (And.intro hsg hsb)
  have HN := Lib.hid hn
  have hsz : (Tryz.prog.info? 40).map (·.size) = some 3 := by rw [hi0]; simp [hz1]
  have hdl : (Gr.cellsL (H.drop i)).length = (n - i) * 3 := by rw [Gr.cellsL_length, List.length_drop, hn]
  have hlt : (Gr.cellsL (H.take i)).length = i * 3 := by rw [Gr.cellsL_length, List.length_take]; omega
  have hcell : ∀ j u, (Gr.cellsL H)[j]? = some u → w.cell? ⟨g, j, none⟩ = some u := fun j u hu => by
    have := World.ownsRow.cells h (g := g) rfl _ u hu
    rw [Addr.add_lit, Nat.zero_add] at this
    exact this
  have hold : (Builtin.firstCells i0.size i (.slice (some ⟨g, 0, none⟩) i cap)).run Tryz.prog w.drew = .ok (Gr.cellsL (H.take i)).toArray w.drew := by
    rw [hz1]
    exact run_firstCells_some w.drew 3 i ⟨g, 0, none⟩ i cap (Gr.cellsL (H.take i)) hlt (fun j v hj => by
      rw [Addr.add_lit, Nat.zero_add]
      rw [← cellsH_take, List.getElem?_take] at hj
      split at hj
      · exact hcell j v hj
      · cases hj)
  have hkk : (n : Int) + 1 - (i : Int) = ((n + 1 - i : Nat) : Int) := by omega
  have hik : i + (n + 1 - i) = n + 1 := by omega
  have hrz : ∀ ty, (Builtin.append_ #[43, 3] ty #[.slice (some ⟨g, 0, none⟩) i cap, .int .i64 ((n : Int) + 1 - (i : Int))]).run Tryz.prog w =
      .ok (.slice (some ⟨w.heap.size, 0, none⟩) (n + 1) (grownCap w (n + 1) cap 40)) (w.drew.alloc (.cells ((Gr.cellsL (H.take i)).toArray ++ Builtin.zeroCells (Value.agg #[.int .i64 0, .int .i64 0, .int .u64 0]).cells (n + 1 - i) ++ Builtin.zeroCells (Value.agg #[.int .i64 0, .int .i64 0, .int .u64 0]).cells (grownCap w (n + 1) cap 40 - (n + 1))) 40)) := fun ty => by
    have h := Lib.run_append_grow_zeros w 43 3 ty 40 i0 _ .i64 .i64 Tryz.underlying43 Tryz.underlying3 hi0 hz0 (some ⟨g, 0, none⟩) i cap (Gr.cellsL (H.take i)) hold (n + 1 - i) (by omega) (by omega) (by omega) (by omega) (by rw [hz2]; omega) (by rw [hz2, hik]; exact growslice_fits hroom (by omega))
    rw [hik] at h
    rw [hkk]
    exact h
  obtain ⟨G, hG⟩ : ∃ G, G = grownCap w (n + 1) cap 40 := ⟨_, rfl⟩
  obtain ⟨ROW, hROW⟩ : ∃ ROW : Array Value, ROW = (Gr.cellsL (H.take i)).toArray ++ Builtin.zeroCells (Value.agg #[.int .i64 0, .int .i64 0, .int .u64 0]).cells (n + 1 - i) ++ Builtin.zeroCells (Value.agg #[.int .i64 0, .int .i64 0, .int .u64 0]).cells (G - (n + 1)) := ⟨_, rfl⟩
  rw [← hG] at hrz
  rw [← hROW] at hrz
  have hGn : n + 1 ≤ G := by rw [hG]; exact grownCap_ge w _ _ _
  have hG63 : G ≤ maxLen := by
    have := grownCap_le_maxLen w (n + 1) cap 40 (by unfold maxLen; omega)
    rw [← hG] at this
    exact this
  have hG64 : G ≤ 9223372036854775807 := by unfold maxLen at hG63; exact hG63
  have hzs : ∀ m, (Builtin.zeroCells (Value.agg #[.int .i64 0, .int .i64 0, .int .u64 0]).cells m).size = m * 3 := fun m => by simp [Builtin.zeroCells, Value.cells]
  have hRl : ROW.size = G * 3 := by
    rw [hROW, Array.size_append, Array.size_append, hzs, hzs, List.size_toArray, hlt]
    omega
  have hRt : ROW.toList.take (i * 3) = Gr.cellsL (H.take i) := by
    rw [hROW, Array.toList_append, Array.toList_append, List.append_assoc]
    rw [← hlt, List.take_left]
  have hRow : (w.drew.alloc (.cells ROW 40)).ownsRow base 40 3 (.slice (some ⟨w.heap.size, 0, none⟩) (n + 1) G) (n + 1) (ROW.toList.take ((n + 1) * 3)) := by
    refine ⟨by rw [List.length_take, Array.length_toList, hRl]; omega, .inr ⟨w.heap.size, G, ROW, rfl, by omega, heap_alloc_new w.drew _, hGn, hG63, hRl, rfl⟩⟩
  have hRt2 : (ROW.toList.take ((n + 1) * 3)).take (i * 3) = Gr.cellsL (H.take i) := by rw [List.take_take, show min (i * 3) ((n + 1) * 3) = i * 3 by omega, hRt]
  have HROW := Lib.hid (And.intro hRow hRt2)
  have hx := x_at hv
  obtain ⟨W1, hW1⟩ : ∃ W1, W1 = w.drew.alloc (.cells ROW 40) := ⟨_, rfl⟩
  rw [← hW1] at hrz
  have hN : ∀ j, j < G * 3 → (W1.cell? ⟨w.heap.size, j, none⟩).isSome = true := fun j hj => by
    rw [hW1, World.cell?_alloc_at (w := w.drew) ROW _ w.heap.size j rfl, Array.getElem?_eq_getElem (by omega)]; rfl
  have hNf : ∀ j, W1.frozen? ⟨w.heap.size, j, none⟩ = false := fun j => by rw [hW1]; exact World.frozen?_alloc_at (w := w.drew) ROW _ w.heap.size j rfl
  have hOb : ∀ j v, w.cell? ⟨g, j, none⟩ = some v → W1.cell? ⟨g, j, none⟩ = some v := fun j v h => by rw [hW1, World.cell?_alloc_past (w := w.drew) _ g j hsg]; exact h
  have hOv : ∀ j v, w.cell? ⟨gv, j, none⟩ = some v → W1.cell? ⟨gv, j, none⟩ = some v := fun j v h => by rw [hW1, World.cell?_alloc_past (w := w.drew) _ gv j hgv]; exact h
  have hcpA : ∀ (W : World), (∀ x, W.cell? x = W1.cell? x) → (∀ x, W.frozen? x = W1.frozen? x) → ∀ ty dc, (Builtin.copy_ #[43, 43] ty #[.slice (some ⟨w.heap.size, i * 3, none⟩) (n + 1 - i) dc, .slice (some ⟨gv, 0, none⟩) 1 1]).run Tryz.prog W = .ok (goInt 1) (W.setCells w.heap.size (i * 3) x.cells) := fun W hWc hWf ty dc =>
    run_copy_k W _ _ ty 40 w.heap.size (i * 3) (n + 1 - i) dc 3 ⟨gv, 0, none⟩ 1 1 1 x.cells Tryz.underlying43 hsz (by simp only [Nat.min_def]; split <;> omega) rfl
      (fun j v hj => by
        have := hx j v hj
        rw [Addr.add_lit] at this
        rw [Addr.add_lit, hWc]
        exact hOv _ v this)
      (fun j hj => by rw [hWc]; exact hN _ (by have : x.cells.length = 3 := rfl; omega)) (fun j hj => by rw [hWf]; exact hNf _) (x_cells x)
  have hbN : g ≠ w.heap.size := by omega
  have hcpB : ∀ (W : World), (∀ y, W.cell? y = (W1.setCells w.heap.size (i * 3) x.cells).cell? y) → (∀ y, W.frozen? y = (W1.setCells w.heap.size (i * 3) x.cells).frozen? y) → ∀ ty dc sc, (Builtin.copy_ #[43, 43] ty #[.slice (some ⟨w.heap.size, (i + 1) * 3, none⟩) (n + 1 - (i + 1)) dc, .slice (some ⟨g, i * 3, none⟩) (n - i) sc]).run Tryz.prog W = .ok (goInt ((n - i : Nat) : Int)) (W.setCells w.heap.size ((i + 1) * 3) (Gr.cellsL (H.drop i))) := fun W hWc hWf ty dc sc =>
    run_copy_k W _ _ ty 40 w.heap.size ((i + 1) * 3) (n + 1 - (i + 1)) dc 3 ⟨g, i * 3, none⟩ (n - i) sc (n - i) (Gr.cellsL (H.drop i)) Tryz.underlying43 hsz (by simp only [Nat.min_def]; split <;> omega) hdl
      (fun j v hj => by
        rw [← cellsH_drop, List.getElem?_drop] at hj
        rw [Addr.add_lit, hWc, World.cell?_setCells_out _ _ _ _ _ (fun h _ => absurd h hbN)]
        exact hOb _ v (hcell _ v hj))
      (fun j hj => by rw [hWc]; rw [hdl] at hj; exact isSome_setCells w.heap.size x.cells (i * 3) W1 (fun t ht => hN (i * 3 + t) (by have : x.cells.length = 3 := rfl; omega)) ((i + 1) * 3 + j) (hN ((i + 1) * 3 + j) (by omega)))
      (fun j hj => by rw [hWf, World.frozen?_setCells]; exact hNf _) (Gr.cellsL_one _)
  have hGi : ¬ (G = i) := by omega
  have hGim : ¬ (G = i + 1) := by omega
  have hci : ¬ (cap = i) := by omega
  subst hW1
  have hE1 : ∀ x, ((w.alloc (.cells ROW 40)).drew).cell? x = (w.drew.alloc (.cells ROW 40)).cell? x := fun x => rfl
  have hE2 : ∀ x, ((w.alloc (.cells ROW 40)).drew).frozen? x = (w.drew.alloc (.cells ROW 40)).frozen? x := fun x => rfl
  have hF1 : ∀ y, (((w.alloc (.cells ROW 40)).drew.setCells w.heap.size (i * 3) x.cells).drew).cell? y = ((w.drew.alloc (.cells ROW 40)).setCells w.heap.size (i * 3) x.cells).cell? y := fun y => rfl
  have hF2 : ∀ y, (((w.alloc (.cells ROW 40)).drew.setCells w.heap.size (i * 3) x.cells).drew).frozen? y = ((w.drew.alloc (.cells ROW 40)).setCells w.heap.size (i * 3) x.cells).frozen? y := fun y => rfl
  have b1 : ((i : Int) == (n : Int)) = false := by rw [beq_eq_false_iff_ne]; omega
  have b2 : ¬ ((i : Int) = (n : Int)) := by omega
  have b3 : decide ((cap : Int) < (n : Int) + 1) = true := decide_eq_true (by omega)
  have b4 : (cap : Int) < (n : Int) + 1 := by omega
  have b5 : (0 : Int) ≤ (i : Int) := Int.natCast_nonneg _
  have b6 : (i : Int) ≤ (n : Int) := by omega
  have b61 : (i : Int) ≤ (cap : Int) := by omega
  have b7 : (i : Int) ≤ (n : Int) + 1 := by omega
  have b10 : (0 : Int) ≤ (i : Int) + 1 := by omega
  have b11 : (i : Int) + 1 ≤ (n : Int) + 1 := by omega
  have b12 : ((i : Int) + 1).toNat = i + 1 := by omega
  have b20 : IntKind.i64.wrap ((i : Int) + 1) = (i : Int) + 1 := wrap_suc i (by omega)
  have mixed : Tryz.prog.follows Departure.mixedOrders = true := by kernel_rfl
  have b16 : i ≤ n := by omega
  have b17 : i ≤ n + 1 := by omega
  have b18 : i + 1 ≤ n + 1 := by omega
  have HGV := Lib.hid (And.intro hsg hsb)
  clear h hn hv hsp hsh hdl hlt hcell hold hkk hik hROW hG hRl hRt hRow hRt2 hx hN hNf hOb hOv hzs
  go_enter Tryz.func73, Tryz.ntmps73
  go_wp2_with (first
    | (at_builtin; refine Lib.wpList_append_run _ rfl _ _ _ _ rfl _ _ rfl rfl _ _ (hrz _) ?_)
    | (at_builtin; refine wpList_copy_runI _ rfl _ _ 43 43 rfl _ _ rfl rfl (hcpA _ hE1 hE2 _ _) ?_)
    | (at_builtin; refine wpList_copy_runI _ rfl _ _ 43 43 rfl _ _ rfl rfl (hcpB _ (fun _ => rfl) (fun _ => rfl) _ _ _) ?_))
  go_region_law_o (refine step_copy_runI rfl _ _ 43 43 rfl (.slice (some ⟨w.heap.size, (i + 1) * 3, none⟩) (n + 1 - (i + 1)) (G - (i + 1))) (.slice (some ⟨g, i * 3, none⟩) (n - i) (cap - i)) (by simp [Act.eval, Act.put]) (by simp [Act.eval, Act.put]) (hcpB _ hF1 hF2 3 (G - (i + 1)) (cap - i)) ?_)
  go_wp2
  go_ret
  refine ⟨.slice (some ⟨w.heap.size, 0, none⟩) (n + 1) G, rfl, ⟨w.heap.size, G, by rw [ins_length (by have := HN.out; omega) x, ← HN.out], .inr rfl⟩, ?_, ?_⟩
  · exact own_ins2 (Wa := w.drew.alloc (.cells ROW 40)) HROW.out.1 HROW.out.2 HN.out (by omega) x rfl
  · have hb : ∀ B, B ≤ g → Below B w (w.drew.alloc (.cells ROW 40)) := fun B hB => (below_drewN (Below.refl B w) 1).alloc (by have := HG.out.1; show B ≤ w.heap.size; omega) _
    refine ⟨fun B hB => ?_, fun k hk hkl => ?_⟩
    · exact Rw.below_setCells (by have := HG.out.1; omega) _ _ _ ((below_drewN (Rw.below_setCells (by have := HG.out.1; omega) _ _ _ (hb B hB)) 1))
    · have hkl' : k < w.heap.size + 1 := by omega
      have h1 : (w.alloc (.cells ROW 40)).heap.size = w.heap.size + 1 := by simp
      have h2 : (World.setCells (w.alloc (.cells ROW 40)).drew w.heap.size (i * 3) x.cells).heap.size = w.heap.size + 1 := by rw [sizeC]; exact h1
      exact (World.heap_setCells_other (World.setCells (w.alloc (.cells ROW 40)).drew w.heap.size (i * 3) x.cells).drew w.heap.size ((i + 1) * 3) (Gr.cellsL (H.drop i)) (Nat.lt_of_lt_of_le hkl' (Nat.le_of_eq h2.symm)) (by omega)).trans ((World.heap_setCells_other (w.alloc (.cells ROW 40)).drew w.heap.size (i * 3) x.cells (Nat.lt_of_lt_of_le hkl' (Nat.le_of_eq h1.symm)) (by omega)).trans (heap_alloc_old w _ hkl))
theorem insert_any {w : World} {base g n cap i gv : Nat} {H : List Ed} {x : Ed} (h : Own w base 40 (.slice (some ⟨g, 0, none⟩) n cap) H) (hi : i ≤ n) (hl : n ≤ 10000) (hne : gv ≠ g) (hgv : gv < w.heap.size)
    (hv : w.heap[gv]? = some (.cells #[.int .i64 x.f, .int .i64 x.t, .int .u64 x.a] 40 (0, 0))) :
    Calls Tryz.prog 73 #[.slice (some ⟨g, 0, none⟩) n cap, .int .i64 i, .slice (some ⟨gv, 0, none⟩) 1 1] w (InsQ base g (H.take i ++ x :: H.drop i) w) := by
  have hs := own_spare h
  by_cases hin : i = n
  · subst hin
    have e : H.take i ++ x :: H.drop i = H ++ [x] := by rw [hs.2.2.2.1, List.take_length, List.drop_length]
    rw [e]
    exact insert_end h hl (by omega) hv
  · by_cases hr : n + 1 ≤ cap
    · exact insert_room h (by omega) hl hr hne hv
    · exact insert_grow h (by omega) hl (by omega) hne hgv hv
end Go.Proofs.YtlkljeedlkbkgaaGreatDoor.Cl
