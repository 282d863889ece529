/-
  PACKAGE marchlandref05: Fix: a graph that may be, out of any.
-/
import Derived.Test.YtlkljeedlkbkgaaGreatDoorGPaths
import Derived.Test.YtlkljeedlkbkgaaGreatDoorGTo
import Derived.Deep.RegionHeld3
import Derived.Deep.RegionHeldLaw
import Derived.Deep.DeepCutAuto
import Derived.BigRegion
import Derived.Maps.AppendAt
namespace Go.Proofs.YtlkljeedlkbkgaaGreatDoor.Gr
open Go.RowKit Go.Deep
set_option linter.unusedVariables false
set_option linter.unusedSimpArgs false

/-! plain -/
theorem cost_zero {E : List Ed} (ha : ∀ e ∈ E, 0 ≤ e.a) : ∀ {es : List Ed} {i j : Int}, Chn E i es j → 0 ≤ cost es
  | [], _, _, _ => Int.le_refl _
  | e :: r, _, _, h => by
    have h1 := ha e h.1
    have h2 := cost_zero ha h.2.2
    unfold cost
    omega
theorem chn_rises {E : List Ed} (ha : ∀ e ∈ E, 0 ≤ e.a) (h : ∀ e ∈ E, e.f < e.t ∨ 1 ≤ e.a) : ∀ {es : List Ed} {i j : Int}, Chn E i es j → cost es = 0 → i + es.length ≤ j
  | [], _, _, hc, _ => by obtain rfl := hc; simp
  | e :: r, i, j, hc, h0 => by
    have h1 := ha e hc.1
    have h2 := cost_zero ha hc.2.2
    unfold cost at h0
    have h3 := chn_rises ha h hc.2.2 (by omega)
    have h4 := hc.2.1
    rcases h e hc.1 with h5 | h5
    · rw [List.length_cons]; push_cast; omega
    · omega
theorem no_round {E : List Ed} (ha : ∀ e ∈ E, 0 ≤ e.a) (h : ∀ e ∈ E, e.f < e.t ∨ 1 ≤ e.a) (p : Int) : ¬ Round E p := by
  rintro ⟨es, hw, h0⟩
  have h1 := chn_rises ha h hw.1 h0
  rcases hw.2 with e | e
  · exact absurd e (by decide)
  · have : 0 < es.length := List.length_pos_iff.2 e
    omega
theorem chkV_ok {n : Nat} {E : List Ed} {I : List Int} (n0 : 1 ≤ n) (n1 : n ≤ 64) (hl : E.length ≤ 256) (hf : Fits E n) (i0 : I ≠ []) (i1 : I.length ≤ 8) (hi : InOk n I I.length) (hr : ∀ p, ¬ Round E p) : chkV (n : Int) E I = ([], 0) := by
  unfold chkV
  rw [if_neg (by omega), if_neg (by omega), if_neg (by rw [edgesV_ok (fun y hy => ⟨⟨(hf y hy).1, (hf y hy).2.1⟩, ⟨(hf y hy).2.2.1, (hf y hy).2.2.2.1⟩⟩)]; simp), if_neg (by have : I.length ≠ 0 := fun e => i0 (List.length_eq_zero_iff.1 e); omega), if_neg (by rw [inputsV_ok hi]; simp), Int.toNat_natCast, cycO_eq (.inr ⟨rfl, fun q _ => hr q⟩)]
  rfl
theorem u64_range (n : Int) : 0 ≤ IntKind.u64.wrap n ∧ IntKind.u64.wrap n ≤ 18446744073709551615 := by
  unfold IntKind.wrap
  simp [IntKind.bits, IntKind.signed]
  omega
theorem i64_id {n : Int} (h0 : -9223372036854775808 ≤ n) (h1 : n ≤ 9223372036854775807) : IntKind.i64.wrap n = n := by
  unfold IntKind.wrap
  simp [IntKind.bits, IntKind.signed]
  omega
theorem u64_id {n : Int} (h0 : 0 ≤ n) (h1 : n ≤ 18446744073709551615) : IntKind.u64.wrap n = n := by
  unfold IntKind.wrap
  simp [IntKind.bits, IntKind.signed]
  omega
def fixM (m x : Int) : Int := IntKind.i64.wrap ((IntKind.u64.wrap x).tmod (IntKind.u64.wrap m))
theorem fixM_range {m x : Int} (h0 : 1 ≤ m) (h1 : m ≤ 64) : 0 ≤ fixM m x ∧ fixM m x < m := by
  unfold fixM
  rw [u64_id (n := m) (by omega) (by omega)]
  have h2 := Int.tmod_nonneg m (u64_range x).1
  have h3 := Int.tmod_lt_of_pos (IntKind.u64.wrap x) (show 0 < m by omega)
  rw [i64_id (by omega) (by omega)]
  exact ⟨h2, h3⟩
def fixE (m : Int) (e : Ed) : Ed := ⟨fixM m e.f, fixM m e.t, if fixM m e.t ≤ fixM m e.f ∧ e.a = 0 then 1 else e.a⟩
def fixEs (m : Int) (E : List Ed) : List Ed := (E.take 12).map (fixE m)
theorem fixEs_fits {m : Nat} {E : List Ed} (h0 : 1 ≤ m) (h1 : m ≤ 64) (hw : ∀ x ∈ E, x.Wf) : Fits (fixEs m E) m := by
  intro e he
  obtain ⟨y, hy, rfl⟩ := List.mem_map.1 he
  have hyw := hw y (List.mem_of_mem_take hy)
  have a1 := fixM_range (m := m) (x := y.f) (by omega) (by omega)
  have a2 := fixM_range (m := m) (x := y.t) (by omega) (by omega)
  refine ⟨a1.1, a1.2, a2.1, a2.2, ?_, ?_⟩ <;> (unfold fixE; simp only; split <;> first | omega | exact hyw.a0 | exact hyw.a1)
theorem fixEs_wf {m : Nat} {E : List Ed} (h0 : 1 ≤ m) (h1 : m ≤ 64) (hw : ∀ x ∈ E, x.Wf) : ∀ x ∈ fixEs m E, x.Wf := by
  intro e he
  have h := fixEs_fits h0 h1 hw e he
  exact ⟨by omega, by omega, by omega, by omega, h.2.2.2.2.1, h.2.2.2.2.2⟩
theorem fixEs_rise {m : Nat} {E : List Ed} (hw : ∀ x ∈ E, x.Wf) : ∀ e ∈ fixEs m E, e.f < e.t ∨ 1 ≤ e.a := by
  intro e he
  obtain ⟨y, hy, rfl⟩ := List.mem_map.1 he
  have hyw := (hw y (List.mem_of_mem_take hy)).a0
  unfold fixE
  simp only
  split <;> omega
def fixN (n : Int) : Int := 1 + IntKind.i64.wrap ((IntKind.u64.wrap n).tmod 6)
theorem fixN_range (n : Int) : 1 ≤ fixN n ∧ fixN n ≤ 6 := by
  unfold fixN
  have h2 := Int.tmod_nonneg 6 (u64_range n).1
  have h3 := Int.tmod_lt_of_pos (IntKind.u64.wrap n) (show (0 : Int) < 6 by decide)
  rw [i64_id (by omega) (by omega)]
  omega
theorem fixN_walk (n : Int) : wrap64 (1 + wrap64 ((IntKind.u64.wrap n).tmod 6)) = fixN n := by
  have h2 := Int.tmod_nonneg 6 (u64_range n).1
  have h3 := Int.tmod_lt_of_pos (IntKind.u64.wrap n) (show (0 : Int) < 6 by decide)
  have e1 : IntKind.i64.wrap ((IntKind.u64.wrap n).tmod 6) = (IntKind.u64.wrap n).tmod 6 := i64_id (by omega) (by omega)
  have e2 : wrap64 ((IntKind.u64.wrap n).tmod 6) = (IntKind.u64.wrap n).tmod 6 := by unfold wrap64; omega
  unfold fixN
  rw [e2, e1]
  unfold wrap64
  omega
theorem Own.grown {w w' : World} {base : Nat} {T : TypeId} {v : Value} {l : List Ed} {row : Option Nat} (h : Own w base T v l) (hg : w.grownBy w' row) (hne : v.ownBlock = none ∨ v.ownBlock ≠ row) : Own w' base T v l := by
  refine ⟨h.1, ?_⟩
  rcases h.2 with h2 | ⟨g, cap, cur, rfl, hb, hk, rest⟩
  · exact .inl h2
  · refine .inr ⟨g, cap, cur, rfl, hb, (hg.block g (Array.getElem?_eq_some_iff.1 hk).1 ?_).trans hk, rest⟩
    rcases hne with h | h
    · simp [Value.ownBlock] at h
    · exact h
theorem own1 {w : World} {base : Nat} {T : TypeId} (a : Int) (hb : base ≤ w.heap.size) : OwnI (w.alloc (.cells #[.int .i64 a] T)) base T (.slice (some ⟨w.heap.size, 0, none⟩) 1 1) [a] :=
  ⟨rfl, .inr ⟨w.heap.size, 1, #[.int .i64 a], rfl, hb, heap_alloc_new w _, Nat.le_refl _, by decide, rfl, rfl⟩⟩
theorem InOk.snoc {n : Int} {l : List Int} {p : Int} (h : InOk n l l.length) (hp : inP n p) (hm : p ∉ l) : InOk n (l ++ [p]) (l ++ [p]).length := by
  intro j q hj hq
  rw [List.length_append] at hj
  simp only [List.length_cons, List.length_nil] at hj
  by_cases e : j < l.length
  · rw [List.getElem?_append_left e] at hq
    rw [List.take_append_of_le_length (by omega)]
    exact h j q e hq
  · obtain rfl : j = l.length := by omega
    rw [List.getElem?_append_right (Nat.le_refl _), Nat.sub_self] at hq
    obtain rfl := Option.some.inj hq
    rw [List.take_left]
    exact ⟨hp, hm⟩
theorem OwnI.cells {w : World} {base : Nat} {T : TypeId} {v : Value} {l : List Int} (h : OwnI w base T v l) (hne : l ≠ []) : ∃ g cap, v = .slice (some ⟨g, 0, none⟩) l.length cap ∧ ∀ j x, l[j]? = some x → w.cell? ⟨g, j, none⟩ = some (.int .i64 x) := by
  have h0 := h
  rcases h.2 with ⟨_, hn⟩ | ⟨g, cap, cur, rfl, hb, hg, hc, hm, _⟩
  · exact absurd (List.length_eq_zero_iff.1 hn) hne
  · refine ⟨g, cap, rfl, fun i x hx => ?_⟩
    have := World.ownsRow.cells h0 (g := g) rfl i _ (intsL_at hx)
    rw [show ((⟨g, 0, none⟩ : Addr).add i) = ⟨g, i, none⟩ by unfold Addr.add; split <;> simp_all] at this
    exact this
theorem intsL_snoc (l : List Int) (x : Int) : intsL (l ++ [x]) = intsL l ++ [.int .i64 x] := by unfold intsL; simp
def Mk (p : Prop) : Prop := p
theorem mk_of {p : Prop} (h : Mk p) : p := h
theorem infoRed : (Tryz.prog.info? 76).map (fun i => (i.zero, i.size, i.bytes)) = some (some (.agg #[.int .i64 0, .int .i64 0, .int .u64 0]), 3, 24) := by kernel_rfl
/-- What the walk works on: the box of the argument, the result's cells. -/
structure FixW (w w2 : World) (n : Int) (ao aoi : Option Addr) (le ce li ci : Nat) : Prop where
  sz : w2.heap.size = w.heap.size + 2
  bel : Below w.heap.size w w2
  b0 : w2.cell? ⟨w.heap.size, 0, none⟩ = some (.int .i64 n)
  b1 : w2.cell? ⟨w.heap.size, 1, none⟩ = some (.slice ao le ce)
  b2 : w2.cell? ⟨w.heap.size, 2, none⟩ = some (.slice aoi li ci)
  res : w2.heap[w.heap.size + 1]? = some (.cells #[.int .i64 0, .slice none 0 0, .slice none 0 0] 25 (0, 0))
def FixPost (w : World) (e : Ending) (w' : World) : Prop := ∃ (m : Nat) (ve' vi' : Value) (E' : List Ed) (I' : List Int), m ≤ 6 ∧ E'.length ≤ 12 ∧ e = .returned (.agg #[.int .i64 (m : Int), ve', vi']) ∧ GMemP w' ve' vi' E' I' ∧ Own w' (w.heap.size + 3) 76 ve' E' ∧ OwnI w' (w.heap.size + 3) 3 vi' I' ∧ GOk m E' I' ∧ Below w.heap.size w w'
set_option maxRecDepth 1000000 in
set_option maxHeartbeats 8000000 in
theorem gfix_any {w : World} {ve vi : Value} {E : List Ed} {I : List Int} (n : Int) (hg : GMemP w ve vi E I) :
    Calls Tryz.prog 6 #[.agg #[.int .i64 n, ve, vi]] w (FixPost w) := by
  have HIS := Lib.hid hg.inp
  have HWE := Lib.hid hg.ed.wf
  obtain ⟨hve, hvi⟩ := hg
  obtain ⟨ao, cap, rfl, hlc, hcm, _, hcell⟩ := hve
  obtain ⟨aoi, capi, rfl, hlci, hcmi, _, hcelli⟩ := hvi
  obtain ⟨i0, hi, hz0, hz1, hz2⟩ := info_parts infoRed
  obtain ⟨j0, ji, jz0, jz1, jz2⟩ := info_parts infoInt
  have HC := Lib.hid hcell
  have HCI := Lib.hid hcelli
  have hlen : E.length ≤ 9223372036854775807 := by omega
  have hleni : I.length ≤ 9223372036854775807 := by omega
  clear hcell hlc hcm hlci hcmi hcelli
  obtain ⟨w2, hw2⟩ : ∃ w2, w2 = (w.alloc (.cells #[.int .i64 n, .slice ao E.length cap, .slice aoi I.length capi] 25)).alloc (.cells #[.int .i64 0, .slice none 0 0, .slice none 0 0] 25) := ⟨_, rfl⟩
  have HF : Hid (FixW w w2 n ao aoi E.length cap I.length capi) := by
    refine Lib.hid ⟨by rw [hw2]; simp, by rw [hw2]; exact ((Below.refl _ _).alloc (Nat.le_refl _) _).alloc (by simp) _, by rw [hw2]; simp, by rw [hw2]; simp, by rw [hw2]; simp, ?_⟩
    have h := heap_alloc_new (w.alloc (.cells #[.int .i64 n, .slice ao E.length cap, .slice aoi I.length capi] 25)) (.cells #[.int .i64 0, .slice none 0 0, .slice none 0 0] 25)
    rw [hw2]
    rwa [show (w.alloc (.cells #[.int .i64 n, .slice ao E.length cap, .slice aoi I.length capi] 25)).heap.size = w.heap.size + 1 by simp] at h
  have hsz := HF.out.sz
  have b0 := HF.out.b0
  obtain ⟨m, hm⟩ : ∃ m : Nat, fixN n = m := ⟨(fixN n).toNat, by have := (fixN_range n).1; omega⟩
  have hmr := fixN_range n
  rw [hm] at hmr
  have HM := Lib.hid hm
  have HMR := Lib.hid hmr
  clear hm hmr
  go_enter Tryz.func6, Tryz.ntmps6
  go_upto_region 1 with fail
  rw [← hw2]
  clear hw2
  have hm' : wrap64 (1 + wrap64 ((IntKind.u64.wrap n).tmod 6)) = (m : Int) := (fixN_walk n).trans HM.out
  go_wp2_with fail
  obtain ⟨W0, hW0⟩ : ∃ W0, W0 = w2.alloc (.cells #[.int .i64 (m : Int), .slice none 0 0, .slice none 0 0] 25) := ⟨_, rfl⟩
  have hblk0 : W0.heap[w.heap.size + 2]? = some (.cells #[.int .i64 (m : Int), .slice none 0 0, .slice none 0 0] 25 (0, 0)) := by
    have h := heap_alloc_new w2 (.cells #[.int .i64 (m : Int), .slice none 0 0, .slice none 0 0] 25)
    rw [hsz] at h
    rw [hW0]
    exact h
  have hbw0 : Below (w.heap.size + 2) w2 W0 := by rw [hW0]; exact (Below.refl _ _).alloc (by omega) _
  rw [← hW0]
  have HBLK0 := Lib.hid hblk0
  have HBW0 := Lib.hid hbw0
  clear hW0 hblk0 hbw0 hm' b0
  go_loopg [4] 13 (fun mm t wr => ∃ (k : Nat) (vE : Value), k + mm = 13 ∧ k ≤ 12 ∧ k ≤ E.length ∧ t = .int .i64 (k : Int) ∧ wr.heap[w.heap.size + 2]? = some (.cells #[.int .i64 (m : Int), vE, .slice none 0 0] 25 (0, 0)) ∧ wr.ownsRow (w.heap.size + 3) 76 3 vE k (cellsL ((E.take k).map (fixE m))) ∧ Below (w.heap.size + 2) w2 wr)
  case atStart => exact ⟨0, .slice none 0 0, by omega, by omega, by omega, rfl, HBLK0.out, World.ownsRow_nil _ _ _ _, HBW0.out⟩
  case round =>
    clear HBLK0 HBW0
    obtain ⟨k, vE, hkm, hk12, hkl, rfl, hblk, hown, hbw⟩ := hrel
    have HKM := Lib.hid hkm
    have HBLK := Lib.hid hblk
    have HBW := Lib.hid hbw
    have hGlt : w.heap.size + 2 < wr.heap.size := (Array.getElem?_eq_some_iff.1 hblk).1
    have b1 := (hbw.cell (p := ⟨w.heap.size, 1, none⟩) (by simp)).trans HF.out.b1
    obtain ⟨z0, z1, z2, zf⟩ := three_cells hblk
    have zf1 := zf 1
    clear hkm hbw hblk zf
    by_cases hend : k < E.length ∧ k < 12
    · obtain ⟨hk, hk2⟩ := hend
      obtain ⟨x, hx, hxm⟩ := at_of hk
      obtain ⟨b, off, hao, hcc⟩ := HC.out.resolve_left (by intro e; rw [e] at hk; simp at hk)
      subst hao
      have hbl := (hcc k x hx).lt
      have q2 := ((hcc k x hx).below HF.out.bel hbl).below HBW.out (by omega)
      obtain ⟨c0, c1, c2⟩ := q2
      have hblw : b < wr.heap.size := by omega
      have HBL := Lib.hid hbl
      have hk0 : (0 : Int) ≤ (k : Int) := Int.natCast_nonneg _
      have hk1 : (k : Int) < (E.length : Int) := by omega
      have hk3 : (k : Int) < 12 := by omega
      have HX := Lib.hid hx
      have HK := Lib.hid hk
      have HK2 := Lib.hid hk2
      obtain ⟨xf, xt, xa⟩ := x
      simp only at c0 c1 c2
      obtain ⟨aoE, capE, hvE⟩ : ∃ aoE capE, vE = .slice aoE k capE := by
        rcases hown.2 with ⟨h, h0⟩ | ⟨g, cap, cur, h, _⟩
        · exact ⟨none, 0, by rw [h, h0]⟩
        · exact ⟨_, _, h⟩
      have HOWN := Lib.hid hown
      subst hvE
      have hum : IntKind.u64.wrap (m : Int) = (m : Int) := u64_id (by omega) (by have := HMR.out; omega)
      have hm0 : ¬ ((m : Int) = 0) := by have := HMR.out; omega
      have hm2 : ¬ (m = 0) := by have := HMR.out; omega
      have hm3 : (m : Int) ≠ 0 := hm0
      clear hown hx hxm hcc hbl hk hk2
      obtain ⟨qf, hqf⟩ : ∃ q, IntKind.i64.wrap ((IntKind.u64.wrap xf).tmod (m : Int)) = q := ⟨_, rfl⟩
      obtain ⟨qt, hqt⟩ : ∃ q, IntKind.i64.wrap ((IntKind.u64.wrap xt).tmod (m : Int)) = q := ⟨_, rfl⟩
      have HQF := Lib.hid (show fixM m xf = qf by unfold fixM; rw [hum]; exact hqf)
      have HQT := Lib.hid (show fixM m xt = qt by unfold fixM; rw [hum]; exact hqt)
      go_wp2_with fail
      go_region_held3 (fun w' => w'.cell? ⟨w.heap.size, 1, none⟩ = some (.slice (some ⟨b, off, none⟩) E.length cap) ∧ w'.cell? ⟨b, off + k * 3, none⟩ = some (.int .i64 xf) ∧ w'.cell? ⟨b, off + k * 3 + 1, none⟩ = some (.int .i64 xt) ∧ w'.cell? ⟨b, off + k * 3 + 2, none⟩ = some (.int .u64 xa) ∧ w'.cell? ⟨w.heap.size + 2, 0, none⟩ = some (.int .i64 (m : Int)))
        (first
          | go_keep
          | fail)
        (fail)
      obtain ⟨W5, hW5⟩ : ∃ W5, W5 = (wr.alloc (.cells #[.int .i64 qf, .int .i64 qt, .int .u64 xa] 76)).drew := ⟨_, rfl⟩
      rw [← hW5]
      have hb5 : Below wr.heap.size wr W5 := by rw [hW5]; exact ((Below.refl _ _).alloc (Nat.le_refl _) _).drew
      have hs5 : W5.heap.size = wr.heap.size + 1 := by rw [hW5]; simp
      have he5 : W5.heap[wr.heap.size]? = some (.cells #[.int .i64 qf, .int .i64 qt, .int .u64 xa] 76 (0, 0)) := by rw [hW5]; exact heap_alloc_new wr _
      have hown5 : W5.ownsRow (w.heap.size + 3) 76 3 (.slice aoE k capE) k (cellsL ((E.take k).map (fixE m))) := by rw [hW5]; exact (HOWN.out.alloc _).drew
      obtain ⟨y0, y1, y2, yf⟩ := three_cells he5
      have yf2 := yf 2
      have HB5 := Lib.hid hb5
      have HS5 := Lib.hid hs5
      have HE5 := Lib.hid he5
      have HOWN5 := Lib.hid hown5
      clear hW5 hb5 he5 hown5 hqf hqt c0 c1 c2 z0 z1 z2 zf1 yf
      by_cases hcmp : qt ≤ qf
      · by_cases hxa : xa = 0
        · subst hxa
          go_upto_region 8 with fail
          obtain ⟨W6, hW6⟩ : ∃ W6, W6 = W5.setCell ⟨wr.heap.size, 2, none⟩ (.int .u64 1) := ⟨_, rfl⟩
          rw [← hW6]
          have he6 := heap_setCell_same W5 wr.heap.size 2 _ _ (.int .u64 1) HE5.out
          rw [← hW6] at he6
          obtain ⟨y0, y1, y2, _⟩ := three_cells (x := .int .i64 qf) (y := .int .i64 qt) (z := .int .u64 1) (by simpa using he6)
          have HB6 := Lib.hid (show Below wr.heap.size wr W6 by rw [hW6]; exact HB5.out.setCell (Nat.le_refl _) _)
          have HS6 := Lib.hid (show W6.heap.size = wr.heap.size + 1 by rw [hW6]; simp [HS5.out])
          have HOWN6 := Lib.hid (show W6.ownsRow (w.heap.size + 3) 76 3 (.slice aoE k capE) k (cellsL ((E.take k).map (fixE m))) by rw [hW6]; exact ownsRow_setCell_other HOWN5.out (fun e => by have := (World.ownsRow.lt HOWN.out _ e).2; simp at this) _)
          have HFX := Lib.hid (show fixE m ⟨xf, xt, 0⟩ = ⟨qf, qt, 1⟩ by unfold fixE; simp only [HQF.out, HQT.out]; rw [if_pos ⟨hcmp, trivial⟩])
          clear hW6 he6
          have hsz6 : W6.heap.size = wr.heap.size + 1 := HS6.out
          have hgb := three_cells ((HB6.out.block _ hGlt).trans HBLK.out)
          obtain ⟨x0, x1, x2, xg⟩ := hgb
          have xg1 := xg 1
          have xG := xg 1
          have hown6 := HOWN6.out
          have hnew : (W6.alloc (.cells #[.int .i64 qf, .int .i64 qt, .int .u64 1] 76)).heap[wr.heap.size + 1]? = some (.cells #[.int .i64 qf, .int .i64 qt, .int .u64 1] 76 (0, 0)) := by rw [← hsz6]; exact heap_alloc_new _ _
          go_wp2_with (at_builtin; refine mk_of ?_)
          unfold Mk
          refine (wpList_append_own_at _ rfl _ _ 22 rfl (w.heap.size + 3) 76 i0 _ 3 24 Tryz.underlying22 hi hz0 hz1 hz2 rfl (by decide) (.slice aoE k capE) k (cellsL ((E.take k).map (fixE m))) rfl (World.ownsRow.alloc hown6 _) ⟨wr.heap.size + 1, 0, none⟩ 1 1 [.int .i64 qf, .int .i64 qt, .int .u64 1] rfl rfl (World.news_of_block (cs := #[.int .i64 qf, .int .i64 qt, .int .u64 1]) hnew) ?c2 ?c3 ?c4 ?c5 ?_)
          case c2 => intro u hu; simp at hu; rcases hu with rfl | rfl | rfl <;> rfl
          case c3 => unfold maxLen; have := HK2.out; omega
          case c4 => have := HK2.out; omega
          case c5 => simp; omega
          intro v2 w3 hown3 hgrow _ hvb
          obtain ⟨A2, cc2, hv2⟩ : ∃ A c, v2 = .slice A (k + 1) c := by
            rcases hown3.2 with ⟨_, h0⟩ | ⟨g, cap, cur, h, _⟩
            · exact absurd h0 (by omega)
            · exact ⟨_, _, h⟩
          subst hv2
          have agG : some (w.heap.size + 2) ≠ (Value.slice aoE k capE).ownBlock := fun e => by have := (World.ownsRow.lt HOWN.out _ e.symm).1; omega
          have agV : (Value.slice A2 (k + 1) cc2).ownBlock ≠ some (w.heap.size + 2) := fun e => by have := (World.ownsRow.lt hown3 _ e).1; omega
          have hg3 := (hgrow.block (w.heap.size + 2) (by simp; omega) agG).trans (((HB6.out.alloc (by omega) _).block _ hGlt).trans HBLK.out)
          obtain ⟨t0, t1, t2, tf⟩ := three_cells hg3
          have tf1 := tf 1
          have hE1 : (E.take (k + 1)).map (fixE m) = (E.take k).map (fixE m) ++ [⟨qf, qt, 1⟩] := by
            rw [List.take_add_one, HX.out, List.map_append]
            simp only [Option.toList_some, List.map_cons, List.map_nil]
            rw [HFX.out]
          have hO1 : w3.ownsRow (w.heap.size + 3) 76 3 (.slice A2 (k + 1) cc2) (k + 1) (cellsL ((E.take (k + 1)).map (fixE m))) := by rw [hE1, cellsL_snoc]; exact hown3
          have HO2 := Lib.hid (ownsRow_setCell_other hO1 (a := ⟨w.heap.size + 2, 1, none⟩) agV (.slice A2 (k + 1) cc2))
          have HB9 := Lib.hid ((((HBW.out.trans (HB6.out.mono (by omega))).alloc (by omega) _).grown hgrow (by simp; omega) (fun k e => by have := (World.ownsRow.lt HOWN.out k e).1; omega)).setCell (p := ⟨w.heap.size + 2, 1, none⟩) (Nat.le_refl _) (.slice A2 (k + 1) cc2))
          have HG4 := Lib.hid (heap_setCell_same w3 (w.heap.size + 2) 1 _ _ (.slice A2 (k + 1) cc2) hg3)
          clear hown3 hgrow hvb hO1 hE1 hg3 tf hnew hown6
          go_wp2_with fail
          go_roundg (13 - (k + 1))
          case measure => have := HKM.out; have := HK2.out; omega
          case rel => exact ⟨k + 1, .slice A2 (k + 1) cc2, by have := HK2.out; omega, by have := HK2.out; omega, by have := HK.out; omega, by go_num, by simpa using HG4.out, HO2.out, HB9.out⟩
        · have hxa0 : (xa == 0) = false := by simpa using hxa
          go_upto_region 8 with fail
          have HB6 := HB5
          have HS6 := HS5
          have HOWN6 := HOWN5
          have HFX := Lib.hid (show fixE m ⟨xf, xt, xa⟩ = ⟨qf, qt, xa⟩ by unfold fixE; simp only [HQF.out, HQT.out]; rw [if_neg (fun h => hxa h.2)])
          have hsz6 : W5.heap.size = wr.heap.size + 1 := HS6.out
          have hgb := three_cells ((HB6.out.block _ hGlt).trans HBLK.out)
          obtain ⟨x0, x1, x2, xg⟩ := hgb
          have xg1 := xg 1
          have xG := xg 1
          have hown6 := HOWN6.out
          have hnew : (W5.alloc (.cells #[.int .i64 qf, .int .i64 qt, .int .u64 xa] 76)).heap[wr.heap.size + 1]? = some (.cells #[.int .i64 qf, .int .i64 qt, .int .u64 xa] 76 (0, 0)) := by rw [← hsz6]; exact heap_alloc_new _ _
          go_wp2_with (at_builtin; refine mk_of ?_)
          unfold Mk
          refine (wpList_append_own_at _ rfl _ _ 22 rfl (w.heap.size + 3) 76 i0 _ 3 24 Tryz.underlying22 hi hz0 hz1 hz2 rfl (by decide) (.slice aoE k capE) k (cellsL ((E.take k).map (fixE m))) rfl (World.ownsRow.alloc hown6 _) ⟨wr.heap.size + 1, 0, none⟩ 1 1 [.int .i64 qf, .int .i64 qt, .int .u64 xa] rfl rfl (World.news_of_block (cs := #[.int .i64 qf, .int .i64 qt, .int .u64 xa]) hnew) ?c2 ?c3 ?c4 ?c5 ?_)
          case c2 => intro u hu; simp at hu; rcases hu with rfl | rfl | rfl <;> rfl
          case c3 => unfold maxLen; have := HK2.out; omega
          case c4 => have := HK2.out; omega
          case c5 => simp; omega
          intro v2 w3 hown3 hgrow _ hvb
          obtain ⟨A2, cc2, hv2⟩ : ∃ A c, v2 = .slice A (k + 1) c := by
            rcases hown3.2 with ⟨_, h0⟩ | ⟨g, cap, cur, h, _⟩
            · exact absurd h0 (by omega)
            · exact ⟨_, _, h⟩
          subst hv2
          have agG : some (w.heap.size + 2) ≠ (Value.slice aoE k capE).ownBlock := fun e => by have := (World.ownsRow.lt HOWN.out _ e.symm).1; omega
          have agV : (Value.slice A2 (k + 1) cc2).ownBlock ≠ some (w.heap.size + 2) := fun e => by have := (World.ownsRow.lt hown3 _ e).1; omega
          have hg3 := (hgrow.block (w.heap.size + 2) (by simp; omega) agG).trans (((HB6.out.alloc (by omega) _).block _ hGlt).trans HBLK.out)
          obtain ⟨t0, t1, t2, tf⟩ := three_cells hg3
          have tf1 := tf 1
          have hE1 : (E.take (k + 1)).map (fixE m) = (E.take k).map (fixE m) ++ [⟨qf, qt, xa⟩] := by
            rw [List.take_add_one, HX.out, List.map_append]
            simp only [Option.toList_some, List.map_cons, List.map_nil]
            rw [HFX.out]
          have hO1 : w3.ownsRow (w.heap.size + 3) 76 3 (.slice A2 (k + 1) cc2) (k + 1) (cellsL ((E.take (k + 1)).map (fixE m))) := by rw [hE1, cellsL_snoc]; exact hown3
          have HO2 := Lib.hid (ownsRow_setCell_other hO1 (a := ⟨w.heap.size + 2, 1, none⟩) agV (.slice A2 (k + 1) cc2))
          have HB9 := Lib.hid ((((HBW.out.trans (HB6.out.mono (by omega))).alloc (by omega) _).grown hgrow (by simp; omega) (fun k e => by have := (World.ownsRow.lt HOWN.out k e).1; omega)).setCell (p := ⟨w.heap.size + 2, 1, none⟩) (Nat.le_refl _) (.slice A2 (k + 1) cc2))
          have HG4 := Lib.hid (heap_setCell_same w3 (w.heap.size + 2) 1 _ _ (.slice A2 (k + 1) cc2) hg3)
          clear hown3 hgrow hvb hO1 hE1 hg3 tf hnew hown6
          go_wp2_with fail
          go_roundg (13 - (k + 1))
          case measure => have := HKM.out; have := HK2.out; omega
          case rel => exact ⟨k + 1, .slice A2 (k + 1) cc2, by have := HK2.out; omega, by have := HK2.out; omega, by have := HK.out; omega, by go_num, by simpa using HG4.out, HO2.out, HB9.out⟩
      · go_upto_region 8 with fail
        have HB6 := HB5
        have HS6 := HS5
        have HOWN6 := HOWN5
        have HFX := Lib.hid (show fixE m ⟨xf, xt, xa⟩ = ⟨qf, qt, xa⟩ by unfold fixE; simp only [HQF.out, HQT.out]; rw [if_neg (fun h => hcmp h.1)])
        have hsz6 : W5.heap.size = wr.heap.size + 1 := HS6.out
        have hgb := three_cells ((HB6.out.block _ hGlt).trans HBLK.out)
        obtain ⟨x0, x1, x2, xg⟩ := hgb
        have xg1 := xg 1
        have xG := xg 1
        have hown6 := HOWN6.out
        have hnew : (W5.alloc (.cells #[.int .i64 qf, .int .i64 qt, .int .u64 xa] 76)).heap[wr.heap.size + 1]? = some (.cells #[.int .i64 qf, .int .i64 qt, .int .u64 xa] 76 (0, 0)) := by rw [← hsz6]; exact heap_alloc_new _ _
        go_wp2_with (at_builtin; refine mk_of ?_)
        unfold Mk
        refine (wpList_append_own_at _ rfl _ _ 22 rfl (w.heap.size + 3) 76 i0 _ 3 24 Tryz.underlying22 hi hz0 hz1 hz2 rfl (by decide) (.slice aoE k capE) k (cellsL ((E.take k).map (fixE m))) rfl (World.ownsRow.alloc hown6 _) ⟨wr.heap.size + 1, 0, none⟩ 1 1 [.int .i64 qf, .int .i64 qt, .int .u64 xa] rfl rfl (World.news_of_block (cs := #[.int .i64 qf, .int .i64 qt, .int .u64 xa]) hnew) ?c2 ?c3 ?c4 ?c5 ?_)
        case c2 => intro u hu; simp at hu; rcases hu with rfl | rfl | rfl <;> rfl
        case c3 => unfold maxLen; have := HK2.out; omega
        case c4 => have := HK2.out; omega
        case c5 => simp; omega
        intro v2 w3 hown3 hgrow _ hvb
        obtain ⟨A2, cc2, hv2⟩ : ∃ A c, v2 = .slice A (k + 1) c := by
          rcases hown3.2 with ⟨_, h0⟩ | ⟨g, cap, cur, h, _⟩
          · exact absurd h0 (by omega)
          · exact ⟨_, _, h⟩
        subst hv2
        have agG : some (w.heap.size + 2) ≠ (Value.slice aoE k capE).ownBlock := fun e => by have := (World.ownsRow.lt HOWN.out _ e.symm).1; omega
        have agV : (Value.slice A2 (k + 1) cc2).ownBlock ≠ some (w.heap.size + 2) := fun e => by have := (World.ownsRow.lt hown3 _ e).1; omega
        have hg3 := (hgrow.block (w.heap.size + 2) (by simp; omega) agG).trans (((HB6.out.alloc (by omega) _).block _ hGlt).trans HBLK.out)
        obtain ⟨t0, t1, t2, tf⟩ := three_cells hg3
        have tf1 := tf 1
        have hE1 : (E.take (k + 1)).map (fixE m) = (E.take k).map (fixE m) ++ [⟨qf, qt, xa⟩] := by
          rw [List.take_add_one, HX.out, List.map_append]
          simp only [Option.toList_some, List.map_cons, List.map_nil]
          rw [HFX.out]
        have hO1 : w3.ownsRow (w.heap.size + 3) 76 3 (.slice A2 (k + 1) cc2) (k + 1) (cellsL ((E.take (k + 1)).map (fixE m))) := by rw [hE1, cellsL_snoc]; exact hown3
        have HO2 := Lib.hid (ownsRow_setCell_other hO1 (a := ⟨w.heap.size + 2, 1, none⟩) agV (.slice A2 (k + 1) cc2))
        have HB9 := Lib.hid ((((HBW.out.trans (HB6.out.mono (by omega))).alloc (by omega) _).grown hgrow (by simp; omega) (fun k e => by have := (World.ownsRow.lt HOWN.out k e).1; omega)).setCell (p := ⟨w.heap.size + 2, 1, none⟩) (Nat.le_refl _) (.slice A2 (k + 1) cc2))
        have HG4 := Lib.hid (heap_setCell_same w3 (w.heap.size + 2) 1 _ _ (.slice A2 (k + 1) cc2) hg3)
        clear hown3 hgrow hvb hO1 hE1 hg3 tf hnew hown6
        go_wp2_with fail
        go_roundg (13 - (k + 1))
        case measure => have := HKM.out; have := HK2.out; omega
        case rel => exact ⟨k + 1, .slice A2 (k + 1) cc2, by have := HK2.out; omega, by have := HK2.out; omega, by have := HK.out; omega, by go_num, by simpa using HG4.out, HO2.out, HB9.out⟩
    · have hin : E.take k = E.take 12 := by
        by_cases h : k < E.length
        · obtain rfl : k = 12 := by omega
          rfl
        · rw [take_all (by omega), take_all (by omega)]
      have hownE : Own wr (w.heap.size + 3) 76 vE (fixEs m E) := by
        unfold Own fixEs
        rw [← hin, List.length_map, List.length_take, show min k E.length = k by omega]
        exact hown
      have hformE : ∃ aoE capE, vE = .slice aoE k capE := by
        rcases hown.2 with ⟨h, h0⟩ | ⟨g, cap, cur, h, _⟩
        · exact ⟨none, 0, by rw [h, h0]⟩
        · exact ⟨_, _, h⟩
      have HFE := Lib.hid hformE
      have HOE := Lib.hid hownE
      clear hown hownE hformE hin z0 z2
      by_cases hlt : k < E.length
      case' pos =>
        have hj0 : (k : Int) < (E.length : Int) := by omega
        have hj1 : ¬ ((k : Int) < 12) := by omega
      case' neg => have hj0 : ¬ ((k : Int) < (E.length : Int)) := by omega
      all_goals
        clear hend hlt
        go_wp2_with fail
        go_loopg [6] 9 (fun mm t wq => ∃ (i : Nat) (vI : Value) (I' : List Int), i + mm = 9 ∧ i ≤ 8 ∧ i ≤ I.length ∧ t = .int .i64 (i : Int) ∧ wq.heap[w.heap.size + 2]? = some (.cells #[.int .i64 (m : Int), vE, vI] 25 (0, 0)) ∧ Own wq (w.heap.size + 3) 76 vE (fixEs m E) ∧ OwnI wq (w.heap.size + 3) 3 vI I' ∧ (vI.ownBlock = none ∨ vE.ownBlock ≠ vI.ownBlock) ∧ InOk m I' I'.length ∧ I'.length ≤ i ∧ (i ≠ 0 → I' ≠ []) ∧ Below (w.heap.size + 2) w2 wq)
        case atStart => exact ⟨0, .slice none 0 0, [], by omega, by omega, by omega, rfl, HBLK.out, HOE.out, World.ownsRow_nil _ _ _ _, .inl rfl, fun j p hj => absurd hj (by simp), Nat.le_refl _, fun h => absurd rfl h, HBW.out⟩
        case round =>
          clear HBLK HOE HBW b1 z1 zf1 hGlt
          obtain ⟨i, vI, I', him, hi8, hil, rfl, hblk, hownE, hownI, hdis, hok, hlI, hne0, hbw⟩ := hrel
          have HIM := Lib.hid him
          have HBLK := Lib.hid hblk
          have HBW := Lib.hid hbw
          have HOE := Lib.hid hownE
          have HOI := Lib.hid hownI
          have HDIS := Lib.hid hdis
          have HOK := Lib.hid hok
          have HNE0 := Lib.hid hne0
          have hGlt : w.heap.size + 2 < wr.heap.size := (Array.getElem?_eq_some_iff.1 hblk).1
          have b2 := (hbw.cell (p := ⟨w.heap.size, 2, none⟩) (by simp)).trans HF.out.b2
          obtain ⟨z0, z1, z2, zf⟩ := three_cells hblk
          obtain ⟨ai, ci, rfl⟩ := hownI.form
          clear him hbw hblk hownE hownI hdis hok hne0 z1
          by_cases hend : i < I.length ∧ i < 8
          · obtain ⟨hk, hk2⟩ := hend
            obtain ⟨x, hx, hxm⟩ := at_ofI hk
            obtain ⟨b, off, hao, hcc⟩ := HCI.out.resolve_left (by intro e; rw [e] at hk; simp at hk)
            subst hao
            have hbl := Lib.lt_of_cell (hcc i x hx)
            have c0 := ((HF.out.bel.trans (HBW.out.mono (by omega))).cell (p := ⟨b, off + i, none⟩) hbl).trans (hcc i x hx)
            have hk0 : (0 : Int) ≤ (i : Int) := Int.natCast_nonneg _
            have hk1 : (i : Int) < (I.length : Int) := by omega
            have hk3 : (i : Int) < 8 := by omega
            have HK := Lib.hid hk
            have HK2 := Lib.hid hk2
            have hum : IntKind.u64.wrap (m : Int) = (m : Int) := u64_id (by omega) (by have := HMR.out; omega)
            have hm0 : ¬ ((m : Int) = 0) := by have := HMR.out; omega
            have hm2 : ¬ (m = 0) := by have := HMR.out; omega
            have hm3 : (m : Int) ≠ 0 := hm0
            have hqr := fixM_range (m := (m : Int)) (x := x) HMR.out.1 (by have := HMR.out.2; omega)
            obtain ⟨q, hq⟩ : ∃ q, fixM m x = q := ⟨_, rfl⟩
            rw [hq] at hqr
            have hq1 : IntKind.i64.wrap ((IntKind.u64.wrap x).tmod (m : Int)) = q := by rw [← hq]; unfold fixM; rw [hum]
            have hq2 : wrap64 ((IntKind.u64.wrap x).tmod (m : Int)) = q := by
              have h2 := Int.tmod_nonneg (m : Int) (u64_range x).1
              have h3 := Int.tmod_lt_of_pos (IntKind.u64.wrap x) (show (0 : Int) < m by have := HMR.out; omega)
              have h4 := HMR.out.2
              rw [← hq1, i64_id (by omega) (by omega)]
              unfold wrap64
              omega
            have HQR := Lib.hid hqr
            clear hx hxm hcc hbl hk hk2 hq hqr
            go_wp2_with fail
            go_quiet (fail)
            go_wp2_with fail
            go_loopg [8, 9] (I'.length + 1) (fun mm t8 t9 wq => ∃ j : Nat, j + mm = I'.length + 1 ∧ j ≤ I'.length ∧ t9 = .int .i64 (j : Int) ∧ t8 = .bool (decide (q ∈ I'.take j)) ∧ Below wr.heap.size wr wq)
            case atStart => exact ⟨0, by omega, by omega, rfl, by simp, by first | exact Below.refl _ _ | exact below_drewN (Below.refl _ _) _ | exact (Below.refl _ _).drew⟩
            case round =>
              obtain ⟨j, hjm, hjl, rfl, rfl, hbq⟩ := hrel
              have HJM := Lib.hid hjm
              have HBQ := Lib.hid hbq
              have hblkq := (hbq.block _ hGlt).trans HBLK.out
              obtain ⟨y0, y1, y2, yf⟩ := three_cells hblkq
              have yf2 := yf 2
              clear hjm hbq yf
              by_cases hj : j < I'.length
              · obtain ⟨y, hy, hym⟩ := at_ofI hj
                obtain ⟨g, cg, hform, hcells⟩ := HOI.out.cells (by intro e; rw [e] at hj; simp at hj)
                simp only [Value.slice.injEq] at hform
                obtain ⟨rfl, _, rfl⟩ := hform
                have hcy0 := hcells j y hy
                have hcy := (HBQ.out.cell (p := ⟨g, j, none⟩) (Lib.lt_of_cell hcy0)).trans hcy0
                have hj0 : (0 : Int) ≤ (j : Int) := Int.natCast_nonneg _
                have hj1 : (j : Int) < (I'.length : Int) := by omega
                have HY := Lib.hid hy
                have HJ := Lib.hid hj
                have htk : I'.take (j + 1) = I'.take j ++ [y] := by rw [List.take_add_one, hy]; rfl
                have HTK := Lib.hid htk
                clear hcells hcy0 hy hym hj htk
                by_cases hmem : q ∈ I'.take j
                · rw [decide_eq_true hmem]
                  go_wp2_with fail
                  go_roundg (I'.length - j)
                  case measure => have := HJM.out; have := HJ.out; omega
                  case rel => exact ⟨j + 1, by have := HJM.out; have := HJ.out; omega, by have := HJ.out; omega, by go_num, by rw [HTK.out]; simp [hmem], HBQ.out⟩
                · rw [decide_eq_false hmem]
                  by_cases hyq : y = q
                  · subst hyq
                    go_wp2_with fail
                    go_roundg (I'.length - j)
                    case measure => have := HJM.out; have := HJ.out; omega
                    case rel => exact ⟨j + 1, by have := HJM.out; have := HJ.out; omega, by have := HJ.out; omega, by go_num, by rw [HTK.out]; simp, HBQ.out⟩
                  · have hyb : (y == q) = false := by simpa using hyq
                    have hyq2 : ¬ (q = y) := fun e => hyq e.symm
                    go_wp2_with fail
                    go_roundg (I'.length - j)
                    case measure => have := HJM.out; have := HJ.out; omega
                    case rel => exact ⟨j + 1, by have := HJM.out; have := HJ.out; omega, by have := HJ.out; omega, by go_num, by rw [HTK.out]; simp [hmem, hyq, hyq2], HBQ.out⟩
              · have hjn : j = I'.length := by omega
                by_cases hmem : q ∈ I'
                · rw [decide_eq_true (show q ∈ I'.take j by rw [hjn, List.take_length]; exact hmem)]
                  go_wp2_with fail
                  go_roundg (9 - (i + 1))
                  case measure => have := HIM.out; have := HK2.out; omega
                  case rel => exact ⟨i + 1, .slice ai I'.length ci, I', by have := HK2.out; omega, by have := HK2.out; omega, by have := HK.out; omega, by go_num, (HBQ.out.block _ hGlt).trans HBLK.out, HOE.out.below HBQ.out, HOI.out.below HBQ.out, HDIS.out, HOK.out, by omega, fun _ e => by rw [e] at hmem; simp at hmem, HBW.out.trans (HBQ.out.mono (by omega))⟩
                · rw [decide_eq_false (show ¬ q ∈ I'.take j by rw [hjn, List.take_length]; exact hmem)]
                  have HMEM := Lib.hid hmem
                  have HOI2 := Lib.hid (HOI.out.below HBQ.out)
                  have HOE2 := Lib.hid (HOE.out.below HBQ.out)
                  have HBLK2 := Lib.hid hblkq
                  have hoi2 := HOI2.out
                  have hGlt2 := (Array.getElem?_eq_some_iff.1 hblkq).1
                  have hj0 : ¬ ((j : Int) < (I'.length : Int)) := by omega
                  clear hmem hblkq hjn hj hjl
                  go_wp2_with (at_builtin; refine mk_of ?_)
                  unfold Mk
                  refine (wpList_append_own_at _ rfl _ _ 23 rfl (w.heap.size + 3) 3 j0 _ 1 8 Tryz.underlying23 ji jz0 jz1 jz2 rfl (by decide) (.slice ai I'.length ci) I'.length (intsL I') rfl (World.ownsRow.alloc hoi2 _) ⟨wr.heap.size, 0, none⟩ 1 1 [.int .i64 q] rfl rfl (World.news_of_block (cs := #[.int .i64 q]) (heap_alloc_new _ _)) ?c2 ?c3 ?c4 ?c5 ?_)
                  case c2 => intro u hu; simp at hu; rcases hu with rfl; rfl
                  case c3 => unfold maxLen; have := HK2.out; omega
                  case c4 => have := HK2.out; omega
                  case c5 => simp; omega
                  intro v2 w3 hown3 hgrow _ hvb
                  obtain ⟨A2, cc2, hv2⟩ : ∃ A c, v2 = .slice A (I'.length + 1) c := by
                    rcases hown3.2 with ⟨_, h0⟩ | ⟨g, cap, cur, h, _⟩
                    · exact absurd h0 (by omega)
                    · exact ⟨_, _, h⟩
                  subst hv2
                  have agG : some (w.heap.size + 2) ≠ (Value.slice ai I'.length ci).ownBlock := fun e => by have := (World.ownsRow.lt HOI.out _ e.symm).1; omega
                  have agV : (Value.slice A2 (I'.length + 1) cc2).ownBlock ≠ some (w.heap.size + 2) := fun e => by have := (World.ownsRow.lt hown3 _ e).1; omega
                  have agE : vE.ownBlock ≠ some (w.heap.size + 2) := fun e => by have := (World.ownsRow.lt HOE.out _ e).1; omega
                  have hal : Below wr.heap.size wr (wr.alloc (.cells #[.int .i64 q] 3)) := (Below.refl _ _).alloc (Nat.le_refl _) _
                  have hg3 := (hgrow.block (w.heap.size + 2) (by simp; omega) agG).trans ((hal.block _ hGlt2).trans HBLK2.out)
                  obtain ⟨t0, t1, t2, tf⟩ := three_cells hg3
                  have tf2 := tf 2
                  have hE3 : Own w3 (w.heap.size + 3) 76 vE (fixEs m E) := Own.grown (HOE2.out.below hal) hgrow (by
                    rcases HDIS.out with h | h
                    · rw [h]; cases vE.ownBlock <;> simp
                    · exact .inr h)
                  have hI3 : OwnI w3 (w.heap.size + 3) 3 (.slice A2 (I'.length + 1) cc2) (I' ++ [q]) := by
                    unfold OwnI
                    rw [List.length_append, intsL_snoc]
                    exact hown3
                  have hdis2 : (Value.slice A2 (I'.length + 1) cc2).ownBlock = none ∨ vE.ownBlock ≠ (Value.slice A2 (I'.length + 1) cc2).ownBlock := by
                    rcases hvb with h | h
                    · rw [h]; exact HDIS.out
                    · refine .inr fun e => ?_
                      rw [h] at e
                      have := (World.ownsRow.lt HOE2.out _ e).2
                      simp only [World.size_alloc] at this
                      omega
                  have HI4 := Lib.hid (show OwnI (w3.setCell ⟨w.heap.size + 2, 2, none⟩ (.slice A2 (I'.length + 1) cc2)) (w.heap.size + 3) 3 (.slice A2 (I'.length + 1) cc2) (I' ++ [q]) from ownsRow_setCell_other hI3 (a := ⟨w.heap.size + 2, 2, none⟩) agV _)
                  have HE4 := Lib.hid (show Own (w3.setCell ⟨w.heap.size + 2, 2, none⟩ (.slice A2 (I'.length + 1) cc2)) (w.heap.size + 3) 76 vE (fixEs m E) from ownsRow_setCell_other hE3 (a := ⟨w.heap.size + 2, 2, none⟩) agE _)
                  have HB9 := Lib.hid ((((HBW.out.trans (HBQ.out.mono (by omega))).alloc (by omega) _).grown hgrow (by simp; omega) (fun k e => by have := (World.ownsRow.lt HOI.out k e).1; omega)).setCell (p := ⟨w.heap.size + 2, 2, none⟩) (Nat.le_refl _) (.slice A2 (I'.length + 1) cc2))
                  have HG4 := Lib.hid (heap_setCell_same w3 (w.heap.size + 2) 2 _ _ (.slice A2 (I'.length + 1) cc2) hg3)
                  have HD2 := Lib.hid hdis2
                  clear hown3 hgrow hvb hE3 hI3 hdis2 hg3 tf hal hoi2
                  go_wp2_with fail
                  go_roundg (9 - (i + 1))
                  case measure => have := HIM.out; have := HK2.out; omega
                  case rel => exact ⟨i + 1, .slice A2 (I'.length + 1) cc2, I' ++ [q], by have := HK2.out; omega, by have := HK2.out; omega, by have := HK.out; omega, by go_num, by simpa using HG4.out, HE4.out, HI4.out, HD2.out, HOK.out.snoc HQR.out HMEM.out, by rw [List.length_append]; simp; omega, fun _ => by simp, HB9.out⟩
          · obtain ⟨aoE, capE, hvE⟩ : ∃ aoE capE, vE = .slice aoE (fixEs m E).length capE := by
              rcases HOE.out.2 with ⟨h, h0⟩ | ⟨g, cap, cur, h, _⟩
              · exact ⟨none, 0, by rw [h, h0]⟩
              · exact ⟨_, _, h⟩
            subst hvE
            have hlt6 : (fixEs m E).length ≤ 12 := by unfold fixEs; rw [List.length_map, List.length_take]; omega
            by_cases hlt : i < I.length
            case' pos =>
              have hk0 : (i : Int) < (I.length : Int) := by omega
              have hk1 : ¬ ((i : Int) < 8) := by omega
            case' neg => have hk0 : ¬ ((i : Int) < (I.length : Int)) := by omega
            all_goals
              clear hend hlt
              by_cases hnil : I' = []
              · subst hnil
                go_upto_region 21 with fail
                have hgV : Below wr.heap.size wr (wr.alloc (.cells #[.int .i64 0] 3)) := (Below.refl _ _).alloc (Nat.le_refl _) _
                have hgA := (hgV.block _ hGlt).trans HBLK.out
                obtain ⟨s0, s1, s2, sf⟩ := three_cells hgA
                have sf2 := sf 2
                have hGA := Lib.hid hgA
                clear hgA sf hgV
                go_upto_region 22 with fail
                obtain ⟨W8, hW8⟩ : ∃ W8, W8 = (wr.setCell ⟨w.heap.size + 2, 2, none⟩ (.slice (some ⟨wr.heap.size, 0, none⟩) 1 1)).alloc (.cells #[.int .i64 0] 3) := ⟨_, rfl⟩
                rw [← hW8]
                rw [← World.setCell_alloc_past _ _ _ _ hGlt] at hW8
                have HBLK8 : Hid (W8.heap[w.heap.size + 2]? = some (.cells #[.int .i64 (m : Int), .slice aoE (fixEs m E).length capE, .slice (some ⟨wr.heap.size, 0, none⟩) 1 1] 25 (0, 0))) := Lib.hid (by rw [hW8]; simpa using heap_setCell_same _ (w.heap.size + 2) 2 _ _ (.slice (some ⟨wr.heap.size, 0, none⟩) 1 1) hGA.out)
                have HBW8 : Hid (Below (w.heap.size + 2) w2 W8) := Lib.hid (by rw [hW8]; exact (HBW.out.alloc (by omega) _).setCell (Nat.le_refl _) _)
                have HOE8 : Hid (Own W8 (w.heap.size + 3) 76 (.slice aoE (fixEs m E).length capE) (fixEs m E)) := Lib.hid (by
                  rw [hW8]
                  exact ownsRow_setCell_other (World.ownsRow.alloc HOE.out _) (fun e => by have := (World.ownsRow.lt HOE.out _ e).1; first | omega | (simp at this; done) | (simp at this; omega)) _)
                have HOI8 : Hid (OwnI W8 (w.heap.size + 3) 3 (.slice (some ⟨wr.heap.size, 0, none⟩) 1 1) [0]) := Lib.hid (by
                  rw [hW8]
                  exact ownsRow_setCell_other (own1 0 (by omega)) (fun e => by simp only [Value.ownBlock, Option.some.injEq] at e; omega) _)
                have HOK8 : Hid (InOk (m : Int) [0] ([0] : List Int).length) := Lib.hid (InOk.snoc (l := []) (fun j p hj => absurd hj (by simp)) ⟨Int.le_refl _, by have := HMR.out; omega⟩ (by simp))
                have HN8 : Hid (([0] : List Int) ≠ []) := Lib.hid (by simp)
                clear hW8 s0 s1 s2 sf2 b2 z0 z2
                have hbs8 : w.heap.size + 2 < W8.heap.size := (Array.getElem?_eq_some_iff.1 HBLK8.out).1
                have hres : W8.heap[w.heap.size + 1]? = some (.cells #[.int .i64 0, .slice none 0 0, .slice none 0 0] 25 (0, 0)) := (HBW8.out.block _ (by omega)).trans HF.out.res
                obtain ⟨z0, z1, z2, _⟩ := three_cells HBLK8.out
                obtain ⟨y0, y1, y2, yf⟩ := three_cells hres
                have yf0 := yf 0
                have yf1 := yf 1
                have yf2 := yf 2
                have hr1 := heap_setCell_same W8 (w.heap.size + 1) 0 _ _ (.int .i64 (m : Int)) hres
                have hr2 := heap_setCell_same _ (w.heap.size + 1) 1 _ _ (.slice aoE (fixEs m E).length capE) hr1
                have hr3 := heap_setCell_same _ (w.heap.size + 1) 2 _ _ (.slice (some ⟨wr.heap.size, 0, none⟩) 1 1) hr2
                have HR3 := Lib.hid hr3
                clear hres yf hr1 hr2 hr3
                go_wp2_with fail
                obtain ⟨w4, hw4⟩ : ∃ w4, w4 = ((W8.setCell ⟨w.heap.size + 1, 0, none⟩ (.int .i64 (m : Int))).setCell ⟨w.heap.size + 1, 1, none⟩ (.slice aoE (fixEs m E).length capE)).setCell ⟨w.heap.size + 1, 2, none⟩ (.slice (some ⟨wr.heap.size, 0, none⟩) 1 1) := ⟨_, rfl⟩
                have hown4 : Own w4 (w.heap.size + 3) 76 (.slice aoE (fixEs m E).length capE) (fixEs m E) := by
                  have h := HOE8.out
                  have hb := World.ownsRow.lt h
                  rw [hw4]
                  exact ownsRow_setCell_other (ownsRow_setCell_other (ownsRow_setCell_other h (fun e => by have := (hb _ e).1; first | omega | (simp at this; done) | (simp at this; omega)) _) (fun e => by have := (hb _ e).1; first | omega | (simp at this; done) | (simp at this; omega)) _) (fun e => by have := (hb _ e).1; first | omega | (simp at this; done) | (simp at this; omega)) _
                have hownI4 : OwnI w4 (w.heap.size + 3) 3 (.slice (some ⟨wr.heap.size, 0, none⟩) 1 1) [0] := by
                  have h := HOI8.out
                  have hb := World.ownsRow.lt h
                  rw [hw4]
                  exact ownsRow_setCell_other (ownsRow_setCell_other (ownsRow_setCell_other h (fun e => by have := (hb _ e).1; first | omega | (simp at this; done) | (simp at this; omega)) _) (fun e => by have := (hb _ e).1; first | omega | (simp at this; done) | (simp at this; omega)) _) (fun e => by have := (hb _ e).1; first | omega | (simp at this; done) | (simp at this; omega)) _
                have hw : Below w.heap.size w w4 := by
                  rw [hw4]
                  exact ((((HF.out.bel.trans (HBW8.out.mono (by omega))).setCell (by simp) _).setCell (by simp) _).setCell (by simp) _)
                have hres4 := HR3.out
                rw [← hw4] at hres4 ⊢
                obtain ⟨x0, x1, x2, _⟩ := three_cells (by simpa using hres4)
                have hmr := HMR.out
                have hfit := fixEs_fits (m := m) (E := E) (by omega) (by omega) HWE.out
                have hwfE := fixEs_wf (m := m) (E := E) (by omega) (by omega) HWE.out
                have hri : ∀ x ∈ [0], -9223372036854775808 ≤ x ∧ x ≤ 9223372036854775807 := by
                  intro x hx
                  obtain ⟨j, hj⟩ := List.mem_iff_getElem?.1 hx
                  have := (HOK8.out j x (List.getElem?_eq_some_iff.1 hj).1 hj).1
                  unfold inP at this
                  omega
                refine bodyPost_ret (v := .agg #[.int .i64 (m : Int), .slice aoE (fixEs m E).length capE, (.slice (some ⟨wr.heap.size, 0, none⟩) 1 1)]) (by simp [results, Tryz.results6, go_sem, x0, x1, x2]) rfl ?_
                refine ⟨m, _, _, fixEs m E, [0], by omega, hlt6, rfl, ⟨hown4.rd hwfE, hownI4.rd hri⟩, hown4, hownI4, ⟨by omega, by omega, by omega, hfit, chkV_ok (by omega) (by omega) (by omega) hfit HN8.out (by first | omega | simp) HOK8.out (no_round (fun e he => (hfit e he).2.2.2.2.1) (fixEs_rise HWE.out))⟩, hw⟩
              · have hlz : 0 < I'.length := List.length_pos_iff.2 hnil
                have hlz0 : ¬ ((I'.length : Int) = 0) := by omega
                have hlz1 : ¬ (I'.length = 0) := by omega
                go_upto_region 22 with fail
                have HBLK8 := HBLK
                have HBW8 := HBW
                have HOE8 := HOE
                have HOI8 := HOI
                have HOK8 := HOK
                have HN8 := Lib.hid hnil
                clear b2 z0 z2
                have hbs8 : w.heap.size + 2 < wr.heap.size := (Array.getElem?_eq_some_iff.1 HBLK8.out).1
                have hres : wr.heap[w.heap.size + 1]? = some (.cells #[.int .i64 0, .slice none 0 0, .slice none 0 0] 25 (0, 0)) := (HBW8.out.block _ (by omega)).trans HF.out.res
                obtain ⟨z0, z1, z2, _⟩ := three_cells HBLK8.out
                obtain ⟨y0, y1, y2, yf⟩ := three_cells hres
                have yf0 := yf 0
                have yf1 := yf 1
                have yf2 := yf 2
                have hr1 := heap_setCell_same wr (w.heap.size + 1) 0 _ _ (.int .i64 (m : Int)) hres
                have hr2 := heap_setCell_same _ (w.heap.size + 1) 1 _ _ (.slice aoE (fixEs m E).length capE) hr1
                have hr3 := heap_setCell_same _ (w.heap.size + 1) 2 _ _ (.slice ai I'.length ci) hr2
                have HR3 := Lib.hid hr3
                clear hres yf hr1 hr2 hr3
                go_wp2_with fail
                obtain ⟨w4, hw4⟩ : ∃ w4, w4 = ((wr.setCell ⟨w.heap.size + 1, 0, none⟩ (.int .i64 (m : Int))).setCell ⟨w.heap.size + 1, 1, none⟩ (.slice aoE (fixEs m E).length capE)).setCell ⟨w.heap.size + 1, 2, none⟩ (.slice ai I'.length ci) := ⟨_, rfl⟩
                have hown4 : Own w4 (w.heap.size + 3) 76 (.slice aoE (fixEs m E).length capE) (fixEs m E) := by
                  have h := HOE8.out
                  have hb := World.ownsRow.lt h
                  rw [hw4]
                  exact ownsRow_setCell_other (ownsRow_setCell_other (ownsRow_setCell_other h (fun e => by have := (hb _ e).1; first | omega | (simp at this; done) | (simp at this; omega)) _) (fun e => by have := (hb _ e).1; first | omega | (simp at this; done) | (simp at this; omega)) _) (fun e => by have := (hb _ e).1; first | omega | (simp at this; done) | (simp at this; omega)) _
                have hownI4 : OwnI w4 (w.heap.size + 3) 3 (.slice ai I'.length ci) I' := by
                  have h := HOI8.out
                  have hb := World.ownsRow.lt h
                  rw [hw4]
                  exact ownsRow_setCell_other (ownsRow_setCell_other (ownsRow_setCell_other h (fun e => by have := (hb _ e).1; first | omega | (simp at this; done) | (simp at this; omega)) _) (fun e => by have := (hb _ e).1; first | omega | (simp at this; done) | (simp at this; omega)) _) (fun e => by have := (hb _ e).1; first | omega | (simp at this; done) | (simp at this; omega)) _
                have hw : Below w.heap.size w w4 := by
                  rw [hw4]
                  exact ((((HF.out.bel.trans (HBW8.out.mono (by omega))).setCell (by simp) _).setCell (by simp) _).setCell (by simp) _)
                have hres4 := HR3.out
                rw [← hw4] at hres4 ⊢
                obtain ⟨x0, x1, x2, _⟩ := three_cells (by simpa using hres4)
                have hmr := HMR.out
                have hfit := fixEs_fits (m := m) (E := E) (by omega) (by omega) HWE.out
                have hwfE := fixEs_wf (m := m) (E := E) (by omega) (by omega) HWE.out
                have hri : ∀ x ∈ I', -9223372036854775808 ≤ x ∧ x ≤ 9223372036854775807 := by
                  intro x hx
                  obtain ⟨j, hj⟩ := List.mem_iff_getElem?.1 hx
                  have := (HOK8.out j x (List.getElem?_eq_some_iff.1 hj).1 hj).1
                  unfold inP at this
                  omega
                refine bodyPost_ret (v := .agg #[.int .i64 (m : Int), .slice aoE (fixEs m E).length capE, (.slice ai I'.length ci)]) (by simp [results, Tryz.results6, go_sem, x0, x1, x2]) rfl ?_
                refine ⟨m, _, _, fixEs m E, I', by omega, hlt6, rfl, ⟨hown4.rd hwfE, hownI4.rd hri⟩, hown4, hownI4, ⟨by omega, by omega, by omega, hfit, chkV_ok (by omega) (by omega) (by omega) hfit HN8.out (by first | omega | simp) HOK8.out (no_round (fun e he => (hfit e he).2.2.2.2.1) (fixEs_rise HWE.out))⟩, hw⟩
end Go.Proofs.YtlkljeedlkbkgaaGreatDoor.Gr
