/-
  THE LAWS' OWN To OF A GRAPH.
-/
import Derived.Test.YtdbaacalfbbdiaaGreatDoorGMem
import Derived.Test.YtdbaacalfbbdiaaGreatDoorJoined5
import Derived.Deep.RegionHeld3
import Derived.Deep.RegionHeldLaw
import Derived.Deep.DeepCutAuto
import Derived.WalkKit
import Derived.WalkLawsBesides
import Derived.WalkSpells
import Derived.WalkSmall
import Derived.StillTactics
import Derived.StillTailTactics
import Derived.Deep.AppendLies
import Derived.Deep.LoopGhost
import Derived.OwnWalk
import Derived.IntWalk
import Derived.Outline
namespace Go.Proofs.YtdbaacalfbbdiaaGreatDoor.Gr
open Go.RowKit Go.Deep
set_option linter.unusedVariables false
set_option linter.unusedSimpArgs false

section
variable {P : Program} {w : World}
theorem step_append_any {ops : Array Oper} {o : Oper} {a : Act} {K : Act → World → Prop} {Q : Exit → Act → World → Prop} {E : Prop} (hgd : o.guard = none) (s x : Operand) (t t2 : TypeId)
    (ho : o.op = .call { callee := .builtin .append, args := #[s, x], argTypes := #[t, t2] })
    (base : Nat) (e e2 : TypeId) (i : TypeInfo) (z : Value) (size bytes : Nat) (ht : P.underlying t = some (.slice e)) (ht2 : P.underlying t2 = some (.slice e2)) (hi : P.info? e = some i) (hz : i.zero = some z)
    (hsize : i.size = size) (hby : i.bytes = bytes) (hzs : z.cells.size = size) (hsz : 0 < size)
    (v : Value) (n : Nat) (xs : List Value) (hs : a.eval s = v) (hown : w.ownsRow base e size v n xs)
    (A : Option Addr) (m c : Nat) (news : List Value) (hx : a.eval x = .slice A m c) (hl : news.length = m * size) (hr : Batch.Src w A m news) (h1 : ∀ u ∈ news, u.oneCell' = true)
    (h63 : n + m ≤ maxLen) (hbytes : (n + m) * bytes ≤ 140737488355328) (hbase : base ≤ w.heap.size)
    (h : ∀ v' w', w'.ownsRow base e size v' (n + m) (xs ++ news) → w.grownBy w' v.ownBlock → (v'.ownBlock = v.ownBlock ∨ v'.ownBlock = some w.heap.size) → K (a.put o.dst v') w') :
    if Region.wanted o (yielded ops a.tmps) = true then Oper.wp P o a w K Q else E := by
  have hw : Region.wanted o (yielded ops a.tmps) = true := by simp [Region.wanted, hgd]
  rw [if_pos hw]
  exact Batch.wp_append_any w s x t t2 ho base e e2 i z size bytes ht ht2 hi hz hsize hby hzs hsz v n xs hs hown A m c news hx hl hr h1 h63 hbytes hbase h
end
def intsL (l : List Int) : List Value := l.map fun x => .int .i64 x
theorem intsL_one (l : List Int) : ∀ u ∈ intsL l, u.oneCell' = true := by
  intro u hu
  unfold intsL at hu
  obtain ⟨x, _, rfl⟩ := List.mem_map.1 hu
  rfl
theorem intsL_at {l : List Int} {i : Nat} {x : Int} (h : l[i]? = some x) : (intsL l)[i]? = some (.int .i64 x) := by unfold intsL; rw [List.getElem?_map, h]; rfl
/-- Numbers in memory of the call's own. -/
def OwnI (w : World) (base : Nat) (T : TypeId) (v : Value) (l : List Int) : Prop := w.ownsRow base T 1 v l.length (intsL l)
theorem OwnI.rd {w : World} {base : Nat} {T : TypeId} {v : Value} {l : List Int} (h : OwnI w base T v l) (hw : ∀ x ∈ l, -9223372036854775808 ≤ x ∧ x ≤ 9223372036854775807) : RdI w v l := by
  have h0 := h
  rcases h.2 with ⟨rfl, hn⟩ | ⟨g, cap, cur, rfl, hb, hg, hc, hm, _⟩
  · obtain rfl := List.length_eq_zero_iff.1 hn
    exact ⟨none, 0, rfl, by simp, by simp, by simp, .inl rfl⟩
  · refine ⟨some ⟨g, 0, none⟩, cap, rfl, hc, by unfold maxLen at hm; exact hm, hw, .inr ⟨g, 0, rfl, fun i x hx => ?_⟩⟩
    have := World.ownsRow.cells h0 (g := g) rfl i _ (intsL_at hx)
    rw [show ((⟨g, 0, none⟩ : Addr).add i) = ⟨g, 0 + i, none⟩ by unfold Addr.add; split <;> simp_all] at this
    exact this
theorem OwnI.form {w : World} {base : Nat} {T : TypeId} {v : Value} {l : List Int} (h : OwnI w base T v l) : ∃ ao cap, v = .slice ao l.length cap := by
  rcases h.2 with ⟨rfl, hn⟩ | ⟨g, cap, cur, rfl, _⟩
  · exact ⟨none, 0, by rw [hn]⟩
  · exact ⟨_, _, rfl⟩
theorem OwnI.below {w w' : World} {base : Nat} {T : TypeId} {v : Value} {l : List Int} (h : OwnI w base T v l) (hw : Below w.heap.size w w') : OwnI w' base T v l := by
  refine ⟨h.1, ?_⟩
  rcases h.2 with h2 | ⟨g, cap, cur, rfl, hb, hg, rest⟩
  · exact .inl h2
  · exact .inr ⟨g, cap, cur, rfl, hb, (hw.block g (Array.getElem?_eq_some_iff.1 hg).1).trans hg, rest⟩
theorem RdI.src {w : World} {ao : Option Addr} {n cap : Nat} {l : List Int} (h : RdI w (.slice ao n cap) l) : Batch.Src w ao l.length (intsL l) := by
  obtain ⟨ao', cap', hv, _, _, _, h4⟩ := h
  simp only [Value.slice.injEq] at hv
  obtain ⟨rfl, rfl, rfl⟩ := hv
  rcases h4 with rfl | ⟨b, off, rfl, h4⟩
  · cases ao with
    | none => exact .inl ⟨rfl, rfl, rfl⟩
    | some ad => exact .inr ⟨ad, rfl, fun j u hu => by simp [intsL] at hu⟩
  · refine .inr ⟨_, rfl, fun j u hu => ?_⟩
    rw [show ((⟨b, off, none⟩ : Addr).add j) = ⟨b, off + j, none⟩ by unfold Addr.add; split <;> simp_all]
    unfold intsL at hu
    rw [List.getElem?_map] at hu
    obtain ⟨x, hx, rfl⟩ := Option.map_eq_some_iff.1 hu
    exact h4 j x hx
theorem own01 (w : World) (T : TypeId) : (w.alloc (.cells #[] T)).ownsRow w.heap.size T 1 (.slice (some ⟨w.heap.size, 0, none⟩) 0 0) 0 [] :=
  ⟨rfl, .inr ⟨w.heap.size, 0, #[], rfl, Nat.le_refl _, heap_alloc_new w _, Nat.le_refl _, by decide, rfl, rfl⟩⟩
theorem own01' {W : World} {g base : Nat} {T : TypeId} (h : W.heap[g]? = some (.cells #[] T (0, 0))) (hb : base ≤ g) : W.ownsRow base T 1 (.slice (some ⟨g, 0, none⟩) 0 0) 0 [] :=
  ⟨rfl, .inr ⟨g, 0, #[], rfl, hb, h, Nat.le_refl _, by decide, rfl, rfl⟩⟩
theorem three_cells {w : World} {G : Nat} {x y z : Value} {T : TypeId} (h : w.heap[G]? = some (.cells #[x, y, z] T (0, 0))) : w.cell? ⟨G, 0, none⟩ = some x ∧ w.cell? ⟨G, 1, none⟩ = some y ∧ w.cell? ⟨G, 2, none⟩ = some z ∧ ∀ o, w.frozen? ⟨G, o, none⟩ = false := by
  refine ⟨?_, ?_, ?_, fun o => ?_⟩ <;> simp [World.cell?, World.frozen?, h]
theorem three_set {w : World} {G : Nat} {x y z x' y' z' : Value} {T : TypeId} (h : w.heap[G]? = some (.cells #[x, y, z] T (0, 0))) : (((w.setCell ⟨G, 0, none⟩ x').setCell ⟨G, 1, none⟩ y').setCell ⟨G, 2, none⟩ z').heap[G]? = some (.cells #[x', y', z'] T (0, 0)) := by
  have h0 := heap_setCell_same w G 0 _ T x' h
  have h1 := heap_setCell_same _ G 1 _ T y' h0
  have h2 := heap_setCell_same _ G 2 _ T z' h1
  simpa using h2
theorem infoEd : (Tryz.prog.info? 70).map (fun i => (i.zero, i.size, i.bytes)) = some (some (.agg #[.int .i64 0, .int .i64 0, .int .u64 0]), 3, 24) := by kernel_rfl
theorem infoInt : (Tryz.prog.info? 3).map (fun i => (i.zero, i.size, i.bytes)) = some (some (.int .i64 0), 1, 8) := by kernel_rfl
/-- A graph in memory. -/
structure GMemP (w : World) (ve vi : Value) (E : List Ed) (I : List Int) : Prop where
  ed : Rd w ve E
  inp : RdI w vi I
theorem GMemP.below {w w' : World} {ve vi : Value} {E : List Ed} {I : List Int} (h : GMemP w ve vi E I) (hb : Below w.heap.size w w') : GMemP w' ve vi E I := ⟨h.ed.below hb, h.inp.below hb⟩
theorem OwnI.grown {w w' : World} {base : Nat} {T : TypeId} {v : Value} {l : List Int} {row : Option Nat} (h : OwnI w base T v l) (hg : w.grownBy w' row) (hne : v.ownBlock = none ∨ v.ownBlock ≠ row) : OwnI w' base T v l := by
  refine ⟨h.1, ?_⟩
  rcases h.2 with h2 | ⟨g, cap, cur, rfl, hb, hk, rest⟩
  · exact .inl h2
  · refine .inr ⟨g, cap, cur, rfl, hb, (hg.block g (Array.getElem?_eq_some_iff.1 hk).1 ?_).trans hk, rest⟩
    rcases hne with h | h
    · simp [Value.ownBlock] at h
    · exact h
set_option maxRecDepth 1000000 in
set_option maxHeartbeats 8000000 in
theorem gto_own {w : World} {ve vi : Value} {E : List Ed} {I : List Int} (n : Int) (hg : GMemP w ve vi E I) (hl : E.length ≤ 100000) (hli : I.length ≤ 100000) :
    Calls Tryz.prog 16 #[.agg #[.int .i64 n, ve, vi]] w fun e w' => ∃ ve' vi' : Value, e = .returned (.agg #[.int .i64 n, ve', vi']) ∧ (Own w' (w.heap.size + 2) 70 ve' E ∧ OwnI w' (w.heap.size + 2) 3 vi' I) ∧ Below w.heap.size w w' := by
  have HIS := Lib.hid hg.inp
  have HWI := Lib.hid hg.inp.wf
  have HWE := Lib.hid hg.ed.wf
  obtain ⟨hve, hvi⟩ := hg
  obtain ⟨ao, cap, rfl, hlc, hcm, _, hcell⟩ := hve
  obtain ⟨aoi, capi, rfl, hlci, hcmi, _, _⟩ := hvi
  obtain ⟨i0, hi, hz0, hz1, hz2⟩ := info_parts infoEd
  obtain ⟨j0, ji, jz0, jz1, jz2⟩ := info_parts infoInt
  have HC := Lib.hid hcell
  have HL := Lib.hid hl
  have hlen : E.length ≤ 9223372036854775807 := by omega
  have hleni : I.length ≤ 9223372036854775807 := by omega
  clear hcell hlc hcm hlci hcmi hl
  obtain ⟨w1, hw1⟩ : ∃ w1, w1 = w.alloc (.cells #[.int .i64 n, .slice ao E.length cap, .slice aoi I.length capi] 44) := ⟨_, rfl⟩
  obtain ⟨w2, hw2⟩ : ∃ w2, w2 = (w.alloc (.cells #[.int .i64 n, .slice ao E.length cap, .slice aoi I.length capi] 44)).alloc (.cells #[.int .i64 0, .slice none 0 0, .slice none 0 0] 47) := ⟨_, rfl⟩
  have hsz : w2.heap.size = w.heap.size + 2 := by rw [hw2]; simp
  have hb0 : Below w.heap.size w w2 := by rw [hw2]; exact ((Below.refl _ _).alloc (Nat.le_refl _) _).alloc (by simp) _
  have b0 : w2.cell? ⟨w.heap.size, 0, none⟩ = some (.int .i64 n) := by rw [hw2]; simp
  have b1 : w2.cell? ⟨w.heap.size, 1, none⟩ = some (.slice ao E.length cap) := by rw [hw2]; simp
  have b2 : w2.cell? ⟨w.heap.size, 2, none⟩ = some (.slice aoi I.length capi) := by rw [hw2]; simp
  have HSRC := Lib.hid (fun W (h : Below w2.heap.size w2 W) => ((HIS.out.below hb0).below h).src)
  have HB0 := Lib.hid hb0
  have HSZ := Lib.hid hsz
  have HW2 := Lib.hid hw2
  have HA := Lib.hid (show (w2.alloc (.cells #[] 3)).heap[w.heap.size + 2]? = some (.cells #[] 3 (0, 0)) by have h := heap_alloc_new w2 (.cells #[] 3); rwa [hsz] at h)
  have HAB := Lib.hid (show ((w2.alloc (.cells #[.int .i64 0, .slice none 0 0, .slice none 0 0] 47)).alloc (.cells #[] 3)).heap[w.heap.size + 2 + 1]? = some (.cells #[] 3 (0, 0)) by have h := heap_alloc_new (w2.alloc (.cells #[.int .i64 0, .slice none 0 0, .slice none 0 0] 47)) (.cells #[] 3); rwa [show (w2.alloc (.cells #[.int .i64 0, .slice none 0 0, .slice none 0 0] 47)).heap.size = w.heap.size + 2 + 1 by simp [hsz]] at h)
  have HAC := Lib.hid (show ((w2.alloc (.cells #[] 3)).alloc (.cells #[.int .i64 0, .slice none 0 0, .slice none 0 0] 47)).heap[w.heap.size + 2]? = some (.cells #[] 3 (0, 0)) by rw [blk_alloc_lt _ _ _ (by simp [hsz])]; have h := heap_alloc_new w2 (.cells #[] 3); rwa [hsz] at h)
  have HZB := Lib.hid (show ((w2.alloc (.cells #[.int .i64 0, .slice none 0 0, .slice none 0 0] 47)).alloc (.cells #[] 3)).heap[w.heap.size + 2]? = some (.cells #[.int .i64 0, .slice none 0 0, .slice none 0 0] 47 (0, 0)) by rw [blk_alloc_lt _ _ _ (by simp [hsz])]; have h := heap_alloc_new w2 (.cells #[.int .i64 0, .slice none 0 0, .slice none 0 0] 47); rwa [hsz] at h)
  have HZC := Lib.hid (show ((w2.alloc (.cells #[] 3)).alloc (.cells #[.int .i64 0, .slice none 0 0, .slice none 0 0] 47)).heap[w.heap.size + 2 + 1]? = some (.cells #[.int .i64 0, .slice none 0 0, .slice none 0 0] 47 (0, 0)) by have h := heap_alloc_new (w2.alloc (.cells #[] 3)) (.cells #[.int .i64 0, .slice none 0 0, .slice none 0 0] 47); rwa [show (w2.alloc (.cells #[] 3)).heap.size = w.heap.size + 2 + 1 by simp [hsz]] at h)
  clear hw1 hb0
  go_enter Tryz.func16, Tryz.ntmps16
  go_upto_region 1 with fail
  rw [← hw2]
  clear hw2
  go_cut [3] (fun s3 wx => ∃ (G : Nat) (vI : Value), s3 = .pointer (some ⟨G, 0, none⟩) ∧ w.heap.size + 2 ≤ G ∧ wx.heap[G]? = some (.cells #[.int .i64 n, .slice none 0 0, vI] 47 (0, 0)) ∧ OwnI wx (w.heap.size + 2) 3 vI I ∧ vI.ownBlock ≠ some G ∧ Below (w.heap.size + 2) w2 wx)
  case first =>
    go_region_held3 (fun w' => w'.cell? ⟨w.heap.size, 0, none⟩ = some (.int .i64 n) ∧ w'.cell? ⟨w.heap.size, 2, none⟩ = some (.slice aoi I.length capi))
      (first
        | go_keep
        | exact ⟨d0, d2⟩
        | exact ⟨(((((Below.refl (w.heap.size + 2) w').setCell (by simp) _).setCell (by simp) _).setCell (by simp) _).cell (p := ⟨w.heap.size, 0, none⟩) (by simp)).trans d0, (((((Below.refl (w.heap.size + 2) w').setCell (by simp) _).setCell (by simp) _).setCell (by simp) _).cell (p := ⟨w.heap.size, 2, none⟩) (by simp)).trans d2⟩
        | exact ⟨by simp [hlt', d0], by simp [hlt', d2]⟩)
      ((refine step_append_any rfl (.tmp 7) (.tmp 9) 42 42 (by rfl) (w.heap.size + 2) 3 3 j0 (.int .i64 0) 1 8 Tryz.underlying42 Tryz.underlying42 ji jz0 jz1 jz2 rfl (by decide) _ 0 [] (by rfl) (own01' (by first | exact HA.out | exact HAB.out | exact HAC.out) (by omega)) aoi I.length capi (intsL I) (by rfl) (by simp [intsL]) (HSRC.out _ (by first | exact (((Below.refl _ _).alloc (Nat.le_refl _) _).drew) | exact ((((Below.refl _ _).alloc (Nat.le_refl _) _).alloc (by simp) _).drew) | exact ((Below.refl _ _).drew.alloc (by simp) _) | exact (((Below.refl _ _).drew.alloc (by simp) _).alloc (by simp) _))) (intsL_one I) (by unfold maxLen; omega) (by omega) (by simp [hsz]) ?_; intro v' w' hown0 hgrow hvb; have hown' : OwnI w' (w.heap.size + 2) 3 v' I := (by simpa [OwnI] using hown0); obtain ⟨ao', cap', rfl⟩ := hown'.form; have hbw : Below (w.heap.size + 2) w2 w' := (Below.grown (by rw [← hsz]; first | exact (((Below.refl _ _).alloc (Nat.le_refl _) _).drew) | exact ((((Below.refl _ _).alloc (Nat.le_refl _) _).alloc (by simp) _).drew)) hgrow (by simp [hsz]) (fun k e => by simp [Value.ownBlock] at e; omega)); have hlt' : w.heap.size < w'.heap.size := (by have := hbw.size; omega); have d0 : w'.cell? ⟨w.heap.size, 0, none⟩ = some (.int .i64 n) := (hbw.cell (p := ⟨w.heap.size, 0, none⟩) (by simp)).trans b0; have d2 : w'.cell? ⟨w.heap.size, 2, none⟩ = some (.slice aoi I.length capi) := (hbw.cell (p := ⟨w.heap.size, 2, none⟩) (by simp)).trans b2; first | (have hz := (hgrow.block (w.heap.size + 2) (by simp [hsz]) (by simp [Value.ownBlock])).trans HZB.out; obtain ⟨z0, z1, z2, zf⟩ := three_cells hz; have zf0 := zf 0; have zf1 := zf 1; have zf2 := zf 2; have HZ := Lib.hid hz; clear hz zf) | (have hz := (hgrow.block (w.heap.size + 2 + 1) (by simp [hsz]) (by simp [Value.ownBlock])).trans HZC.out; obtain ⟨z0, z1, z2, zf⟩ := three_cells hz; have zf0 := zf 0; have zf1 := zf 1; have zf2 := zf 2; have HZ := Lib.hid hz; clear hz zf) | skip))
    · go_wp2_with fail
      go_meet
      refine ⟨w'.heap.size, .slice ao' I.length cap', rfl, by have := hbw.size; omega, ?_, ?_, ?_, ?_⟩
      · exact heap_alloc_new w' _
      · exact hown'.below ((Below.refl _ _).alloc (Nat.le_refl _) _)
      · intro e
        have := (World.ownsRow.lt hown' _ e).2
        omega
      · exact hbw.alloc (by have := hbw.size; omega) _
    all_goals
      go_wp2_with fail
      go_meet
      simp only [Value.ownBlock, World.size_alloc, hsz, World.size_drew] at hvb
      refine ⟨_, .slice ao' I.length cap', rfl, by omega, three_set HZ.out, ?_, ?_, ?_⟩
      · refine ownsRow_setCell_other (ownsRow_setCell_other (ownsRow_setCell_other hown' ?_ _) ?_ _) ?_ _ <;> (simp only [Value.ownBlock]; intro e; rw [e] at hvb; simp at hvb)
      · simp only [Value.ownBlock]; intro e; rw [e] at hvb; simp at hvb
      · exact ((hbw.setCell (by simp) _).setCell (by simp) _).setCell (by simp) _
  case rest =>
    obtain ⟨G, vI, rfl, hG, hblk, hownI, hnb, hbw⟩ := hcut
    have HBW := Lib.hid hbw
    have HBLK := Lib.hid hblk
    have HOI := Lib.hid hownI
    have HNB := Lib.hid hnb
    have HBX := Lib.hid (show ∀ wr, Below (w.heap.size + 2) w2 wr → wr.cell? ⟨w.heap.size, 1, none⟩ = some (.slice ao E.length cap) from fun wr h => (h.cell (p := ⟨w.heap.size, 1, none⟩) (by simp)).trans b1)
    have HSZ2 := Lib.hid hsz
    clear hbw hblk hownI hnb b0 b1 b2 hsz HA HAB HAC HZB HZC HSRC
    go_wp2_with fail
    go_loopg [4] (E.length + 1) (fun m t wr => ∃ (k : Nat) (vE : Value), k + m = E.length + 1 ∧ k ≤ E.length ∧ t = .int .i64 (k : Int) ∧ wr.heap[G]? = some (.cells #[.int .i64 n, vE, vI] 47 (0, 0)) ∧ wr.ownsRow (w.heap.size + 2) 70 3 vE k (cellsL (E.take k)) ∧ vE.ownBlock ≠ some G ∧ OwnI wr (w.heap.size + 2) 3 vI I ∧ (vI.ownBlock = none ∨ vI.ownBlock ≠ vE.ownBlock) ∧ Below (w.heap.size + 2) w2 wr)
    case atStart => exact ⟨0, .slice none 0 0, by omega, by omega, rfl, HBLK.out, World.ownsRow_nil _ _ _ _, by simp [Value.ownBlock], HOI.out, by cases h : vI.ownBlock <;> simp [Value.ownBlock], HBW.out⟩
    case round =>
      clear HBLK HOI HBW
      obtain ⟨k, vE, hkm, hkl, rfl, hblk, hown, hne, hownI, hdis, hbw⟩ := hrel
      have HKM := Lib.hid hkm
      have HBLK := Lib.hid hblk
      have HOI := Lib.hid hownI
      have HNE := Lib.hid hne
      have HDIS := Lib.hid hdis
      have HBW := Lib.hid hbw
      obtain ⟨z0, z1, z2, zf⟩ := three_cells hblk
      have zf1 := zf 1
      have b1 := HBX.out wr hbw
      have hGlt : G < wr.heap.size := (Array.getElem?_eq_some_iff.1 hblk).1
      have hbs : w.heap.size + 2 ≤ wr.heap.size := by omega
      have hblt : w.heap.size < wr.heap.size := by omega
      clear hkm hblk hownI hne hdis hbw zf
      by_cases hk : k < E.length
      · obtain ⟨x, hx, hxm⟩ := at_of hk
        obtain ⟨b, off, hao, hcc⟩ := HC.out.resolve_left (by intro e; rw [e] at hk; simp at hk)
        subst hao
        have q1 := (hcc k x hx).below HB0.out (hcc k x hx).lt
        have q2 := q1.below HBW.out (by have := (hcc k x hx).lt; omega)
        have hbl := (hcc k x hx).lt
        obtain ⟨c0, c1, c2⟩ := q2
        have hblw : b < wr.heap.size := by omega
        have hk0 : (0 : Int) ≤ (k : Int) := Int.natCast_nonneg _
        have hk1 : (k : Int) < (E.length : Int) := by omega
        have HX := Lib.hid hx
        have HK := Lib.hid hk
        obtain ⟨xf, xt, xa⟩ := x
        simp only at c0 c1 c2
        obtain ⟨aoE, capE, hvE⟩ : ∃ aoE capE, vE = .slice aoE k capE := by
          rcases hown.2 with ⟨h, h0⟩ | ⟨g, cap, cur, h, _⟩
          · exact ⟨none, 0, by rw [h, h0]⟩
          · exact ⟨_, _, h⟩
        have HOWN := Lib.hid hown
        have ag : (Value.slice aoE k capE).ownBlock ≠ some G := by rw [← hvE]; exact HNE.out
        have agb : (Value.slice aoE k capE).ownBlock ≠ some b := by
          rw [← hvE]
          intro e
          have := (World.ownsRow.lt hown b e).1
          have := hbl
          omega
        have agw : (Value.slice aoE k capE).ownBlock ≠ some w.heap.size := by
          rw [← hvE]
          intro e
          have := (World.ownsRow.lt hown _ e).1
          omega
        subst hvE
        have hGw : w.heap.size ≠ G := by omega
        have hGb : b ≠ G := by omega
        have hW : Below wr.heap.size wr ((wr.alloc (.cells #[.int .i64 xf, .int .i64 xt, .int .u64 xa] 70)).drew) := ((Below.refl _ _).alloc (Nat.le_refl _) _).drew
        clear hx hxm hcc q1 hbl hk
        go_wp2_with fail
        refine wp_region_held_drew (S := (fun w' => w'.cell? ⟨w.heap.size, 1, none⟩ = some (.slice (some ⟨b, off, none⟩) E.length cap) ∧ w'.cell? ⟨b, off + k * 3, none⟩ = some (.int .i64 xf) ∧ w'.cell? ⟨b, off + k * 3 + 1, none⟩ = some (.int .i64 xt) ∧ w'.cell? ⟨b, off + k * 3 + 2, none⟩ = some (.int .u64 xa))) (by kernel_rfl) ?_ (fun hHeld => ?_)
        · ((try dsimp only); go_keep)
        refine wpAnyH_take (i := 0) (v := ?_) rfl (by kernel_rfl) (by kernel_rfl) (by kernel_rfl) (fun _ _ _ h => h) (Or.inl ⟨by rfl, ?_⟩) (by assumption) ?_
        rotate_left 1
        · (intro w hSw; (try dsimp only at hSw); first | (go_simp; done) | (go_simp; with_reducible rfl))
        try simp only [Act.put, List.setIfInBounds_toArray, List.set_cons_zero, List.set_cons_succ, List.getElem_toArray, List.getElem_cons_zero]
        refine wpAnyH_take (i := 2) (v := ?_) rfl (by kernel_rfl) (by kernel_rfl) (by kernel_rfl) (fun _ _ _ h => h) (Or.inl ⟨by rfl, ?_⟩) (by assumption) ?_
        rotate_left 1
        · (intro w hSw; (try dsimp only at hSw); first | (go_simp; done) | (go_simp; with_reducible rfl))
        try simp only [Act.put, List.setIfInBounds_toArray, List.set_cons_zero, List.set_cons_succ, List.getElem_toArray, List.getElem_cons_zero, List.getElem_cons_succ]
        refine wpAnyH_take (i := 3) (v := ?_) rfl (by kernel_rfl) (by kernel_rfl) (by kernel_rfl) (fun _ _ _ h => h) (Or.inl ⟨by rfl, ?_⟩) (by assumption) ?_
        rotate_left 1
        · (intro w hSw; (try dsimp only at hSw); first | (go_simp; done) | (go_simp; with_reducible rfl))
        try simp only [Act.put, List.setIfInBounds_toArray, List.set_cons_zero, List.set_cons_succ, List.getElem_toArray, List.getElem_cons_zero, List.getElem_cons_succ]
        refine wpAnyH_take (i := 4) (v := ?_) rfl (by kernel_rfl) (by kernel_rfl) (by kernel_rfl) (fun _ _ _ h => h) (Or.inl ⟨by rfl, ?_⟩) (by assumption) ?_
        rotate_left 1
        · (intro w hSw; (try dsimp only at hSw); first | (go_simp; done) | (go_simp; with_reducible rfl))
        try simp only [Act.put, List.setIfInBounds_toArray, List.set_cons_zero, List.set_cons_succ, List.getElem_toArray, List.getElem_cons_zero, List.getElem_cons_succ]
        refine wpAnyH_take (i := 5) (v := ?_) rfl (by kernel_rfl) (by kernel_rfl) (by kernel_rfl) (fun _ _ _ h => h) (Or.inl ⟨by rfl, ?_⟩) (by assumption) ?_
        rotate_left 1
        · (intro w hSw; (try dsimp only at hSw); first | (go_simp; done) | (go_simp; with_reducible rfl))
        try simp only [Act.put, List.setIfInBounds_toArray, List.set_cons_zero, List.set_cons_succ, List.getElem_toArray, List.getElem_cons_zero, List.getElem_cons_succ]
        refine wpAnyH_take (i := 6) (v := ?_) rfl (by kernel_rfl) (by kernel_rfl) (by kernel_rfl) (fun _ _ _ h => h) (Or.inl ⟨by rfl, ?_⟩) (by assumption) ?_
        rotate_left 1
        · (intro w hSw; (try dsimp only at hSw); first | (go_simp; done) | (go_simp; with_reducible rfl))
        try simp only [Act.put, List.setIfInBounds_toArray, List.set_cons_zero, List.set_cons_succ, List.getElem_toArray, List.getElem_cons_zero, List.getElem_cons_succ]
        refine wpAnyH_take (i := 7) (v := ?_) rfl (by kernel_rfl) (by kernel_rfl) (by kernel_rfl) (fun _ _ _ h => h) (Or.inl ⟨by rfl, ?_⟩) (by assumption) ?_
        rotate_left 1
        · (intro w hSw; (try dsimp only at hSw); first | (go_simp; done) | (go_simp; with_reducible rfl))
        try simp only [Act.put, List.setIfInBounds_toArray, List.set_cons_zero, List.set_cons_succ, List.getElem_toArray, List.getElem_cons_zero, List.getElem_cons_succ]
        refine wpAnyH_take (i := 8) (v := ?_) rfl (by kernel_rfl) (by kernel_rfl) (by kernel_rfl) (fun _ _ _ h => h) (Or.inl ⟨by rfl, ?_⟩) (by assumption) ?_
        rotate_left 1
        · (intro w hSw; (try dsimp only at hSw); first | (go_simp; done) | (go_simp; with_reducible rfl))
        try simp only [Act.put, List.setIfInBounds_toArray, List.set_cons_zero, List.set_cons_succ, List.getElem_toArray, List.getElem_cons_zero, List.getElem_cons_succ]
        refine wpAnyH_take (i := 9) (v := ?_) rfl (by kernel_rfl) (by kernel_rfl) (by kernel_rfl) (fun _ _ _ h => h) (Or.inl ⟨by rfl, ?_⟩) (by assumption) ?_
        rotate_left 1
        · (intro w hSw; (try dsimp only at hSw); first | (go_simp; done) | (go_simp; with_reducible rfl))
        try simp only [Act.put, List.setIfInBounds_toArray, List.set_cons_zero, List.set_cons_succ, List.getElem_toArray, List.getElem_cons_zero, List.getElem_cons_succ]
        refine wpAnyH_take (i := 10) (v := ?_) rfl (by kernel_rfl) (by kernel_rfl) (by kernel_rfl) (fun _ _ _ h => h) (Or.inl ⟨by rfl, ?_⟩) (by assumption) ?_
        rotate_left 1
        · (intro w hSw; (try dsimp only at hSw); first | (go_simp; done) | (go_simp; with_reducible rfl))
        try simp only [Act.put, List.setIfInBounds_toArray, List.set_cons_zero, List.set_cons_succ, List.getElem_toArray, List.getElem_cons_zero, List.getElem_cons_succ]
        refine wpAnyH_take (i := 11) (v := ?_) rfl (by kernel_rfl) (by kernel_rfl) (by kernel_rfl) (fun _ _ _ h => h) (Or.inl ⟨by rfl, ?_⟩) (by assumption) ?_
        rotate_left 1
        · (intro w hSw; (try dsimp only at hSw); first | (go_simp; done) | (go_simp; with_reducible rfl))
        try simp only [Act.put, List.setIfInBounds_toArray, List.set_cons_zero, List.set_cons_succ, List.getElem_toArray, List.getElem_cons_zero, List.getElem_cons_succ]
        refine wpAnyH_take (i := 12) (v := ?_) rfl (by kernel_rfl) (by kernel_rfl) (by kernel_rfl) (fun _ _ _ h => h) (Or.inl ⟨by rfl, ?_⟩) (by assumption) ?_
        rotate_left 1
        · (intro w hSw; (try dsimp only at hSw); first | (go_simp; done) | (go_simp; with_reducible rfl))
        try simp only [Act.put, List.setIfInBounds_toArray, List.set_cons_zero, List.set_cons_succ, List.getElem_toArray, List.getElem_cons_zero, List.getElem_cons_succ]
        refine wpAnyH_take (i := 13) (v := ?_) rfl (by kernel_rfl) (by kernel_rfl) (by kernel_rfl) (fun _ _ _ h => h) (Or.inl ⟨by rfl, ?_⟩) (by assumption) ?_
        rotate_left 1
        · (intro w hSw; (try dsimp only at hSw); first | (go_simp; done) | (go_simp; with_reducible rfl))
        try simp only [Act.put, List.setIfInBounds_toArray, List.set_cons_zero, List.set_cons_succ, List.getElem_toArray, List.getElem_cons_zero, List.getElem_cons_succ]
        refine wpAnyH_take (i := 14) (v := ?_) rfl (by kernel_rfl) (by kernel_rfl) (by kernel_rfl) (fun _ _ _ h => h) (Or.inl ⟨by rfl, ?_⟩) (by assumption) ?_
        rotate_left 1
        · (intro w hSw; (try dsimp only at hSw); first | (go_simp; done) | (go_simp; with_reducible rfl))
        try simp only [Act.put, List.setIfInBounds_toArray, List.set_cons_zero, List.set_cons_succ, List.getElem_toArray, List.getElem_cons_zero, List.getElem_cons_succ]
        refine wpAnyH_take (i := 15) (v := ?_) rfl (by kernel_rfl) (by kernel_rfl) (by kernel_rfl) (fun _ _ _ h => h) (Or.inl ⟨by rfl, ?_⟩) (by assumption) ?_
        rotate_left 1
        · (intro w hSw; (try dsimp only at hSw); first | (go_simp; done) | (go_simp; with_reducible rfl))
        try simp only [Act.put, List.setIfInBounds_toArray, List.set_cons_zero, List.set_cons_succ, List.getElem_toArray, List.getElem_cons_zero, List.getElem_cons_succ]
        refine wpAnyH_take (i := 16) (v := ?_) rfl (by kernel_rfl) (by kernel_rfl) (by kernel_rfl) (fun _ _ _ h => h) (Or.inl ⟨by rfl, ?_⟩) (by assumption) ?_
        rotate_left 1
        · (intro w hSw; (try dsimp only at hSw); first | (go_simp; done) | (go_simp; with_reducible rfl))
        try simp only [Act.put, List.setIfInBounds_toArray, List.set_cons_zero, List.set_cons_succ, List.getElem_toArray, List.getElem_cons_zero, List.getElem_cons_succ]
        refine wpAnyH_take (i := 17) (v := ?_) rfl (by kernel_rfl) (by kernel_rfl) (by kernel_rfl) (fun _ _ _ h => h) (Or.inl ⟨by rfl, ?_⟩) (by assumption) ?_
        rotate_left 1
        · (intro w hSw; (try dsimp only at hSw); first | (go_simp; done) | (go_simp; with_reducible rfl))
        try simp only [Act.put, List.setIfInBounds_toArray, List.set_cons_zero, List.set_cons_succ, List.getElem_toArray, List.getElem_cons_zero, List.getElem_cons_succ]
        refine wpAnyH_take (i := 18) (v := ?_) rfl (by kernel_rfl) (by kernel_rfl) (by kernel_rfl) (fun _ _ _ h => h) (Or.inl ⟨by rfl, ?_⟩) (by assumption) ?_
        rotate_left 1
        · (intro w hSw; (try dsimp only at hSw); first | (go_simp; done) | (go_simp; with_reducible rfl))
        try simp only [Act.put, List.setIfInBounds_toArray, List.set_cons_zero, List.set_cons_succ, List.getElem_toArray, List.getElem_cons_zero, List.getElem_cons_succ]
        refine wpAnyH_take (i := 19) (v := ?_) rfl (by kernel_rfl) (by kernel_rfl) (by kernel_rfl) (fun _ _ _ h => h) (Or.inl ⟨by rfl, ?_⟩) (by assumption) ?_
        rotate_left 1
        · (intro w hSw; (try dsimp only at hSw); first | (go_simp; done) | (go_simp; with_reducible rfl))
        try simp only [Act.put, List.setIfInBounds_toArray, List.set_cons_zero, List.set_cons_succ, List.getElem_toArray, List.getElem_cons_zero, List.getElem_cons_succ]
        refine wpAnyH_take (i := 20) (v := ?_) rfl (by kernel_rfl) (by kernel_rfl) (by kernel_rfl) (fun _ _ _ h => h) (Or.inl ⟨by rfl, ?_⟩) (by assumption) ?_
        rotate_left 1
        · (intro w hSw; (try dsimp only at hSw); first | (go_simp; done) | (go_simp; with_reducible rfl))
        try simp only [Act.put, List.setIfInBounds_toArray, List.set_cons_zero, List.set_cons_succ, List.getElem_toArray, List.getElem_cons_zero, List.getElem_cons_succ]
        refine wpAnyH_ready (rs := [1, 21]) (by kernel_rfl) (by simp) ?_
        refine AllReadyH.cons rfl (fun K hK => ?_) (AllReadyH.cons rfl (fun K hK => ?_) AllReadyH.nil)
        · go_simp
          try go_wp2_with fail
          refine hK.out _ _ ?_ (fun hHeld => ?_)
          · ((try dsimp only); go_keep)
          clear hK K
          try simp only [Act.put, List.setIfInBounds_toArray, List.set_cons_zero, List.set_cons_succ, List.getElem_toArray, List.getElem_cons_zero, List.getElem_cons_succ]
          refine wpAnyH_ready (rs := [21]) (by kernel_rfl) (by simp) ?_
          refine AllReadyH.cons rfl (fun K hK => ?_) AllReadyH.nil
          go_simp
          try go_wp2_with fail
          refine hK.out _ _ ?_ (fun hHeld => ?_)
          · ((try dsimp only); go_keep)
          clear hK K
          try simp only [Act.put, List.setIfInBounds_toArray, List.set_cons_zero, List.set_cons_succ, List.getElem_toArray, List.getElem_cons_zero, List.getElem_cons_succ]
          refine wpAnyH_ready (rs := [22]) (by kernel_rfl) (by simp) ?_
          refine AllReadyH.cons rfl (fun K hK => ?_) AllReadyH.nil
          (refine step_append_lies _ (by rfl) _ _ _ (by rfl) (w.heap.size + 2) 70 i0 _ 3 24 Tryz.underlying45 hi hz0 hz1 hz2 rfl (by omega) (.slice aoE k capE) k (cellsL (E.take k)) (by rfl) ((hown.alloc _).drew) ⟨wr.heap.size, 0, none⟩ 1 1 [.int .i64 xf, .int .i64 xt, .int .u64 xa] (by rfl) (by rfl) (World.news_of_block (cs := #[.int .i64 xf, .int .i64 xt, .int .u64 xa]) (t := 70) (fr := (0, 0)) (heap_alloc_new wr _)) (by simp [Value.oneCell']) (by omega) (by unfold maxLen; omega) (by have := HL.out; omega) (by simp; omega) (wr.heap.size + 1) (by simp) ?_; intro gg cap1 w3 hown1 hgrow hat hlt; have d1 := (hgrow.cell_far ⟨w.heap.size, 1, none⟩ (by simp; omega) (Ne.symm agw)).trans ((hW.cell (p := ⟨w.heap.size, 1, none⟩) hblt).trans b1); have e0 := (hgrow.cell_far ⟨b, off + k * 3, none⟩ (by simp; omega) (Ne.symm agb)).trans ((hW.cell (p := ⟨b, off + k * 3, none⟩) hblw).trans c0); have e1 := (hgrow.cell_far ⟨b, off + k * 3 + 1, none⟩ (by simp; omega) (Ne.symm agb)).trans ((hW.cell (p := ⟨b, off + k * 3 + 1, none⟩) hblw).trans c1); have e2 := (hgrow.cell_far ⟨b, off + k * 3 + 2, none⟩ (by simp; omega) (Ne.symm agb)).trans ((hW.cell (p := ⟨b, off + k * 3 + 2, none⟩) hblw).trans c2); have y1 := (hgrow.cell_far ⟨G, 1, none⟩ (by simp; omega) (Ne.symm ag)).trans ((hW.cell (p := ⟨G, 1, none⟩) hGlt).trans z1); have yf := (hgrow.frozen_far ⟨G, 1, none⟩ (by simp; omega) (Ne.symm ag)).trans ((hW.frozen (p := ⟨G, 1, none⟩) hGlt).trans zf1))
          refine hK.out _ _ ?_ (fun hHeld => ?_)
          · exact ⟨d1, e0, e1, e2⟩
          clear hK K
          try simp only [Act.put, List.setIfInBounds_toArray, List.set_cons_zero, List.set_cons_succ, List.getElem_toArray, List.getElem_cons_zero, List.getElem_cons_succ]
          refine wpAnyH_take (i := 23) (v := ?_) rfl (by kernel_rfl) (by kernel_rfl) (by kernel_rfl) (fun _ _ _ h => h) (Or.inl ⟨by rfl, ?_⟩) (by assumption) ?_
          rotate_left 1
          · (intro w hSw; (try dsimp only at hSw); first | (go_simp; done) | (go_simp; with_reducible rfl))
          try simp only [Act.put, List.setIfInBounds_toArray, List.set_cons_zero, List.set_cons_succ, List.getElem_toArray, List.getElem_cons_zero, List.getElem_cons_succ]
          refine wpAnyH_ready (rs := [24]) (by kernel_rfl) (by simp) ?_
          refine AllReadyH.cons rfl (fun K hK => ?_) AllReadyH.nil
          go_simp
          try go_wp2_with fail
          refine hK.out _ _ ?_ (fun hHeld => ?_)
          · exact ⟨(World.cell?_setCell_far _ _ _ _ (Ne.symm hGw)).trans d1, (World.cell?_setCell_far _ _ _ _ (Ne.symm hGb)).trans e0, (World.cell?_setCell_far _ _ _ _ (Ne.symm hGb)).trans e1, (World.cell?_setCell_far _ _ _ _ (Ne.symm hGb)).trans e2⟩
          clear hK K
          try simp only [Act.put, List.setIfInBounds_toArray, List.set_cons_zero, List.set_cons_succ, List.getElem_toArray, List.getElem_cons_zero, List.getElem_cons_succ]
          refine wpAnyH_done (by kernel_rfl) ?_ _
          go_wp2_with fail
          have hgG : gg ≠ G := by
            rcases hat with h | h
            · intro e; rw [e] at h; exact ag h
            · omega
          have hE1 : E.take (k + 1) = E.take k ++ [⟨xf, xt, xa⟩] := by rw [List.take_add_one, HX.out]; rfl
          have hIg : vI.ownBlock ≠ some gg := by
            intro e
            rcases hat with h | h
            · rcases HDIS.out with h2 | h2
              · rw [h2] at e; exact absurd e (by simp)
              · exact h2 (e.trans h.symm)
            · have := (World.ownsRow.lt HOI.out _ e).2; omega
          have hO1 : w3.ownsRow (w.heap.size + 2) 70 3 (.slice (some ⟨gg, 0, none⟩) (k + 1) cap1) (k + 1) (cellsL (E.take (k + 1))) := by rw [hE1, cellsL_snoc]; exact hown1
          have hO2 := ownsRow_setCell_other hO1 (a := ⟨G, 1, none⟩) (by simp only [Value.ownBlock]; intro e; exact hgG (Option.some.inj e)) (.slice (some ⟨gg, 0, none⟩) (k + 1) cap1)
          have hI1 : OwnI w3 (w.heap.size + 2) 3 vI I := OwnI.grown (HOI.out.below hW) hgrow HDIS.out
          have hI2 : OwnI (w3.setCell ⟨G, 1, none⟩ (.slice (some ⟨gg, 0, none⟩) (k + 1) cap1)) (w.heap.size + 2) 3 vI I := ownsRow_setCell_other hI1 (a := ⟨G, 1, none⟩) HNB.out _
          have hB2 : Below (w.heap.size + 2) w2 (w3.setCell ⟨G, 1, none⟩ (.slice (some ⟨gg, 0, none⟩) (k + 1) cap1)) := (((HBW.out.alloc hbs _).drew).grown hgrow (by simp; omega) (fun k e => (hown.lt k e).1)).setCell hG _
          have hG3 := (hgrow.block G (by simp; omega) (Ne.symm ag)).trans ((hW.block G hGlt).trans HBLK.out)
          have hG4 := heap_setCell_same w3 G 1 _ _ (.slice (some ⟨gg, 0, none⟩) (k + 1) cap1) hG3
          go_roundg (E.length - k)
          case measure => have := HKM.out; have := HK.out; omega
          case rel =>
            refine ⟨k + 1, .slice (some ⟨gg, 0, none⟩) (k + 1) cap1, by have := HKM.out; have := HK.out; omega, by have := HK.out; omega, by go_num, ?_, hO2, ?_, hI2, .inr ?_, hB2⟩
            · simpa using hG4
            · simp only [Value.ownBlock]; intro e; exact hgG (Option.some.inj e)
            · simpa only [Value.ownBlock] using hIg
        · go_simp
          try go_wp2_with fail
          refine hK.out _ _ ?_ (fun hHeld => ?_)
          · ((try dsimp only); go_keep)
          clear hK K
          try simp only [Act.put, List.setIfInBounds_toArray, List.set_cons_zero, List.set_cons_succ, List.getElem_toArray, List.getElem_cons_zero, List.getElem_cons_succ]
          refine wpAnyH_ready (rs := [1]) (by kernel_rfl) (by simp) ?_
          refine AllReadyH.cons rfl (fun K hK => ?_) AllReadyH.nil
          go_simp
          try go_wp2_with fail
          refine hK.out _ _ ?_ (fun hHeld => ?_)
          · ((try dsimp only); go_keep)
          clear hK K
          try simp only [Act.put, List.setIfInBounds_toArray, List.set_cons_zero, List.set_cons_succ, List.getElem_toArray, List.getElem_cons_zero, List.getElem_cons_succ]
          refine wpAnyH_ready (rs := [22]) (by kernel_rfl) (by simp) ?_
          refine AllReadyH.cons rfl (fun K hK => ?_) AllReadyH.nil
          (refine step_append_lies _ (by rfl) _ _ _ (by rfl) (w.heap.size + 2) 70 i0 _ 3 24 Tryz.underlying45 hi hz0 hz1 hz2 rfl (by omega) (.slice aoE k capE) k (cellsL (E.take k)) (by rfl) ((hown.alloc _).drew) ⟨wr.heap.size, 0, none⟩ 1 1 [.int .i64 xf, .int .i64 xt, .int .u64 xa] (by rfl) (by rfl) (World.news_of_block (cs := #[.int .i64 xf, .int .i64 xt, .int .u64 xa]) (t := 70) (fr := (0, 0)) (heap_alloc_new wr _)) (by simp [Value.oneCell']) (by omega) (by unfold maxLen; omega) (by have := HL.out; omega) (by simp; omega) (wr.heap.size + 1) (by simp) ?_; intro gg cap1 w3 hown1 hgrow hat hlt; have d1 := (hgrow.cell_far ⟨w.heap.size, 1, none⟩ (by simp; omega) (Ne.symm agw)).trans ((hW.cell (p := ⟨w.heap.size, 1, none⟩) hblt).trans b1); have e0 := (hgrow.cell_far ⟨b, off + k * 3, none⟩ (by simp; omega) (Ne.symm agb)).trans ((hW.cell (p := ⟨b, off + k * 3, none⟩) hblw).trans c0); have e1 := (hgrow.cell_far ⟨b, off + k * 3 + 1, none⟩ (by simp; omega) (Ne.symm agb)).trans ((hW.cell (p := ⟨b, off + k * 3 + 1, none⟩) hblw).trans c1); have e2 := (hgrow.cell_far ⟨b, off + k * 3 + 2, none⟩ (by simp; omega) (Ne.symm agb)).trans ((hW.cell (p := ⟨b, off + k * 3 + 2, none⟩) hblw).trans c2); have y1 := (hgrow.cell_far ⟨G, 1, none⟩ (by simp; omega) (Ne.symm ag)).trans ((hW.cell (p := ⟨G, 1, none⟩) hGlt).trans z1); have yf := (hgrow.frozen_far ⟨G, 1, none⟩ (by simp; omega) (Ne.symm ag)).trans ((hW.frozen (p := ⟨G, 1, none⟩) hGlt).trans zf1))
          refine hK.out _ _ ?_ (fun hHeld => ?_)
          · exact ⟨d1, e0, e1, e2⟩
          clear hK K
          try simp only [Act.put, List.setIfInBounds_toArray, List.set_cons_zero, List.set_cons_succ, List.getElem_toArray, List.getElem_cons_zero, List.getElem_cons_succ]
          refine wpAnyH_take (i := 23) (v := ?_) rfl (by kernel_rfl) (by kernel_rfl) (by kernel_rfl) (fun _ _ _ h => h) (Or.inl ⟨by rfl, ?_⟩) (by assumption) ?_
          rotate_left 1
          · (intro w hSw; (try dsimp only at hSw); first | (go_simp; done) | (go_simp; with_reducible rfl))
          try simp only [Act.put, List.setIfInBounds_toArray, List.set_cons_zero, List.set_cons_succ, List.getElem_toArray, List.getElem_cons_zero, List.getElem_cons_succ]
          refine wpAnyH_ready (rs := [24]) (by kernel_rfl) (by simp) ?_
          refine AllReadyH.cons rfl (fun K hK => ?_) AllReadyH.nil
          go_simp
          try go_wp2_with fail
          refine hK.out _ _ ?_ (fun hHeld => ?_)
          · exact ⟨(World.cell?_setCell_far _ _ _ _ (Ne.symm hGw)).trans d1, (World.cell?_setCell_far _ _ _ _ (Ne.symm hGb)).trans e0, (World.cell?_setCell_far _ _ _ _ (Ne.symm hGb)).trans e1, (World.cell?_setCell_far _ _ _ _ (Ne.symm hGb)).trans e2⟩
          clear hK K
          try simp only [Act.put, List.setIfInBounds_toArray, List.set_cons_zero, List.set_cons_succ, List.getElem_toArray, List.getElem_cons_zero, List.getElem_cons_succ]
          refine wpAnyH_done (by kernel_rfl) ?_ _
          go_wp2_with fail
          have hgG : gg ≠ G := by
            rcases hat with h | h
            · intro e; rw [e] at h; exact ag h
            · omega
          have hE1 : E.take (k + 1) = E.take k ++ [⟨xf, xt, xa⟩] := by rw [List.take_add_one, HX.out]; rfl
          have hIg : vI.ownBlock ≠ some gg := by
            intro e
            rcases hat with h | h
            · rcases HDIS.out with h2 | h2
              · rw [h2] at e; exact absurd e (by simp)
              · exact h2 (e.trans h.symm)
            · have := (World.ownsRow.lt HOI.out _ e).2; omega
          have hO1 : w3.ownsRow (w.heap.size + 2) 70 3 (.slice (some ⟨gg, 0, none⟩) (k + 1) cap1) (k + 1) (cellsL (E.take (k + 1))) := by rw [hE1, cellsL_snoc]; exact hown1
          have hO2 := ownsRow_setCell_other hO1 (a := ⟨G, 1, none⟩) (by simp only [Value.ownBlock]; intro e; exact hgG (Option.some.inj e)) (.slice (some ⟨gg, 0, none⟩) (k + 1) cap1)
          have hI1 : OwnI w3 (w.heap.size + 2) 3 vI I := OwnI.grown (HOI.out.below hW) hgrow HDIS.out
          have hI2 : OwnI (w3.setCell ⟨G, 1, none⟩ (.slice (some ⟨gg, 0, none⟩) (k + 1) cap1)) (w.heap.size + 2) 3 vI I := ownsRow_setCell_other hI1 (a := ⟨G, 1, none⟩) HNB.out _
          have hB2 : Below (w.heap.size + 2) w2 (w3.setCell ⟨G, 1, none⟩ (.slice (some ⟨gg, 0, none⟩) (k + 1) cap1)) := (((HBW.out.alloc hbs _).drew).grown hgrow (by simp; omega) (fun k e => (hown.lt k e).1)).setCell hG _
          have hG3 := (hgrow.block G (by simp; omega) (Ne.symm ag)).trans ((hW.block G hGlt).trans HBLK.out)
          have hG4 := heap_setCell_same w3 G 1 _ _ (.slice (some ⟨gg, 0, none⟩) (k + 1) cap1) hG3
          go_roundg (E.length - k)
          case measure => have := HKM.out; have := HK.out; omega
          case rel =>
            refine ⟨k + 1, .slice (some ⟨gg, 0, none⟩) (k + 1) cap1, by have := HKM.out; have := HK.out; omega, by have := HK.out; omega, by go_num, ?_, hO2, ?_, hI2, .inr ?_, hB2⟩
            · simpa using hG4
            · simp only [Value.ownBlock]; intro e; exact hgG (Option.some.inj e)
            · simpa only [Value.ownBlock] using hIg
      · have hin : k = E.length := by omega
        have hres : wr.heap[w.heap.size + 1]? = some (.cells #[.int .i64 0, .slice none 0 0, .slice none 0 0] 47 (0, 0)) := by
          rw [HBW.out.block _ (by omega), HW2.out]
          have h := heap_alloc_new (w.alloc (.cells #[.int .i64 n, .slice ao E.length cap, .slice aoi I.length capi] 44)) (.cells #[.int .i64 0, .slice none 0 0, .slice none 0 0] 47)
          rwa [show (w.alloc (.cells #[.int .i64 n, .slice ao E.length cap, .slice aoi I.length capi] 44)).heap.size = w.heap.size + 1 by simp] at h
        obtain ⟨y0, y1, y2, yf⟩ := three_cells hres
        have hform : ∃ aoE capE, vE = .slice aoE k capE := by
          rcases hown.2 with ⟨h, h0⟩ | ⟨g, cap, cur, h, _⟩
          · exact ⟨none, 0, by rw [h, h0]⟩
          · exact ⟨_, _, h⟩
        obtain ⟨aoE, capE, rfl⟩ := hform
        obtain ⟨aoI, capI, hvI⟩ := HOI.out.form
        subst hvI
        have hr1 := heap_setCell_same wr (w.heap.size + 1) 0 _ _ (.int .i64 n) hres
        have hr2 := heap_setCell_same _ (w.heap.size + 1) 1 _ _ (.slice aoE k capE) hr1
        have hr3 := heap_setCell_same _ (w.heap.size + 1) 2 _ _ (.slice aoI I.length capI) hr2
        have yf0 := yf 0
        have yf1 := yf 1
        have yf2 := yf 2
        have HR3 := Lib.hid hr3
        have HRES := Lib.hid hres
        have HOWN := Lib.hid hown
        clear hres yf hown hr1 hr2 hr3
        go_wp2_with fail
        obtain ⟨w4, hw4⟩ : ∃ w4, w4 = ((wr.setCell ⟨w.heap.size + 1, 0, none⟩ (.int .i64 n)).setCell ⟨w.heap.size + 1, 1, none⟩ (.slice aoE E.length capE)).setCell ⟨w.heap.size + 1, 2, none⟩ (.slice aoI I.length capI) := ⟨_, rfl⟩
        have hown4 : Own w4 (w.heap.size + 2) 70 (.slice aoE E.length capE) E := by
          have h := HOWN.out
          have hb := World.ownsRow.lt h
          rw [hin, List.take_length] at h
          rw [hin] at hb
          rw [hw4]
          exact ownsRow_setCell_other (ownsRow_setCell_other (ownsRow_setCell_other h (fun e => by have := (hb _ e).1; simp at this) _) (fun e => by have := (hb _ e).1; simp at this) _) (fun e => by have := (hb _ e).1; simp at this) _
        have hownI4 : OwnI w4 (w.heap.size + 2) 3 (.slice aoI I.length capI) I := by
          have h := HOI.out
          have hb := World.ownsRow.lt h
          rw [hw4]
          exact ownsRow_setCell_other (ownsRow_setCell_other (ownsRow_setCell_other h (fun e => by have := (hb _ e).1; simp at this) _) (fun e => by have := (hb _ e).1; simp at this) _) (fun e => by have := (hb _ e).1; simp at this) _
        have hw : Below w.heap.size w w4 := by
          rw [hw4]
          exact ((((HB0.out.trans (HBW.out.mono (by omega))).setCell (by simp) _).setCell (by simp) _).setCell (by simp) _)
        have hres4 := HR3.out
        have hin2 := hin
        subst hin2
        rw [← hw4] at hres4 ⊢
        obtain ⟨x0, x1, x2, _⟩ := three_cells (by simpa using hres4)
        exact bodyPost_ret (v := .agg #[.int .i64 n, .slice aoE E.length capE, .slice aoI I.length capI]) (by simp [results, Tryz.results16, go_sem, x0, x1, x2]) rfl ⟨_, _, rfl, ⟨hown4, hownI4⟩, hw⟩
theorem gto_any {w : World} {ve vi : Value} {E : List Ed} {I : List Int} (n : Int) (hg : GMemP w ve vi E I) (hl : E.length ≤ 100000) (hli : I.length ≤ 100000) :
    Calls Tryz.prog 16 #[.agg #[.int .i64 n, ve, vi]] w fun e w' => ∃ ve' vi' : Value, e = .returned (.agg #[.int .i64 n, ve', vi']) ∧ GMemP w' ve' vi' E I ∧ Below w.heap.size w w' :=
  (gto_own n hg hl hli).mono fun e w' ⟨ve', vi', he, ⟨h1, h2⟩, hb⟩ => ⟨ve', vi', he, ⟨h1.rd hg.ed.wf, h2.rd hg.inp.wf⟩, hb⟩
end Go.Proofs.YtdbaacalfbbdiaaGreatDoor.Gr
