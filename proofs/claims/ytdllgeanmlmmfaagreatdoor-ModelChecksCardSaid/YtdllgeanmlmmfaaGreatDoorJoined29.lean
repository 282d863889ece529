/-
  PACKAGE marchlandref06: Of and Same.
  marchlandlaw14: told. (gen/mdtold.py)
  marchlandref11: Right; marchlandref14: Check: what is wrong with a Plan.
-/
import Derived.Test.YtdllgeanmlmmfaaGreatDoorJoined8
import Derived.Test.YtdllgeanmlmmfaaGreatDoorGClosed
import Derived.Test.YtdllgeanmlmmfaaGreatDoorGTo
import Derived.Deep.QuietTactic
import Derived.BigQuiet
import Derived.Test.YtdllgeanmlmmfaaGreatDoorJoined28
import Derived.Test.YtdllgeanmlmmfaaGreatDoorMdNew
import Derived.Laws.Build
import Derived.Test.YtdllgeanmlmmfaaGreatDoorJoined26
import Derived.Test.YtdllgeanmlmmfaaGreatDoorGRef
import Derived.Laws.NewBlocks
namespace Go.Proofs.YtdllgeanmlmmfaaGreatDoor.Fr
open Go.RowKit Go.Deep Gr
set_option linter.unusedVariables false
set_option linter.unusedSimpArgs false

def ul (l : List Int) : List Value := l.map fun x => .int .u64 x
theorem ul_one (l : List Int) : ∀ u ∈ ul l, u.oneCell' = true := by
  intro u hu
  unfold ul at hu
  obtain ⟨x, _, rfl⟩ := List.mem_map.1 hu
  rfl
theorem ul_at {l : List Int} {i : Nat} {x : Int} (h : l[i]? = some x) : (ul l)[i]? = some (.int .u64 x) := by unfold ul; rw [List.getElem?_map, h]; rfl
theorem ul_snoc (l : List Int) (x : Int) : ul (l ++ [x]) = ul l ++ [.int .u64 x] := by unfold ul; simp
/-- Times in memory, as they read. -/
def RdU (w : World) (v : Value) (l : List Int) : Prop := ∃ (ao : Option Addr) (cap : Nat), v = .slice ao l.length cap ∧ l.length ≤ 9223372036854775807 ∧ (l = [] ∨ ∃ b off, ao = some ⟨b, off, none⟩ ∧ ∀ (i : Nat) (x : Int), l[i]? = some x → w.cell? ⟨b, off + i, none⟩ = some (.int .u64 x))
theorem RdU.below {w w' : World} {v : Value} {l : List Int} (h : RdU w v l) (hw : Below w.heap.size w w') : RdU w' v l := by
  obtain ⟨ao, cap, rfl, h1, h4⟩ := h
  refine ⟨ao, cap, rfl, h1, ?_⟩
  rcases h4 with h4 | ⟨b, off, ha, h4⟩
  · exact .inl h4
  · exact .inr ⟨b, off, ha, fun i x hx => (hw.cell (p := ⟨b, off + i, none⟩) (Lib.lt_of_cell (h4 i x hx))).trans (h4 i x hx)⟩
/-- .. of the call's own. -/
def OwnU (w : World) (base : Nat) (T : TypeId) (v : Value) (l : List Int) : Prop := w.ownsRow base T 1 v l.length (ul l)
theorem OwnU.rd {w : World} {base : Nat} {T : TypeId} {v : Value} {l : List Int} (h : OwnU w base T v l) : RdU w v l := by
  have h0 := h
  rcases h.2 with ⟨rfl, hn⟩ | ⟨g, cap, cur, rfl, hb, hg, hc, hm, _⟩
  · obtain rfl := List.length_eq_zero_iff.1 hn
    exact ⟨none, 0, rfl, by simp, .inl rfl⟩
  · refine ⟨some ⟨g, 0, none⟩, cap, rfl, by unfold maxLen at hm; omega, .inr ⟨g, 0, rfl, fun i x hx => ?_⟩⟩
    have := World.ownsRow.cells h0 (g := g) rfl i _ (ul_at hx)
    rw [show ((⟨g, 0, none⟩ : Addr).add i) = ⟨g, 0 + i, none⟩ by unfold Addr.add; split <;> simp_all] at this
    exact this
theorem OwnU.form {w : World} {base : Nat} {T : TypeId} {v : Value} {l : List Int} (h : OwnU w base T v l) : ∃ ao cap, v = .slice ao l.length cap := by
  rcases h.2 with ⟨rfl, hn⟩ | ⟨g, cap, cur, rfl, _⟩
  · exact ⟨none, 0, by rw [hn]⟩
  · exact ⟨_, _, rfl⟩
theorem OwnU.below {w w' : World} {base : Nat} {T : TypeId} {v : Value} {l : List Int} (h : OwnU w base T v l) (hw : Below w.heap.size w w') : OwnU w' base T v l := by
  refine ⟨h.1, ?_⟩
  rcases h.2 with h2 | ⟨g, cap, cur, rfl, hb, hg, rest⟩
  · exact .inl h2
  · exact .inr ⟨g, cap, cur, rfl, hb, (hw.block g (Array.getElem?_eq_some_iff.1 hg).1).trans hg, rest⟩
/-- A row as it reads. -/
theorem rdu_row {w : World} {g n : Nat} {F : Nat → Int} (h : w.rowIs g 50 n (fun p => .int .u64 (F p))) (hn : n ≤ 1000) : RdU w (.slice (some ⟨g, 0, none⟩) n n) ((List.range n).map F) := by
  refine ⟨some ⟨g, 0, none⟩, n, by simp, by simp; omega, .inr ⟨g, 0, rfl, fun i x hx => ?_⟩⟩
  have hi : i < n := by have := (List.getElem?_eq_some_iff.1 hx).1; simpa using this
  rw [List.getElem?_map, List.getElem?_range hi] at hx
  obtain rfl := Option.some.inj hx
  rw [Nat.zero_add]
  exact h.cell hi
def Mk' (p : Prop) : Prop := p
theorem mk_of' {p : Prop} (h : Mk' p) : p := h
theorem quiet_pastF {P : Program} {f : Nat} {args : Array Value} {v : Value} {w : World} {a n : Nat} (h : Calls P f args (w.drewN (a + n)) fun e w' => e = .returned v ∧ w' = w.drewN (a + n)) :
    Calls P f args (w.drewN (a + n)) fun e w'' => e = .returned v ∧ ∃ m, w'' = w.drewN (a + m) := h.mono fun _ _ ⟨he, hm⟩ => ⟨he, n, hm⟩
theorem infoU64 : (Tryz.prog.info? 50).map (fun i => (i.zero, i.size, i.bytes)) = some (some (.int .u64 0), 1, 8) := by kernel_rfl
set_option maxRecDepth 1000000 in
set_option maxHeartbeats 8000000 in
theorem frsame_any {w : World} {v1 v2 : Value} {l : List Int} (h1 : RdU w v1 l) (h2 : RdU w v2 l) :
    Calls Tryz.prog 31 #[v1, v2] w fun e w' => e = .returned (.bool true) ∧ Below w.heap.size w w' := by
  obtain ⟨a1, c1, rfl, hl, h1⟩ := h1
  obtain ⟨a2, c2, rfl, _, h2⟩ := h2
  have H1 := Lib.hid h1
  have H2 := Lib.hid h2
  clear h1 h2
  go_enter Tryz.func31, Tryz.ntmps31
  go_wp2_with fail
  go_loopg [5] l.length (fun m t wr => ∃ i : Nat, i + m = l.length ∧ t = .int .i64 (i : Int) ∧ Below w.heap.size w wr)
  case atStart => exact ⟨0, by omega, rfl, Below.refl _ _⟩
  case round =>
    obtain ⟨i, him, rfl, hbw⟩ := hrel
    have HIM := Lib.hid him
    have HBW := Lib.hid hbw
    clear him hbw
    by_cases hi : i < l.length
    · obtain ⟨x, hx, _⟩ := at_ofI hi
      have hne : l ≠ [] := by intro e; rw [e] at hi; simp at hi
      obtain ⟨b1, o1, rfl, hc1⟩ := H1.out.resolve_left hne
      obtain ⟨b2, o2, rfl, hc2⟩ := H2.out.resolve_left hne
      have q1 := (HBW.out.cell (p := ⟨b1, o1 + i, none⟩) (Lib.lt_of_cell (hc1 i x hx))).trans (hc1 i x hx)
      have q2 := (HBW.out.cell (p := ⟨b2, o2 + i, none⟩) (Lib.lt_of_cell (hc2 i x hx))).trans (hc2 i x hx)
      have hi0 : (0 : Int) ≤ (i : Int) := Int.natCast_nonneg _
      have hi1 : (i : Int) < (l.length : Int) := by omega
      have HI := Lib.hid hi
      clear hx hne hc1 hc2 H1 H2 hi
      go_wp2_with fail
      go_quiet (fail)
      go_wp2_with fail
      go_roundg (l.length - (i + 1))
      case measure => have := HIM.out; have := HI.out; omega
      case rel => exact ⟨i + 1, by have := HIM.out; have := HI.out; omega, by go_num, below_drewN HBW.out _⟩
    · go_wp2_with fail
      go_ret
      exact ⟨rfl, HBW.out⟩
end Go.Proofs.YtdllgeanmlmmfaaGreatDoor.Fr
namespace Go.Proofs.YtdllgeanmlmmfaaGreatDoor.Md
open Go.RowKit Gr Cl
set_option linter.unusedVariables false
set_option linter.unusedSimpArgs false
theorem told14_gok : GOk 1 [] [0] :=
  ⟨by decide, by decide, by decide, fun e he => by simp at he, chkV_ok (by decide) (by decide) (by decide) (fun e he => by simp at he) (by simp) (by decide) (InOk.snoc (l := []) (fun j p hj => absurd hj (by simp)) ⟨Int.le_refl _, by omega⟩ (by simp)) (no_round (fun e he => by simp at he) (fun e he => by simp at he))⟩
theorem told14_plan : (planV (1 : Int) [] [0] (1 : Int) 1 1 1).2 = 0 := by
  have h : (chkV (1 : Int) [] [0]).2 = 0 := by have := told14_gok.chk; rw [show ((1 : Nat) : Int) = 1 from rfl] at this; rw [this]
  unfold planV
  rw [if_neg (fun h' => h' h), if_neg (by decide), if_neg (by decide), if_neg (by decide), if_neg (by decide)]
theorem tmr_rdu {w : World} {n : Nat} {v : Value} {ts : List Int} (h : TmR w n v ts) (hl : ts.length ≤ 1000) : Fr.RdU w v ts := by
  obtain ⟨g, c, e, _, h2⟩ := h
  exact ⟨_, c, e, by omega, .inr ⟨g, 0, rfl, fun i x hx => by rw [Nat.zero_add]; exact h2 i x hx⟩⟩
theorem TmR.below {w w' : World} {n : Nat} {v : Value} {ts : List Int} (h : TmR w n v ts) (hb : Below w.heap.size w w') : TmR w' n v ts := by
  obtain ⟨g, c, e, h1, h2⟩ := h
  exact ⟨g, c, e, h1, fun j x hx => (hb.cell (p := ⟨g, j, none⟩) (Lib.lt_of_cell (h2 j x hx))).trans (h2 j x hx)⟩
set_option maxRecDepth 1000000 in
set_option maxHeartbeats 16000000 in
theorem mdTold_any {w : World} (hE : Fault.ErrType w) : Calls Tryz.prog 9 #[] w fun e w' => e = .returned (.bool true) ∧ Below w.heap.size w w' := by
  have HE := Lib.hid hE
  obtain ⟨w1, hw1⟩ : ∃ w1, w1 = (w.alloc (.cells #[.int .i64 0] 3)).alloc (.cells #[.int .i64 1, .slice none 0 0, .slice (some ⟨w.heap.size, 0, none⟩) 1 1, .int .i64 1, .int .i64 1, .int .i64 1, .int .i64 1] 35) := ⟨_, rfl⟩
  have hb1 : Below w.heap.size w w1 := by rw [hw1]; exact ((Below.refl _ _).alloc (Nat.le_refl _) _).alloc (by simp) _
  have HI := Lib.hid (show w1.heap[w.heap.size]? = some (.cells #[.int .i64 0] 3 (0, 0)) by rw [hw1, heap_alloc_old _ _ (by simp)]; exact heap_alloc_new w _)
  have HP := Lib.hid (show w1.heap[w.heap.size + 1]? = some (.cells #[.int .i64 1, .slice none 0 0, .slice (some ⟨w.heap.size, 0, none⟩) 1 1, .int .i64 1, .int .i64 1, .int .i64 1, .int .i64 1] 35 (0, 0)) by
    rw [hw1]; have h := heap_alloc_new (w.alloc (.cells #[.int .i64 0] 3)) (.cells #[.int .i64 1, .slice none 0 0, .slice (some ⟨w.heap.size, 0, none⟩) 1 1, .int .i64 1, .int .i64 1, .int .i64 1, .int .i64 1] 35); simpa using h)
  have hi : RdI w1 (.slice (some ⟨w.heap.size, 0, none⟩) 1 1) [0] := ⟨_, _, rfl, by decide, by decide, fun x hx => by simp at hx; subst hx; decide, .inr ⟨w.heap.size, 0, rfl, fun i x hx => by
    match i, hx with
    | 0, hx => simp at hx; subst hx; simp [World.cell?, HI.out]
    | k + 1, hx => simp at hx⟩⟩
  have HN := Lib.hid (mdNew_ok (w := w1) (p := 1) (T := 1) (E := []) (I := [0]) 1 1 1 (Rd.nil w1) hi told14_plan told14_gok (by decide) ⟨by decide, by decide⟩ ⟨by decide, by decide⟩)
  have HE1 := Lib.hid (show Fault.ErrType w1 from (hb1.cell (p := ⟨_, 0, none⟩) (Lib.lt_of_cell hE)).trans hE)
  have HB1 := Lib.hid hb1
  obtain ⟨y0, y1, y2, y3, y4, y5, y6⟩ := cells7 HP.out
  clear hE hb1 hi
  go_enter Tryz.func9, Tryz.ntmps9
  go_upto_region 2 with fail
  rw [← hw1]
  clear hw1
  go_wp2_with fail
  go_at_call 8
  refine HN.out.mono ?_
  rintro e v0 ⟨b, τ, M, rfl, ⟨c, tv, hmd⟩, hlm, ht0, hbb⟩
  have HLM := Lib.hid hlm
  have HT0 := Lib.hid (show T14 w1 v0 b (s0M M) from ⟨τ, c, tv, hmd, ht0, hbb⟩)
  clear y0 y1 y2 y3 y4 y5 y6 hmd hlm ht0 hbb
  go_wp2_with fail
  go_at_call 11
  refine (do1 HT0.out HE1.out).mono ?_
  rintro e v1 ⟨a1, k1, rfl, ht⟩
  have HT1 := Lib.hid ht
  clear ht
  go_wp2_with fail
  go_at_call 11
  refine (do2 HT1.out).mono ?_
  rintro e v2 ⟨a2, k2, rfl, ht⟩
  have HT2 := Lib.hid ht
  clear ht
  go_wp2_with fail
  go_at_call 11
  refine (do3 HT2.out).mono ?_
  rintro e v3 ⟨a3, k3, rfl, ht⟩
  have HT3 := Lib.hid ht
  clear ht
  go_wp2_with fail
  go_at_call 11
  refine (do4 HT3.out).mono ?_
  rintro e v4 ⟨a4, k4, rfl, ht⟩
  have HT4 := Lib.hid ht
  clear ht
  go_wp2_with fail
  go_at_call 11
  refine (do5 HT4.out HLM.out).mono ?_
  rintro e v5 ⟨a5, k5, rfl, htm, ht⟩
  obtain ⟨v6, hv6⟩ : ∃ v6, v6 = (v5.alloc (.cells #[.int .i64 0, .int .i64 0, .slice a5 1 k5] 48)) := ⟨_, rfl⟩
  have hb56 : Below v5.heap.size v5 v6 := by rw [hv6]; exact (Below.refl _ _).alloc (Nat.le_refl _) _
  obtain ⟨x0, x1, x2, _⟩ := three_cells (show v6.heap[v5.heap.size]? = some (.cells #[.int .i64 0, .int .i64 0, .slice a5 1 k5] 48 (0, 0)) by rw [hv6]; exact heap_alloc_new v5 _)
  have HT6 := Lib.hid (ht.below hb56)
  have HTM := Lib.hid (htm.below hb56)
  clear htm ht hb56
  go_upto_region 10 with fail
  rw [← hv6]
  clear hv6
  obtain ⟨v7, hv7⟩ : ∃ v7, v7 = v6.alloc (.cells #[.int .u64 5] 50) := ⟨_, rfl⟩
  have hb67 : Below v6.heap.size v6 v7 := by rw [hv7]; exact (Below.refl _ _).alloc (Nat.le_refl _) _
  have hn7 : v7.heap[v6.heap.size]? = some (.cells #[.int .u64 5] 50 (0, 0)) := by rw [hv7]; exact heap_alloc_new v6 _
  have hr1 : Fr.RdU v7 (.slice a5 1 k5) [5] := tmr_rdu (HTM.out.below hb67) (by decide)
  have hr2 : Fr.RdU v7 (.slice (some ⟨v6.heap.size, 0, none⟩) 1 1) [5] := ⟨_, 1, rfl, by decide, .inr ⟨v6.heap.size, 0, rfl, fun i x hx => by
    match i, hx with
    | 0, hx => simp at hx; subst hx; simp [World.cell?, hn7]
    | k + 1, hx => simp at hx⟩⟩
  have HSM := Lib.hid (Fr.frsame_any hr1 hr2)
  have HT7 := Lib.hid (HT6.out.below hb67)
  clear hb67 hn7 hr1 hr2
  go_wp2_with fail
  go_at_call 31
  rw [← hv7]
  clear hv7
  refine HSM.out.mono ?_
  rintro e v8 ⟨rfl, hb8⟩
  have HT8 := Lib.hid (HT7.out.below hb8)
  clear hb8 x0 x1 x2
  have hfd : ∀ (n er : Int) (a : Option Addr) (k c : Nat) (W : World), (Instr.field 48 (.agg #[.int .i64 n, .int .i64 er, .slice a k c]) 0).run Tryz.prog W = .ok (.int .i64 n) W := by
    intro n er a k c W
    first | kernel_rfl | simp [Instr.field, part, asAgg, go_sem]
  have hfe : ∀ (n er : Int) (a : Option Addr) (k c : Nat) (W : World), (Instr.field 48 (.agg #[.int .i64 n, .int .i64 er, .slice a k c]) 1).run Tryz.prog W = .ok (.int .i64 er) W := by
    intro n er a k c W
    first | kernel_rfl | simp [Instr.field, part, asAgg, go_sem]
  go_wp2_with fail
  go_at_call 11
  refine (do6 HT8.out HLM.out 4 1 (by decide)).mono ?_
  rintro e v9 ⟨a9, k9, rfl, ht⟩
  have HT9 := Lib.hid ht
  clear ht
  go_wp2_with fail
  go_at_call 11
  refine (do6 HT9.out HLM.out 5 0 (by decide)).mono ?_
  rintro e v10 ⟨a10, k10, rfl, ht⟩
  have HT10 := Lib.hid ht
  clear ht
  go_wp2_with fail
  go_at_call 11
  refine (do7 HT10.out HE1.out).mono ?_
  rintro e v11 ⟨a11, k11, rfl, ht⟩
  have HT11 := Lib.hid ht
  clear ht
  go_wp2_with fail
  go_ret
  exact ⟨rfl, HB1.out.trans (HT11.out.out.mono HB1.out.size)⟩
end Go.Proofs.YtdllgeanmlmmfaaGreatDoor.Md
namespace Go.Proofs.YtdllgeanmlmmfaaGreatDoor.Md
open Go.RowKit Gr Fault
set_option linter.unusedVariables false
set_option linter.unusedSimpArgs false

set_option maxRecDepth 1000000 in
set_option maxHeartbeats 8000000 in
theorem mdRefRing_any (R : Int) (w : World) : Calls Tryz.prog 27 #[.int .i64 R] w fun e w' => e = .returned (.bool (ringB R)) ∧ w' = w := by
  by_cases h1 : R = 1
  · subst h1
    go_enter Tryz.func27, Tryz.ntmps27
    go_wp2_with fail
    go_ret
    exact ⟨rfl, rfl⟩
  have d1 : (R == 1) = false := by simp [h1]
  by_cases h2 : R = 2
  · subst h2
    go_enter Tryz.func27, Tryz.ntmps27
    go_wp2_with fail
    go_ret
    exact ⟨rfl, rfl⟩
  have d2 : (R == 2) = false := by simp [h2]
  by_cases h4 : R = 4
  · subst h4
    go_enter Tryz.func27, Tryz.ntmps27
    go_wp2_with fail
    go_ret
    exact ⟨rfl, rfl⟩
  have d4 : (R == 4) = false := by simp [h4]
  by_cases h8 : R = 8
  · subst h8
    go_enter Tryz.func27, Tryz.ntmps27
    go_wp2_with fail
    go_ret
    exact ⟨rfl, rfl⟩
  have d8 : (R == 8) = false := by simp [h8]
  by_cases h16 : R = 16
  · subst h16
    go_enter Tryz.func27, Tryz.ntmps27
    go_wp2_with fail
    go_ret
    exact ⟨rfl, rfl⟩
  have d16 : (R == 16) = false := by simp [h16]
  by_cases h32 : R = 32
  · subst h32
    go_enter Tryz.func27, Tryz.ntmps27
    go_wp2_with fail
    go_ret
    exact ⟨rfl, rfl⟩
  have d32 : (R == 32) = false := by simp [h32]
  by_cases h64 : R = 64
  · subst h64
    go_enter Tryz.func27, Tryz.ntmps27
    go_wp2_with fail
    go_ret
    exact ⟨rfl, rfl⟩
  have d64 : (R == 64) = false := by simp [h64]
  have HR := Lib.hid (show ringB R = false from by simp [ringB, h1, h2, h4, h8, h16, h32, h64])
  clear h1 h2 h4 h8 h16 h32 h64
  go_enter Tryz.func27, Tryz.ntmps27
  go_wp2_with fail
  go_ret
  exact ⟨by rw [HR.out]; rfl, rfl⟩

set_option maxRecDepth 1000000 in
set_option maxHeartbeats 16000000 in
theorem mdRef_any {w : World} {ve vi : Value} {E : List Ed} {I : List Int} (n T R S K : Int) (hv : Rd w ve E) (hi : RdI w vi I) :
    Calls Tryz.prog 7 #[.agg #[.int .i64 n, ve, vi, .int .i64 T, .int .i64 R, .int .i64 S, .int .i64 K]] w fun e w' => ∃ v, e = .returned (.tuple #[v, .int .i64 (planV n E I T R S K).2]) ∧ RdP w' v (planV n E I T R S K).1 ∧ Below w.heap.size w w' := by
  have HV := Lib.hid hv
  have HI := Lib.hid hi
  obtain ⟨ao, cap, rfl, _⟩ := hv
  obtain ⟨aoi, capi, rfl, _⟩ := hi
  obtain ⟨w1, hw1⟩ : ∃ w1, w1 = w.alloc (.cells #[.int .i64 n, .slice ao E.length cap, .slice aoi I.length capi, .int .i64 T, .int .i64 R, .int .i64 S, .int .i64 K] 27) := ⟨_, rfl⟩
  have HX := Lib.hid (show w1.heap[w.heap.size]? = some (.cells #[.int .i64 n, .slice ao E.length cap, .slice aoi I.length capi, .int .i64 T, .int .i64 R, .int .i64 S, .int .i64 K] 27 (0, 0)) by rw [hw1]; exact heap_alloc_new w _)
  have HB := Lib.hid (show Below w.heap.size w w1 by rw [hw1]; exact (Below.refl _ _).alloc (Nat.le_refl _) _)
  have hs1 : w.heap.size < w1.heap.size := (Array.getElem?_eq_some_iff.1 HX.out).1
  go_enter Tryz.func7, Tryz.ntmps7
  go_upto_region 1 with fail
  rw [← hw1]
  clear hw1
  obtain ⟨y0, y1, y2, y3, y4, y5, y6⟩ := cells7 HX.out
  go_wp2_with fail
  go_at_call 26
  refine (refcheck_any n (HV.out.below HB.out) (HI.out.below HB.out)).mono ?_
  rintro e w2 ⟨v, k, rfl, hR, hk, hb⟩
  have hx2 := (hb.block _ hs1).trans HX.out
  have HB2 := Lib.hid (HB.out.trans (hb.mono HB.out.size))
  have HRP := Lib.hid hR
  clear y0 y1 y2 y3 y4 y5 y6 hs1 hb HV HI
  obtain ⟨y0, y1, y2, y3, y4, y5, y6⟩ := cells7 hx2
  clear hx2 HX HB hR
  by_cases hk0 : k = 0
  · have HK := Lib.hid (show (chkV n E I).2 = 0 by rw [← hk]; exact hk0)
    subst hk0
    clear hk
    by_cases ht1 : T < 1
    · have dt1 : decide (T < 1) = true := decide_eq_true ht1
      have HP := Lib.hid (show planV n E I T R S K = ([(⟨#[116, 104, 114, 101, 97, 100, 115]⟩, T)], 1) from by rw [planV, if_neg (by rw [HK.out]; decide), if_pos (.inl ht1)])
      go_wp2_with fail
      refine bodyPost_ret (v := .tuple #[.slice (some ⟨w2.heap.size, 0, none⟩) 1 1, .int .i64 1]) (by simp [results, Tryz.results7, go_sem]) rfl ⟨_, by rw [HP.out], by rw [HP.out]; exact rdp_one w2 _ _ _, HB2.out.alloc (HB2.out.size) _⟩
    have dt1 : decide (T < 1) = false := decide_eq_false ht1
    by_cases ht2 : 8 < T
    · have dt2 : decide (8 < T) = true := decide_eq_true ht2
      have HP := Lib.hid (show planV n E I T R S K = ([(⟨#[116, 104, 114, 101, 97, 100, 115]⟩, T)], 1) from by rw [planV, if_neg (by rw [HK.out]; decide), if_pos (.inr ht2)])
      go_wp2_with fail
      refine bodyPost_ret (v := .tuple #[.slice (some ⟨w2.heap.size, 0, none⟩) 1 1, .int .i64 1]) (by simp [results, Tryz.results7, go_sem]) rfl ⟨_, by rw [HP.out], by rw [HP.out]; exact rdp_one w2 _ _ _, HB2.out.alloc (HB2.out.size) _⟩
    have dt2 : decide (8 < T) = false := decide_eq_false ht2
    go_wp2_with fail
    go_at_call 27
    refine (mdRefRing_any R _).mono ?_
    cases hR : ringB R with
    | false =>
      rintro e w3 ⟨rfl, rfl⟩
      have HP := Lib.hid (show planV n E I T R S K = ([(⟨#[114, 105, 110, 103]⟩, R)], 1) from by rw [planV, if_neg (by rw [HK.out]; decide), if_neg (by omega), if_pos hR])
      go_wp2_with fail
      refine bodyPost_ret (v := .tuple #[.slice (some ⟨w3.heap.size, 0, none⟩) 1 1, .int .i64 1]) (by simp [results, Tryz.results7, go_sem]) rfl ⟨_, by rw [HP.out], by rw [HP.out]; exact rdp_one w3 _ _ _, HB2.out.alloc (HB2.out.size) _⟩
    | true =>
      rintro e w3 ⟨rfl, rfl⟩
      by_cases hs1 : S < 1
      · have ds1 : decide (S < 1) = true := decide_eq_true hs1
        have HP := Lib.hid (show planV n E I T R S K = ([(⟨#[115, 104, 97, 114, 100, 115]⟩, S)], 1) from by rw [planV, if_neg (by rw [HK.out]; decide), if_neg (by omega), if_neg (by rw [hR]; decide), if_pos (.inl hs1)])
        go_wp2_with fail
        refine bodyPost_ret (v := .tuple #[.slice (some ⟨w3.heap.size, 0, none⟩) 1 1, .int .i64 1]) (by simp [results, Tryz.results7, go_sem]) rfl ⟨_, by rw [HP.out], by rw [HP.out]; exact rdp_one w3 _ _ _, HB2.out.alloc (HB2.out.size) _⟩
      have ds1 : decide (S < 1) = false := decide_eq_false hs1
      by_cases hs2 : 8 < S
      · have ds2 : decide (8 < S) = true := decide_eq_true hs2
        have HP := Lib.hid (show planV n E I T R S K = ([(⟨#[115, 104, 97, 114, 100, 115]⟩, S)], 1) from by rw [planV, if_neg (by rw [HK.out]; decide), if_neg (by omega), if_neg (by rw [hR]; decide), if_pos (.inr hs2)])
        go_wp2_with fail
        refine bodyPost_ret (v := .tuple #[.slice (some ⟨w3.heap.size, 0, none⟩) 1 1, .int .i64 1]) (by simp [results, Tryz.results7, go_sem]) rfl ⟨_, by rw [HP.out], by rw [HP.out]; exact rdp_one w3 _ _ _, HB2.out.alloc (HB2.out.size) _⟩
      have ds2 : decide (8 < S) = false := decide_eq_false hs2
      by_cases hk1 : K < 1
      · have dk1 : decide (K < 1) = true := decide_eq_true hk1
        have HP := Lib.hid (show planV n E I T R S K = ([(⟨#[116, 114, 105, 101, 115]⟩, K)], 1) from by rw [planV, if_neg (by rw [HK.out]; decide), if_neg (by omega), if_neg (by rw [hR]; decide), if_neg (by omega), if_pos (.inl hk1)])
        go_wp2_with fail
        refine bodyPost_ret (v := .tuple #[.slice (some ⟨w3.heap.size, 0, none⟩) 1 1, .int .i64 1]) (by simp [results, Tryz.results7, go_sem]) rfl ⟨_, by rw [HP.out], by rw [HP.out]; exact rdp_one w3 _ _ _, HB2.out.alloc (HB2.out.size) _⟩
      have dk1 : decide (K < 1) = false := decide_eq_false hk1
      by_cases hk2 : 8 < K
      · have dk2 : decide (8 < K) = true := decide_eq_true hk2
        have HP := Lib.hid (show planV n E I T R S K = ([(⟨#[116, 114, 105, 101, 115]⟩, K)], 1) from by rw [planV, if_neg (by rw [HK.out]; decide), if_neg (by omega), if_neg (by rw [hR]; decide), if_neg (by omega), if_pos (.inr hk2)])
        go_wp2_with fail
        refine bodyPost_ret (v := .tuple #[.slice (some ⟨w3.heap.size, 0, none⟩) 1 1, .int .i64 1]) (by simp [results, Tryz.results7, go_sem]) rfl ⟨_, by rw [HP.out], by rw [HP.out]; exact rdp_one w3 _ _ _, HB2.out.alloc (HB2.out.size) _⟩
      have dk2 : decide (8 < K) = false := decide_eq_false hk2
      have HP := Lib.hid (show planV n E I T R S K = ([], 0) from by rw [planV, if_neg (by rw [HK.out]; decide), if_neg (by omega), if_neg (by rw [hR]; decide), if_neg (by omega), if_neg (by omega)])
      go_wp2_with fail
      refine bodyPost_ret (v := .tuple #[.slice none 0 0, .int .i64 0]) (by simp [results, Tryz.results7, go_sem]) rfl ⟨_, by rw [HP.out], by rw [HP.out]; exact RdP.nil _, HB2.out⟩
  · have HP := Lib.hid (show planV n E I T R S K = chkV n E I from if_pos (by rw [← hk]; exact hk0))
    have hkb : (k != 0) = true := by simp [hk0]
    have HKK := Lib.hid hk
    clear hk hk0
    go_wp2_with fail
    refine bodyPost_ret (v := .tuple #[v, .int .i64 k]) (by simp [results, Tryz.results7, go_sem]) rfl ⟨_, by rw [HP.out, ← HKK.out], by rw [HP.out]; exact HRP.out, HB2.out⟩
end Go.Proofs.YtdllgeanmlmmfaaGreatDoor.Md
