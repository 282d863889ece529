/-
  PACKAGE marchlandref06: Of and Same.
  PACKAGE front: a Reach in memory; New, Fronts, Bag, Apply.
  PACKAGE marchlandref03: Right.
  PACKAGE marchlandlaw03: told.
  PACKAGE marchlandlaw04: told.
  PACKAGE marchlandlaw06: told.
  FOR THE LAWS OF PACKAGE marchlandlaw06: what they share.
-/
import Derived.Test.YtlkljeedlkbkgaaGreatDoorJoined7
import Derived.Test.YtlkljeedlkbkgaaGreatDoorGClosed
import Derived.Test.YtlkljeedlkbkgaaGreatDoorGTo
import Derived.Deep.QuietTactic
import Derived.BigQuiet
import Derived.Test.YtlkljeedlkbkgaaGreatDoorJoined23
import Derived.Test.YtlkljeedlkbkgaaGreatDoorGPaths
import Derived.Test.YtlkljeedlkbkgaaGreatDoorJoined15
import Derived.Test.YtlkljeedlkbkgaaGreatDoorJoined4
import Derived.StillTailTactics
import Derived.Test.YtlkljeedlkbkgaaGreatDoorBatchRefSums
import Derived.Test.YtlkljeedlkbkgaaGreatDoorJoined5
import Derived.Test.YtlkljeedlkbkgaaGreatDoorJoined6
import Derived.Test.YtlkljeedlkbkgaaGreatDoorJoined14
import Derived.Test.YtlkljeedlkbkgaaGreatDoorBagFind
import Derived.Test.YtlkljeedlkbkgaaGreatDoorGFix
import Derived.Test.YtlkljeedlkbkgaaGreatDoorJoined8
namespace Go.Proofs.YtlkljeedlkbkgaaGreatDoor.Fr
open Go.RowKit Go.Deep Gr
set_option linter.unusedVariables false
set_option linter.unusedSimpArgs false

def ul (l : List Int) : List Value := l.map fun x => .int .u64 x
theorem ul_one (l : List Int) : ∀ u ∈ ul l, u.oneCell' = true := by
  intro u hu
  unfold ul at hu
  obtain ⟨x, _, rfl⟩ := List.mem_map.1 hu
  rfl
theorem ul_at {l : List Int} {i : Nat} {x : Int} (h : l[i]? = some x) : (ul l)[i]? = some (.int .u64 x) := by unfold ul; rw [List.getElem?_map, h]; rfl
theorem ul_snoc (l : List Int) (x : Int) : ul (l ++ [x]) = ul l ++ [.int .u64 x] := by unfold ul; simp
/-- Times in memory, as they read. -/
def RdU (w : World) (v : Value) (l : List Int) : Prop := ∃ (ao : Option Addr) (cap : Nat), v = .slice ao l.length cap ∧ l.length ≤ 9223372036854775807 ∧ (l = [] ∨ ∃ b off, ao = some ⟨b, off, none⟩ ∧ ∀ (i : Nat) (x : Int), l[i]? = some x → w.cell? ⟨b, off + i, none⟩ = some (.int .u64 x))
theorem RdU.below {w w' : World} {v : Value} {l : List Int} (h : RdU w v l) (hw : Below w.heap.size w w') : RdU w' v l := by
  obtain ⟨ao, cap, rfl, h1, h4⟩ := h
  refine ⟨ao, cap, rfl, h1, ?_⟩
  rcases h4 with h4 | ⟨b, off, ha, h4⟩
  · exact .inl h4
  · exact .inr ⟨b, off, ha, fun i x hx => (hw.cell (p := ⟨b, off + i, none⟩) (Lib.lt_of_cell (h4 i x hx))).trans (h4 i x hx)⟩
/-- .. of the call's own. -/
def OwnU (w : World) (base : Nat) (T : TypeId) (v : Value) (l : List Int) : Prop := w.ownsRow base T 1 v l.length (ul l)
theorem OwnU.rd {w : World} {base : Nat} {T : TypeId} {v : Value} {l : List Int} (h : OwnU w base T v l) : RdU w v l := by
  have h0 := h
  rcases h.2 with ⟨rfl, hn⟩ | ⟨g, cap, cur, rfl, hb, hg, hc, hm, _⟩
  · obtain rfl := List.length_eq_zero_iff.1 hn
    exact ⟨none, 0, rfl, by simp, .inl rfl⟩
  · refine ⟨some ⟨g, 0, none⟩, cap, rfl, by unfold maxLen at hm; omega, .inr ⟨g, 0, rfl, fun i x hx => ?_⟩⟩
    have := World.ownsRow.cells h0 (g := g) rfl i _ (ul_at hx)
    rw [show ((⟨g, 0, none⟩ : Addr).add i) = ⟨g, 0 + i, none⟩ by unfold Addr.add; split <;> simp_all] at this
    exact this
theorem OwnU.form {w : World} {base : Nat} {T : TypeId} {v : Value} {l : List Int} (h : OwnU w base T v l) : ∃ ao cap, v = .slice ao l.length cap := by
  rcases h.2 with ⟨rfl, hn⟩ | ⟨g, cap, cur, rfl, _⟩
  · exact ⟨none, 0, by rw [hn]⟩
  · exact ⟨_, _, rfl⟩
theorem OwnU.below {w w' : World} {base : Nat} {T : TypeId} {v : Value} {l : List Int} (h : OwnU w base T v l) (hw : Below w.heap.size w w') : OwnU w' base T v l := by
  refine ⟨h.1, ?_⟩
  rcases h.2 with h2 | ⟨g, cap, cur, rfl, hb, hg, rest⟩
  · exact .inl h2
  · exact .inr ⟨g, cap, cur, rfl, hb, (hw.block g (Array.getElem?_eq_some_iff.1 hg).1).trans hg, rest⟩
/-- A row as it reads. -/
theorem rdu_row {w : World} {g n : Nat} {F : Nat → Int} (h : w.rowIs g 36 n (fun p => .int .u64 (F p))) (hn : n ≤ 1000) : RdU w (.slice (some ⟨g, 0, none⟩) n n) ((List.range n).map F) := by
  refine ⟨some ⟨g, 0, none⟩, n, by simp, by simp; omega, .inr ⟨g, 0, rfl, fun i x hx => ?_⟩⟩
  have hi : i < n := by have := (List.getElem?_eq_some_iff.1 hx).1; simpa using this
  rw [List.getElem?_map, List.getElem?_range hi] at hx
  obtain rfl := Option.some.inj hx
  rw [Nat.zero_add]
  exact h.cell hi
def Mk' (p : Prop) : Prop := p
theorem mk_of' {p : Prop} (h : Mk' p) : p := h
theorem quiet_pastF {P : Program} {f : Nat} {args : Array Value} {v : Value} {w : World} {a n : Nat} (h : Calls P f args (w.drewN (a + n)) fun e w' => e = .returned v ∧ w' = w.drewN (a + n)) :
    Calls P f args (w.drewN (a + n)) fun e w'' => e = .returned v ∧ ∃ m, w'' = w.drewN (a + m) := h.mono fun _ _ ⟨he, hm⟩ => ⟨he, n, hm⟩
theorem infoU64 : (Tryz.prog.info? 36).map (fun i => (i.zero, i.size, i.bytes)) = some (some (.int .u64 0), 1, 8) := by kernel_rfl
end Go.Proofs.YtlkljeedlkbkgaaGreatDoor.Fr
namespace Go.Proofs.YtlkljeedlkbkgaaGreatDoor.Fr
open Go.RowKit Go.Deep Gr
set_option linter.unusedVariables false
set_option linter.unusedSimpArgs false

theorem two_cells {w : World} {G : Nat} {x y : Value} {T : TypeId} (h : w.heap[G]? = some (.cells #[x, y] T (0, 0))) : w.cell? ⟨G, 0, none⟩ = some x ∧ w.cell? ⟨G, 1, none⟩ = some y ∧ ∀ o, w.frozen? ⟨G, o, none⟩ = false := by
  refine ⟨?_, ?_, fun o => ?_⟩
  · simp [World.cell?, h]
  · simp [World.cell?, h]
  · simp [World.frozen?, h]
/-- What Apply answers. -/
noncomputable def applyF (n : Nat) (B C : List Batch.Ch) : Int := if Batch.rightB C = true then (if C.any (fun x => decide ((n : Int) ≤ x.p)) = true then 2 else Batch.applyE B C) else 1
theorem applyF_wrong {n : Nat} {B C : List Batch.Ch} (h : Batch.rightB C = false) : applyF n B C = 1 := by unfold applyF; rw [h]; rfl
theorem applyF_port {n : Nat} {B C : List Batch.Ch} (h : Batch.rightB C = true) {x : Batch.Ch} (hx : x ∈ C) (hp : (n : Int) ≤ x.p) : applyF n B C = 2 := by
  unfold applyF
  rw [if_pos h, if_pos (List.any_eq_true.2 ⟨x, hx, decide_eq_true hp⟩)]
theorem applyF_ok {n : Nat} {B C : List Batch.Ch} (h : Batch.rightB C = true) (hp : ∀ x ∈ C, x.p < (n : Int)) : applyF n B C = Batch.applyE B C := by
  unfold applyF
  rw [if_pos h, if_neg]
  intro h2
  obtain ⟨x, hx, hd⟩ := List.any_eq_true.1 h2
  have := of_decide_eq_true hd
  have := hp x hx
  omega
/-- What Apply leaves. -/
def RApply (w : World) (b n : Nat) (B C : List Batch.Ch) (e : Ending) (w' : World) : Prop := ∃ (w1 : World) (u : Value), Below w.heap.size w w1 ∧ e = .returned (.int .i64 (applyF n B C)) ∧
  ((applyF n B C ≠ 0 ∧ w' = w1) ∨ (applyF n B C = 0 ∧ Batch.Own w1 w.heap.size 72 u (Batch.applyR B C) ∧ w' = w1.setCell ⟨b, 1, none⟩ u))
end Go.Proofs.YtlkljeedlkbkgaaGreatDoor.Fr
namespace Go.Proofs.YtlkljeedlkbkgaaGreatDoor.Batch
open Go.RowKit
set_option linter.unusedVariables false

theorem beforeB_any (x y : Ch) (w : World) : Calls Tryz.prog 139 #[x.agg, y.agg] w fun e w' => e = .returned (.bool (ltB x y)) ∧ Below w.heap.size w w' := before_any x y w

end Go.Proofs.YtlkljeedlkbkgaaGreatDoor.Batch
namespace Go.Proofs.YtlkljeedlkbkgaaGreatDoor.Batch
open Go.RowKit
set_option linter.unusedVariables false

theorem sl_new (w : World) (L : List Ch) (T : TypeId) (hw : ∀ x ∈ L, x.Wf) (hl : L.length ≤ 100000) : Sl (w.alloc (.cells (cellsL L).toArray T)) (.slice (some ⟨w.heap.size, 0, none⟩) L.length L.length) L := by
  have hat : ∀ j, (w.alloc (.cells (cellsL L).toArray T)).cell? ⟨w.heap.size, j, none⟩ = (cellsL L)[j]? := by
    intro j
    have h := heap_alloc_new w (.cells (cellsL L).toArray T)
    unfold World.cell?
    simp only [h]
    simp
  refine ⟨_, _, rfl, .inr ⟨w.heap.size, 0, rfl, fun i x hx => ?_⟩, Nat.le_refl _, by omega, hw⟩
  have h0 := cellsL_at hx 0 (by omega)
  have h1 := cellsL_at hx 1 (by omega)
  have h2 := cellsL_at hx 2 (by omega)
  rw [Nat.zero_add]
  exact ⟨(hat _).trans h0, (hat _).trans h1, (hat _).trans h2⟩
def T1 : List Ch := [⟨1, 5, 2⟩, ⟨0, 7, 1⟩, ⟨1, 5, -2⟩]
def T2 : List Ch := [⟨64, 0, 0⟩]
def T3 : List Ch := [⟨0, 7, 1⟩]
theorem t1_wf : ∀ x ∈ T1, x.Wf := by
  intro x hx
  unfold T1 at hx
  simp at hx
  rcases hx with rfl | rfl | rfl <;> exact ⟨by decide, by decide, by decide, by decide, by decide, by decide⟩
theorem t2_wf : ∀ x ∈ T2, x.Wf := by
  intro x hx
  unfold T2 at hx
  simp at hx
  subst hx
  exact ⟨by decide, by decide, by decide, by decide, by decide, by decide⟩
theorem t3_wf : ∀ x ∈ T3, x.Wf := by
  intro x hx
  unfold T3 at hx
  simp at hx
  subst hx
  exact ⟨by decide, by decide, by decide, by decide, by decide, by decide⟩
theorem t1_pack : packE T1 = 0 ∧ packR T1 = T3 := ⟨by kernel_rfl, by kernel_rfl⟩
theorem t2_pack : packE T2 = 2 := by kernel_rfl
theorem t3_tot : tot T3 0 7 = 1 := by kernel_rfl
theorem t3_right : RightP T3 := by
  unfold T3
  refine ⟨fun x hx => ?_, by simp⟩
  simp at hx
  subst hx
  exact ⟨by decide, by decide⟩

theorem sameB_any {w : World} {v1 v2 : Value} {a b : List Ch} (h1 : Sl w v1 a) (h2 : Sl w v2 b) :
    Calls Tryz.prog 19 #[v1, v2] w fun e w' => e = .returned (.bool (eqL a b)) ∧ Below w.heap.size w w' :=
  (same_any h1 h2).mono fun e w' ⟨he, q, hq⟩ => ⟨he, by rw [hq]; exact below_drewN (Below.refl _ _) q⟩
end Go.Proofs.YtlkljeedlkbkgaaGreatDoor.Batch
namespace Go.Proofs.YtlkljeedlkbkgaaGreatDoor.Batch
open Go.RowKit
set_option linter.unusedVariables false

def U1 : List Ch := [⟨1, 5, 2⟩, ⟨1, 9, 1⟩]
def U2 : List Ch := [⟨1, 5, -2⟩]
def U3 : List Ch := [⟨1, 9, 1⟩]
def U4 : List Ch := [⟨1, 5, -1⟩]
theorem wf_small {x : Ch} (h0 : 0 ≤ x.p ∧ x.p ≤ 63) (h1 : 0 ≤ x.t ∧ x.t ≤ 1000) (h2 : -1000 ≤ x.d ∧ x.d ≤ 1000) : x.Wf := ⟨by omega, by omega, by omega, by omega, by omega, by omega⟩
theorem u1_wf : ∀ x ∈ U1, x.Wf := by
  intro x hx
  unfold U1 at hx
  simp at hx
  rcases hx with rfl | rfl <;> exact wf_small (by decide) (by decide) (by decide)
theorem u2_wf : ∀ x ∈ U2, x.Wf := by
  intro x hx
  unfold U2 at hx
  simp at hx
  subst hx
  exact wf_small (by decide) (by decide) (by decide)
theorem u3_wf : ∀ x ∈ U3, x.Wf := by
  intro x hx
  unfold U3 at hx
  simp at hx
  subst hx
  exact wf_small (by decide) (by decide) (by decide)
theorem u4_wf : ∀ x ∈ U4, x.Wf := by
  intro x hx
  unfold U4 at hx
  simp at hx
  subst hx
  exact wf_small (by decide) (by decide) (by decide)
theorem u1_right : RightP U1 := by
  unfold U1
  refine ⟨fun x hx => ?_, by simp [Lt]⟩
  simp at hx
  rcases hx with rfl | rfl <;> exact ⟨by decide, by decide⟩
theorem one_right {x : Ch} (h : wrongN x = 0) (h0 : x.d ≠ 0) : RightP [x] := ⟨fun y hy => by simp at hy; subst hy; exact ⟨h, h0⟩, by simp⟩
theorem u2_right : RightP U2 := one_right (by decide) (by decide)
theorem u3_right : RightP U3 := one_right (by decide) (by decide)
theorem u4_right : RightP U4 := one_right (by decide) (by decide)
theorem u_a : applyE U1 U2 = 0 ∧ applyR U1 U2 = U3 := ⟨by kernel_rfl, by kernel_rfl⟩
theorem u_b : applyE U3 U4 = 11 ∧ applyR U3 U4 = [] := ⟨by kernel_rfl, by kernel_rfl⟩
theorem u_l1 : leastL U1 1 = 5 := by kernel_rfl
theorem u_l2 : leastL U3 1 = 9 := by kernel_rfl
theorem u_l3 : leastL U3 0 = 18446744073709551615 := by kernel_rfl
theorem u_p : posB U1 = true := by kernel_rfl

end Go.Proofs.YtlkljeedlkbkgaaGreatDoor.Batch
namespace Go.Proofs.YtlkljeedlkbkgaaGreatDoor.Fr
open Go.RowKit Go.Deep Gr
set_option linter.unusedVariables false
set_option linter.unusedSimpArgs false

theorem front_one {x : Batch.Ch} {M : Nat → Nat → Int} {n p : Nat} {v : Int} (h : FrontU [x] M n p v) (h0 : 0 ≤ x.p) (h1 : x.p < n) (hle : plusN x.t (M x.p.toNat p) ≤ 18446744073709551615) : v = plusN x.t (M x.p.toNat p) := by
  have h2 := h.2.1 x (by simp) h0 h1
  rcases h.2.2 with e | ⟨y, hy, _, _, e⟩
  · omega
  · simp at hy; subst hy; exact e
/-! the document's own little graph -/
def TG : List Ed := [⟨0, 1, 3⟩]
theorem tg_wf : ∀ x ∈ TG, x.Wf := by
  intro x hx
  unfold TG at hx
  simp at hx
  subst hx
  exact ⟨by decide, by decide, by decide, by decide, by decide, by decide⟩
theorem tg_fits : Fits TG 2 := by
  intro x hx
  unfold TG at hx
  simp at hx
  subst hx
  exact ⟨by decide, by decide, by decide, by decide, by decide, by decide⟩
theorem zeroF_ok (n : Int) (h : 1 ≤ n) : InOk n [0] ([0] : List Int).length := InOk.snoc (l := []) (fun j p hj => absurd hj (by simp)) ⟨Int.le_refl _, by omega⟩ (by simp)
theorem tg_rise : ∀ e ∈ TG, e.f < e.t ∨ 1 ≤ e.a := by
  intro x hx
  unfold TG at hx
  simp at hx
  subst hx
  decide
theorem tg_ok : GOk 2 TG [0] :=
  ⟨by decide, by decide, by decide, tg_fits, chkV_ok (by decide) (by decide) (by decide) tg_fits (by simp) (by decide) (zeroF_ok _ (by decide)) (no_round (fun e he => (tg_fits e he).2.2.2.2.1) tg_rise)⟩
theorem tg_paths {M : Nat → Nat → Int} (h : LeastM TG true 2 M) : M 0 0 = 0 ∧ M 0 1 = 3 := by
  have h00 := h 0 0 (by decide) (by decide)
  have h01 := h 0 1 (by decide) (by decide)
  have e0 : (⟨0, 1, 3⟩ : Ed) ∈ TG := by unfold TG; simp
  have a1 := h01.2 [⟨0, 1, 3⟩] (Way.edge (z := true) e0)
  refine ⟨h00.one (least_here tg_fits 0), ?_⟩
  have a2 : cost [(⟨0, 1, 3⟩ : Ed)] = 3 := rfl
  rw [a2] at a1
  rcases h01.1.2 with e | ⟨es, hw, hc⟩
  · omega
  · cases es with
    | nil =>
      have := hw.1
      exact absurd this (by show ¬ ((0 : Nat) : Int) = ((1 : Nat) : Int); decide)
    | cons x r =>
      obtain ⟨hm, _, hr⟩ := hw.1
      have h2 := cost_nonneg tg_fits (chn_mem hr)
      unfold TG at hm
      simp at hm
      subst hm
      unfold cost at hc
      dsimp only at hc
      omega
theorem m_bd {E : List Ed} {n : Nat} {M : Nat → Nat → Int} (h : LeastM E true n M) : ∀ i j, i < n → j < n → 0 ≤ M i j ∧ M i j ≤ 18446744073709551615 := fun i j hi hj => (h i j hi hj).1.1
def TB : List Batch.Ch := [⟨0, 5, 1⟩]
def TC : List Batch.Ch := [⟨2, 0, 1⟩]
theorem tb_wf : ∀ x ∈ TB, x.Wf := by
  intro x hx
  unfold TB at hx
  simp at hx
  subst hx
  exact Batch.wf_small ⟨by decide, by decide⟩ ⟨by decide, by decide⟩ ⟨by decide, by decide⟩
theorem tc_wf : ∀ x ∈ TC, x.Wf := by
  intro x hx
  unfold TC at hx
  simp at hx
  subst hx
  exact Batch.wf_small ⟨by decide, by decide⟩ ⟨by decide, by decide⟩ ⟨by decide, by decide⟩
theorem tb_right : Batch.RightP TB := Batch.one_right (by decide) (by decide)
theorem tc_right : Batch.RightP TC := Batch.one_right (by decide) (by decide)
theorem nil_right : Batch.RightP [] := ⟨fun x h => by simp at h, by simp⟩
theorem tb_app : Batch.applyE [] TB = 0 ∧ Batch.applyR [] TB = TB := ⟨by kernel_rfl, by kernel_rfl⟩
theorem f_tb : applyF 2 [] TB = 0 := (applyF_ok (Batch.rightB_true tb_right) (fun x hx => by unfold TB at hx; simp at hx; subst hx; decide)).trans tb_app.1
theorem f_tc : applyF 2 TB TC = 2 := applyF_port (x := ⟨2, 0, 1⟩) (Batch.rightB_true tc_right) (by unfold TC; simp) (by decide)
theorem rdu_two {w : World} {T : TypeId} (a b : Int) : RdU (w.alloc (.cells #[.int .u64 a, .int .u64 b] T)) (.slice (some ⟨w.heap.size, 0, none⟩) 2 2) [a, b] := by
  refine ⟨_, _, rfl, by simp, .inr ⟨w.heap.size, 0, rfl, fun i x hx => ?_⟩⟩
  obtain ⟨q0, q1, _⟩ := two_cells (heap_alloc_new w (.cells #[.int .u64 a, .int .u64 b] T))
  match i, hx with
  | 0, hx => simp at hx; subst hx; exact q0
  | 1, hx => simp at hx; subst hx; exact q1
  | i + 2, hx => simp at hx
end Go.Proofs.YtlkljeedlkbkgaaGreatDoor.Fr
namespace Go.Proofs.YtlkljeedlkbkgaaGreatDoor.Fr
open Go.RowKit Go.Deep Gr
set_option linter.unusedVariables false

theorem formE {w : World} {base : Nat} {T : TypeId} {v : Value} {l : List Ed} (h : Own w base T v l) : ∃ ao cap, v = .slice ao l.length cap := by
  rcases h.2 with ⟨h, h0⟩ | ⟨g, cap, cur, h, _⟩
  · exact ⟨none, 0, by rw [h, h0]⟩
  · exact ⟨_, _, h⟩
theorem inlenF {n : Nat} {E : List Ed} {I : List Int} (h : GOk n E I) : I.length ≤ 8 := by
  by_cases h8 : I.length ≤ 8
  · exact h8
  · have hc := h.chk
    unfold chkV at hc
    rw [if_neg (by have := h.n0; have := h.n1; omega), if_neg (by have := h.len; omega)] at hc
    by_cases he : (edgesV (n : Int) 0 E).2 ≠ 0
    · rw [if_pos he] at hc
      rw [hc] at he
      exact absurd rfl he
    · rw [if_neg he, if_pos (.inr (by omega))] at hc
      simp at hc
theorem FrontU.congr {B : List Batch.Ch} {M M' : Nat → Nat → Int} {n p : Nat} {v : Int} (hp : p < n) (he : ∀ i j, i < n → j < n → M i j = M' i j) (h : FrontU B M n p v) : FrontU B M' n p v := by
  refine ⟨h.1, fun x hx h0 h1 => ?_, ?_⟩
  · rw [← he _ _ (by omega) hp]; exact h.2.1 x hx h0 h1
  · rcases h.2.2 with e | ⟨x, hx, h0, h1, e⟩
    · exact .inl e
    · exact .inr ⟨x, hx, h0, h1, by rw [← he _ _ (by omega) hp]; exact e⟩
theorem front_bd {B : List Batch.Ch} {M : Nat → Nat → Int} {n p : Nat} (hw : ∀ x ∈ B, x.Wf) : ∀ x ∈ B, 0 ≤ x.p → x.p < n → plusN x.t (M x.p.toNat p) ≤ 18446744073709551615 := fun x hx _ _ => (plusN_le (hw x hx).t1).1
theorem front_same {B : List Batch.Ch} {M M2 : Nat → Nat → Int} {n : Nat} {F : Nat → Int} {l : List Int} {E : List Ed} (hw : ∀ x ∈ B, x.Wf) (hfr : ∀ p, p < n → FrontU B M n p (F p)) (hll : l.length = n) (hfl : ∀ p x, l[p]? = some x → FrontU B M2 n p x)
    (h1 : LeastM E true n M) (h2 : LeastM E true n M2) : (List.range n).map F = l := by
  apply List.ext_getElem?
  intro i
  by_cases hi : i < n
  · have hx : l[i]? = some l[i] := List.getElem?_eq_getElem (by omega)
    rw [List.getElem?_map, List.getElem?_range hi, hx]
    show some (F i) = some l[i]
    rw [FrontU.one (front_bd hw) ((hfr i hi).congr hi (h1.one h2)) (hfl i _ hx)]
  · rw [List.getElem?_eq_none (by simp; omega), List.getElem?_eq_none (by omega)]
end Go.Proofs.YtlkljeedlkbkgaaGreatDoor.Fr
