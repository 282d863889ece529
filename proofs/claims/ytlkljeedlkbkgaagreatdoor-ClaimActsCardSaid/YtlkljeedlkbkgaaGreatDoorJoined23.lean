/-
  YtlkljeedlkbkgaaGreatDoorFrOf
  YtlkljeedlkbkgaaGreatDoorFrRef
  YtlkljeedlkbkgaaGreatDoorFrReach
  YtlkljeedlkbkgaaGreatDoorBatchRefRight
  YtlkljeedlkbkgaaGreatDoorBatchTold
  YtlkljeedlkbkgaaGreatDoorBagTold
  YtlkljeedlkbkgaaGreatDoorFrTold
  YtlkljeedlkbkgaaGreatDoorFrLaw
  YtlkljeedlkbkgaaGreatDoorClLetsM
  YtlkljeedlkbkgaaGreatDoorClActsM
-/
import Derived.Test.YtlkljeedlkbkgaaGreatDoorJoined10
import Derived.Test.YtlkljeedlkbkgaaGreatDoorJoined11
import Derived.Test.YtlkljeedlkbkgaaGreatDoorJoined20
import Derived.Test.YtlkljeedlkbkgaaGreatDoorGClosed
import Derived.Test.YtlkljeedlkbkgaaGreatDoorGTo
import Derived.Deep.QuietTactic
import Derived.BigQuiet
import Derived.Test.YtlkljeedlkbkgaaGreatDoorGPaths
import Derived.Test.YtlkljeedlkbkgaaGreatDoorJoined16
import Derived.Test.YtlkljeedlkbkgaaGreatDoorJoined6
import Derived.StillTailTactics
import Derived.Test.YtlkljeedlkbkgaaGreatDoorJoined5
import Derived.Test.YtlkljeedlkbkgaaGreatDoorJoined8
import Derived.Test.YtlkljeedlkbkgaaGreatDoorJoined9
import Derived.Test.YtlkljeedlkbkgaaGreatDoorJoined15
import Derived.Test.YtlkljeedlkbkgaaGreatDoorGFix
import Derived.Test.YtlkljeedlkbkgaaGreatDoorBagFix
import Derived.Test.YtlkljeedlkbkgaaGreatDoorClTo
import Derived.Test.YtlkljeedlkbkgaaGreatDoorClTold
import Derived.Test.YtlkljeedlkbkgaaGreatDoorJoined17
import Derived.Test.YtlkljeedlkbkgaaGreatDoorClDoM
import Derived.Test.YtlkljeedlkbkgaaGreatDoorClFix
namespace Go.Proofs.YtlkljeedlkbkgaaGreatDoor.Fr
open Go.RowKit Gr
set_option linter.unusedVariables false
set_option linter.unusedSimpArgs false
end Go.Proofs.YtlkljeedlkbkgaaGreatDoor.Fr
namespace Go.Proofs.YtlkljeedlkbkgaaGreatDoor.Fr
open Go.RowKit Go.Deep Gr
set_option linter.unusedVariables false
set_option linter.unusedSimpArgs false
def ul (l : List Int) : List Value := l.map fun x => .int .u64 x
def RdU (w : World) (v : Value) (l : List Int) : Prop := ∃ (ao : Option Addr) (cap : Nat), v = .slice ao l.length cap ∧ l.length ≤ 9223372036854775807 ∧ (l = [] ∨ ∃ b off, ao = some ⟨b, off, none⟩ ∧ ∀ (i : Nat) (x : Int), l[i]? = some x → w.cell? ⟨b, off + i, none⟩ = some (.int .u64 x))
theorem RdU.below {w w' : World} {v : Value} {l : List Int} (h : RdU w v l) (hw : Below w.heap.size w w') : RdU w' v l := by
  obtain ⟨ao, cap, rfl, h1, h4⟩ := h
  refine ⟨ao, cap, rfl, h1, ?_⟩
  rcases h4 with h4 | ⟨b, off, ha, h4⟩
  · exact .inl h4
  · exact .inr ⟨b, off, ha, fun i x hx => (hw.cell (p := ⟨b, off + i, none⟩) (Lib.lt_of_cell (h4 i x hx))).trans (h4 i x hx)⟩
def OwnU (w : World) (base : Nat) (T : TypeId) (v : Value) (l : List Int) : Prop := w.ownsRow base T 1 v l.length (ul l)
theorem OwnU.below {w w' : World} {base : Nat} {T : TypeId} {v : Value} {l : List Int} (h : OwnU w base T v l) (hw : Below w.heap.size w w') : OwnU w' base T v l := by
  refine ⟨h.1, ?_⟩
  rcases h.2 with h2 | ⟨g, cap, cur, rfl, hb, hg, rest⟩
  · exact .inl h2
  · exact .inr ⟨g, cap, cur, rfl, hb, (hw.block g (Array.getElem?_eq_some_iff.1 hg).1).trans hg, rest⟩
end Go.Proofs.YtlkljeedlkbkgaaGreatDoor.Fr
namespace Go.Proofs.YtlkljeedlkbkgaaGreatDoor.Fr
open Go.RowKit Go.Deep Gr
set_option linter.unusedVariables false
set_option linter.unusedSimpArgs false
end Go.Proofs.YtlkljeedlkbkgaaGreatDoor.Fr
namespace Go.Proofs.YtlkljeedlkbkgaaGreatDoor.Batch
open Go.RowKit
set_option linter.unusedVariables false
end Go.Proofs.YtlkljeedlkbkgaaGreatDoor.Batch
namespace Go.Proofs.YtlkljeedlkbkgaaGreatDoor.Batch
open Go.RowKit
set_option linter.unusedVariables false
end Go.Proofs.YtlkljeedlkbkgaaGreatDoor.Batch
namespace Go.Proofs.YtlkljeedlkbkgaaGreatDoor.Batch
open Go.RowKit
set_option linter.unusedVariables false
end Go.Proofs.YtlkljeedlkbkgaaGreatDoor.Batch
namespace Go.Proofs.YtlkljeedlkbkgaaGreatDoor.Fr
open Go.RowKit Go.Deep Gr
set_option linter.unusedVariables false
set_option linter.unusedSimpArgs false
end Go.Proofs.YtlkljeedlkbkgaaGreatDoor.Fr
namespace Go.Proofs.YtlkljeedlkbkgaaGreatDoor.Fr
open Go.RowKit Go.Deep Gr
set_option linter.unusedVariables false
theorem formE {w : World} {base : Nat} {T : TypeId} {v : Value} {l : List Ed} (h : Own w base T v l) : ∃ ao cap, v = .slice ao l.length cap := by
  rcases h.2 with ⟨h, h0⟩ | ⟨g, cap, cur, h, _⟩
  · exact ⟨none, 0, by rw [h, h0]⟩
  · exact ⟨_, _, h⟩
theorem inlenF {n : Nat} {E : List Ed} {I : List Int} (h : GOk n E I) : I.length ≤ 8 := by
  by_cases h8 : I.length ≤ 8
  · exact h8
  · have hc := h.chk
    unfold chkV at hc
    rw [if_neg (by have := h.n0; have := h.n1; omega), if_neg (by have := h.len; omega)] at hc
    by_cases he : (edgesV (n : Int) 0 E).2 ≠ 0
    · rw [if_pos he] at hc
      rw [hc] at he
      exact absurd rfl he
    · rw [if_neg he, if_pos (.inr (by omega))] at hc
      simp at hc
end Go.Proofs.YtlkljeedlkbkgaaGreatDoor.Fr
namespace Go.Proofs.YtlkljeedlkbkgaaGreatDoor.Cl
open Go.RowKit Gr
set_option linter.unusedVariables false
theorem bagFix_tot {l : List Batch.Ch} (h : ∀ x ∈ l, x.Wf) (p t : Int) : 0 ≤ Batch.tot (Batch.bagFixL l) p t ∧ Batch.tot (Batch.bagFixL l) p t ≤ 60 := by
  unfold Batch.bagFixL Batch.fixL Batch.sumsR
  split
  · exact ⟨Int.le_refl _, show (0 : Int) ≤ 60 by decide⟩
  · have hd : ∀ x ∈ (((l.take 12).map Batch.fixB).take 12).map Batch.fixC, 1 ≤ x.d ∧ x.d ≤ 5 := by
      intro x hx
      obtain ⟨y, hy, rfl⟩ := List.mem_map.1 hx
      obtain ⟨q, hq, rfl⟩ := List.mem_map.1 (List.mem_of_mem_take hy)
      have := Batch.fixB_d q
      unfold Batch.fixC
      simp only
      rw [Int.tmod_eq_emod_of_nonneg (by omega)]
      omega
    have hl : ((((l.take 12).map Batch.fixB).take 12).map Batch.fixC).length ≤ 12 := by simp; omega
    have hwf : ∀ x ∈ (((l.take 12).map Batch.fixB).take 12).map Batch.fixC, x.Wf := by
      intro x hx
      obtain ⟨y, hy, rfl⟩ := List.mem_map.1 hx
      exact Batch.fixC_wf (Batch.bagFix_wf h y (List.mem_of_mem_take hy))
    generalize (((l.take 12).map Batch.fixB).take 12).map Batch.fixC = L at hd hl hwf
    have h1 := Batch.tot_pos (fun x hx => by have := hd x hx; omega) p t (l := L)
    have h2 := Batch.tot_bound (B := 5) (fun x hx => by have := hd x hx; omega) (by decide) p t (l := L)
    rw [(Batch.sumL_is hwf).tot, Batch.wr_id (by omega) (by omega)]
    exact ⟨h1, by omega⟩
theorem fixBL_wf0 {B : List Batch.Ch} {m : Nat} (hm : 1 ≤ m ∧ m ≤ 64) (hB : ∀ x ∈ B, x.Wf) : ∀ x ∈ B.map (fixP m), x.Wf := fun x hx => by
  obtain ⟨y, hy, rfl⟩ := List.mem_map.1 hx
  exact fixP_wf hm (hB y hy)
theorem fixBL_nice {B : List Batch.Ch} {m : Nat} (hm : 1 ≤ m ∧ m ≤ 64) (hB : ∀ x ∈ B, x.Wf) : Batch.Nice (fixBL B m) := Batch.bagFix_nice (fixBL_wf0 hm hB)
theorem fixBL_tot {B : List Batch.Ch} {m : Nat} (hm : 1 ≤ m ∧ m ≤ 64) (hB : ∀ x ∈ B, x.Wf) (p t : Int) : 0 ≤ Batch.tot (fixBL B m) p t ∧ Batch.tot (fixBL B m) p t ≤ 60 := bagFix_tot (fixBL_wf0 hm hB) p t
theorem fixBL_hold {B : List Batch.Ch} {m : Nat} (hm : 1 ≤ m ∧ m ≤ 64) (hB : ∀ x ∈ B, x.Wf) : HoldP (fixBL B m) := by
  refine ⟨Batch.bagFix_bag (fixBL_wf0 hm hB), fun z hz => ?_⟩
  have e := Batch.tot_one (fixBL_nice hm hB).right.2 hz
  have := (fixBL_tot hm hB z.p z.t).2
  omega
end Go.Proofs.YtlkljeedlkbkgaaGreatDoor.Cl
namespace Go.Proofs.YtlkljeedlkbkgaaGreatDoor.Cl
open Go.RowKit Gr
set_option linter.unusedVariables false
theorem fixC_port {x : Batch.Ch} (h0 : 0 ≤ x.p) (h1 : x.p < 64) : (Batch.fixC x).p = x.p := by
  show IntKind.i64.wrap ((IntKind.u64.wrap x.p).tmod 64) = x.p
  have e : IntKind.u64.wrap x.p = x.p := by
    unfold IntKind.wrap
    simp [IntKind.bits, IntKind.signed]
    omega
  rw [e, Int.tmod_eq_emod_of_nonneg h0, IntKind.wrap_i64]
  omega
theorem fixBL_ports {B : List Batch.Ch} {m : Nat} (hm : 1 ≤ m ∧ m ≤ 64) (hB : ∀ x ∈ B, x.Wf) : ∀ z ∈ fixBL B m, z.p < m := by
  intro z hz
  have h := fixBL_wf0 hm hB
  unfold fixBL Batch.bagFixL Batch.fixL Batch.sumsR at hz
  split at hz
  · simp at hz
  · have hwf : ∀ x ∈ ((((B.map (fixP m)).take 12).map Batch.fixB).take 12).map Batch.fixC, x.Wf := by
      intro x hx
      obtain ⟨y, hy, rfl⟩ := List.mem_map.1 hx
      exact Batch.fixC_wf (Batch.bagFix_wf h y (List.mem_of_mem_take hy))
    obtain ⟨x, hx, hk⟩ := Batch.sumL_key hwf z hz
    obtain ⟨y, hy, rfl⟩ := List.mem_map.1 hx
    obtain ⟨q, hq, rfl⟩ := List.mem_map.1 (List.mem_of_mem_take hy)
    obtain ⟨c, hc, rfl⟩ := List.mem_map.1 (List.mem_of_mem_take hq)
    have h1 := modN_lt hm.1 c.p
    have hp : (Batch.fixB (fixP m c)).p = (modN m c.p : Int) := rfl
    rw [← hk.1, fixC_port (by rw [hp]; omega) (by rw [hp]; omega), hp]
    omega
theorem nat_min {P : Nat → Prop} (h : ∃ n, P n) : ∃ n, P n ∧ ∀ k, P k → n ≤ k := by
  obtain ⟨n, hn⟩ := h
  induction n using Nat.strongRecOn with
  | ind n ih =>
    by_cases h : ∃ k, k < n ∧ P k
    · obtain ⟨k, hk, hp⟩ := h
      exact ih k hk hp
    · exact ⟨n, hn, fun k hk => Nat.le_of_not_lt (fun hl => h ⟨k, hl, hk⟩)⟩
theorem least_ex_at {E : List Ed} {n : Nat} (hE : Fits E n) (i j : Int) : ∃ d, IsLeast E true i j d := by
  by_cases h : ∃ c : Nat, ∃ es, Gr.Way E true i es j ∧ cost es = (c : Int)
  · obtain ⟨c, ⟨es, hw, hc⟩, hm⟩ := nat_min h
    have hall : ∀ es, Gr.Way E true i es j → (c : Int) ≤ cost es := fun es hw => by
      have h0 := cost_nonneg hE (chn_mem hw.1)
      have := hm (cost es).toNat ⟨es, hw, by omega⟩
      omega
    by_cases hb : (c : Int) ≤ 18446744073709551615
    · exact ⟨c, ⟨⟨by omega, hb⟩, .inr ⟨es, hw, hc⟩⟩, hall⟩
    · exact ⟨18446744073709551615, Sound.never E true i j, fun es hw => by have := hall es hw; omega⟩
  · refine ⟨18446744073709551615, Sound.never E true i j, fun es hw => absurd ⟨(cost es).toNat, es, hw, ?_⟩ h⟩
    have h0 := cost_nonneg hE (chn_mem hw.1)
    omega
theorem least_ex {E : List Ed} {n : Nat} (hE : Fits E n) : ∃ M : Nat → Nat → Int, LeastM E true n M :=
  ⟨fun i j => (least_ex_at hE i j).choose, fun i j _ _ => (least_ex_at hE i j).choose_spec⟩
theorem fix_ownp {H : List Ed} {B : List Batch.Ch} {m : Nat} (hm : 1 ≤ m ∧ m ≤ 64) (hH : ∀ x ∈ H, x.Wf) (hB : ∀ x ∈ B, x.Wf) : OwnP m (fixHL H m) (fixBL B m) :=
  ⟨fixO_rise H m 5, fixO_all (fun y hy => fixE_wf hm (hH y hy)) 5, fixO_all (p := fun x => 0 ≤ x.t ∧ x.t < m ∧ x.a ≠ 18446744073709551615) (fun y hy => by have h := fixE_fit hm (hH y hy); exact ⟨h.2.1.1, h.2.1.2, by omega⟩) 5, fixBL_hold hm hB, (fixBL_nice hm hB).wf, fixBL_ports hm hB⟩
end Go.Proofs.YtlkljeedlkbkgaaGreatDoor.Cl
