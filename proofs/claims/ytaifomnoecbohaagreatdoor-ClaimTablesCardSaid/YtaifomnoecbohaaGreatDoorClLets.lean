/-
  PACKAGE claim: does something that is held let a stamp be? What is wrong with a Change of stamps?
-/
import Derived.Test.YtaifomnoecbohaaGreatDoorClAll
import Derived.Test.YtaifomnoecbohaaGreatDoorBatchOf
import Derived.Deep.QuietTactic
import Derived.BigQuiet
namespace Go.Proofs.YtaifomnoecbohaaGreatDoor.Cl
open Go.RowKit Gr
set_option linter.unusedVariables false

/-- The least that ways take: 64-bit numbers. -/
def MU (M : Nat → Nat → Int) (m : Nat) : Prop := ∀ i j, i < m → j < m → Stamp.U (M i j)
theorem letB_neg {M : Nat → Nat → Int} {m : Nat} {c x : Batch.Ch} (h : x.p < 0) : letB M m c x = false := decide_eq_false (fun e => by omega)
theorem letB_far {M : Nat → Nat → Int} {m : Nat} {c x : Batch.Ch} (h : (m : Int) ≤ x.p) : letB M m c x = false := decide_eq_false (fun e => by omega)
theorem letB_at {M : Nat → Nat → Int} {m i j : Nat} {c x : Batch.Ch} (hi : x.p = (i : Int)) (hj : c.p = (j : Int)) (h : i < m) : letB M m c x = Stamp.reachB x.t (M i j) c.t := by
  unfold letB
  rw [hi, hj, Int.toNat_natCast, Int.toNat_natCast]
  cases e : Stamp.reachB x.t (M i j) c.t
  · exact decide_eq_false (fun h => by simp at h)
  · exact decide_eq_true ⟨by omega, by omega, rfl⟩

set_option maxRecDepth 1000000 in
set_option maxHeartbeats 8000000 in
theorem letBe1_any {w : World} {x c : Batch.Ch} {vp : Value} {m base bp bc j : Nat} {M : Nat → Nat → Int} (hM : Mat w base vp m M) (hMU : MU M m) (hm : m ≤ 64) (hx : x.Wf) (hcw : c.Wf) (hj : c.p = (j : Int)) (hjm : j < m)
    (hp : w.heap[bp]? = some (.cells #[vp] 52 (0, 0))) (hc : w.heap[bc]? = some (.cells #[.int .i64 c.p, .int .u64 c.t, .int .i64 c.d] 88 (0, 0))) :
    Calls Tryz.prog 141 #[x.agg, .pointer (some ⟨bp, 0, none⟩), .pointer (some ⟨bc, 0, none⟩)] w fun e w' => e = .returned (.bool (letB M m c x)) ∧ Below w.heap.size w w' := by
  obtain ⟨g, r, rfl, hmf⟩ := hM
  have p0 : w.cell? ⟨bp, 0, none⟩ = some (.slice (some ⟨g, 0, none⟩) m m) := by rw [cell_of_row _ bp 0 _ _ (0, 0) hp]; rfl
  obtain ⟨c0, c1, c2, _⟩ := trip_cells hc
  have hbpl := (Array.getElem?_eq_some_iff.1 hp).1
  have hbcl := (Array.getElem?_eq_some_iff.1 hc).1
  have hgl := hmf.top.lt
  obtain ⟨xp, xt, xd⟩ := x
  obtain ⟨cp, ct, cd⟩ := c
  simp only at hj c0 c1 c2
  subst hj
  have hb : Below w.heap.size w (w.alloc (.cells #[.int .i64 xp, .int .u64 xt, .int .i64 xd] 88)) := (Below.refl _ _).alloc (Nat.le_refl _) _
  have HB := Lib.hid hb
  clear hb hp hc
  by_cases h1 : xp < 0
  · have HL := Lib.hid (letB_neg (M := M) (m := m) (c := ⟨(j : Int), ct, cd⟩) (x := ⟨xp, xt, xd⟩) h1)
    have h2 : decide ((0 : Int) ≤ xp) = false := decide_eq_false (by omega)
    go_enter Tryz.func141, Tryz.ntmps141
    go_wp2_with fail
    go_quiet (fail)
    go_wp2_with fail
    go_ret
    exact ⟨by rw [HL.out]; rfl, below_drewN HB.out _⟩
  · by_cases h2 : xp < (m : Int)
    · obtain ⟨i, rfl⟩ : ∃ i : Nat, xp = (i : Int) := ⟨xp.toNat, by omega⟩
      have him : i < m := by omega
      have HL := Lib.hid (letB_at (M := M) (m := m) (c := ⟨(j : Int), ct, cd⟩) (x := ⟨(i : Int), xt, xd⟩) (i := i) (j := j) rfl rfl him)
      have t0 := hmf.top.cell him
      have r0 := (hmf.row i him).cell hjm
      have hrl := (hmf.row i him).lt
      obtain ⟨mij, hmij⟩ : ∃ z, z = M i j := ⟨_, rfl⟩
      have HU := Lib.hid (hMU i j him hjm)
      rw [← hmij] at r0 HU HL
      have hi0 : (0 : Int) ≤ (i : Int) := Int.natCast_nonneg _
      have hj0 : (0 : Int) ≤ (j : Int) := Int.natCast_nonneg _
      have hjm2 : (j : Int) < (m : Int) := by omega
      obtain ⟨rb, hrb⟩ : ∃ z, z = Stamp.reachB xt mij ct := ⟨_, rfl⟩
      have hsm : ∀ W, Calls Tryz.prog 142 #[.int .u64 xt, .int .u64 mij, .int .u64 ct] W fun e w' => e = .returned (.bool rb) ∧ w' = W := fun W => (Stamp.reaches_any xt mij ct ⟨hx.t0, hx.t1⟩ HU.out ⟨hcw.t0, hcw.t1⟩ W).mono fun e w' ⟨h1, h2⟩ => ⟨by rw [hrb]; exact h1, h2.symm⟩
      have HSM := Lib.hid hsm
      have HRB := Lib.hid hrb
      clear hmf hmij h1 hsm hrb
      go_enter Tryz.func141, Tryz.ntmps141
      go_wp2_with fail
      go_quiet ((go_at_call 142; exact Calls.quiet_of_same (HSM.out _)))
      go_wp2_with fail
      go_ret
      exact ⟨by rw [HL.out]; show _ = Ending.returned (.bool (Stamp.reachB xt mij ct)); rw [← HRB.out]; rfl, below_drewN HB.out _⟩
    · have HL := Lib.hid (letB_far (M := M) (m := m) (c := ⟨(j : Int), ct, cd⟩) (x := ⟨xp, xt, xd⟩) (by show (m : Int) ≤ xp; omega))
      have h1' : (0 : Int) ≤ xp := by omega
      have h3 : decide (xp < (m : Int)) = false := decide_eq_false h2
      go_enter Tryz.func141, Tryz.ntmps141
      go_wp2_with fail
      go_quiet (fail)
      go_wp2_with fail
      go_ret
      exact ⟨by rw [HL.out]; rfl, below_drewN HB.out _⟩
def LetZ (M : Nat → Nat → Int) (m : Nat) (A : List Batch.Ch) (c : Batch.Ch) (z : Int) : Prop := (z = -1 ∧ letsB M m A c = false) ∨ (0 ≤ z ∧ letsB M m A c = true)
theorem lets_no {M : Nat → Nat → Int} {m : Nat} {A : List Batch.Ch} {c : Batch.Ch} (h : ∀ x ∈ A, letB M m c x = false) : letsB M m A c = false := by
  cases e : letsB M m A c
  · rfl
  · obtain ⟨x, hx, e⟩ := letsB_iff.1 e
    rw [h x hx] at e
    cases e
set_option maxRecDepth 1000000 in
set_option maxHeartbeats 8000000 in
theorem idxL_any {w : World} {v vp : Value} {A : List Batch.Ch} {c : Batch.Ch} {m base bp bc j : Nat} {M : Nat → Nat → Int} (hv : Batch.Sl w v A) (hM : Mat w base vp m M) (hMU : MU M m) (hm : m ≤ 64) (hcw : c.Wf) (hj : c.p = (j : Int)) (hjm : j < m)
    (hp : w.heap[bp]? = some (.cells #[vp] 52 (0, 0))) (hc : w.heap[bc]? = some (.cells #[.int .i64 c.p, .int .u64 c.t, .int .i64 c.d] 88 (0, 0))) :
    Calls Tryz.prog 156 #[v, .func (.func 141) #[] #[.pointer (some ⟨bp, 0, none⟩), .pointer (some ⟨bc, 0, none⟩)]] w
      fun e w' => ∃ z : Int, e = .returned (.int .i64 z) ∧ LetZ M m A c z ∧ Below w.heap.size w w' := by
  have HV := Lib.hid hv
  have HWF := Lib.hid hv.wf
  obtain ⟨ao, cap, rfl, hcell, hc1, hc2, _⟩ := hv
  have HC := Lib.hid hcell
  have hlen : A.length ≤ 9223372036854775807 := by omega
  have HCM := Lib.hid (fun (x : Batch.Ch) (hx : x.Wf) (W : World) (hb : Below w.heap.size w W) => letBe1_any (w := W) (x := x) (hM.below hb) hMU hm hx hcw hj hjm ((hb.block _ (Array.getElem?_eq_some_iff.1 hp).1).trans hp) ((hb.block _ (Array.getElem?_eq_some_iff.1 hc).1).trans hc))
  clear hp hc hM hMU hcell hc1 hc2
  go_enter Tryz.func156, Tryz.ntmps156
  go_wp2
  go_loopg [8] A.length (fun k s8 wr => ∃ i : Nat, i + k = A.length ∧ s8 = .int .i64 i ∧ (∀ x ∈ A.take i, letB M m c x = false) ∧ Below w.heap.size w wr)
  case atStart => exact ⟨0, by omega, rfl, by simp, Below.refl _ _⟩
  case round =>
    obtain ⟨i, hik, rfl, hok, hbw⟩ := hrel
    have HIK := Lib.hid hik
    have HOK := Lib.hid hok
    have HBW := Lib.hid hbw
    clear hok hbw hik
    have hi0 : (0 : Int) ≤ (i : Int) := Int.natCast_nonneg _
    by_cases hlt : i < A.length
    · obtain ⟨x, hx, hxm⟩ := Batch.at_of hlt
      obtain ⟨b, off, rfl, hcc⟩ := HC.out.resolve_left (fun h => by rw [h.2] at hx; simp at hx)
      have q := hcc _ x hx
      obtain ⟨c0, c1, c2⟩ := q.below HBW.out q.lt
      have HX := Lib.hid hx
      have hi1 : (i : Int) < (A.length : Int) := by omega
      have HLT := Lib.hid hlt
      have HCX := Lib.hid (HCM.out x (HWF.out x hxm) wr HBW.out)
      have HXM := Lib.hid hxm
      obtain ⟨xp, xt, xd⟩ := x
      simp only at c0 c1 c2
      cases hl : letB M m c ⟨xp, xt, xd⟩
      all_goals
        have HLB := Lib.hid hl
        clear hx hxm q hlt hcc hl
        go_wp2_with fail
        go_at_call 141
        refine HCX.out.mono ?_
        rw [HLB.out]
        rintro e w1 ⟨rfl, hcb⟩
        have HB1 := Lib.hid (HBW.out.trans (hcb.mono HBW.out.size))
        clear hcb c0 c1 c2
        go_wp2_with fail
      · go_roundg (gk - 1)
        case measure => have := HIK.out; have := HLT.out; omega
        case rel => exact ⟨i + 1, by have := HIK.out; have := HLT.out; omega, by go_num, fun x hx => by
          rw [Batch.take_succ' HX.out] at hx
          rcases List.mem_append.1 hx with hx | hx
          · exact HOK.out x hx
          · simp at hx; subst hx; exact HLB.out, HB1.out⟩
      · go_ret
        exact ⟨_, rfl, .inr ⟨hi0, letsB_iff.2 ⟨_, HXM.out, HLB.out⟩⟩, HB1.out⟩
    · have hj2 : decide ((i : Int) < (A.length : Int)) = false := decide_eq_false (by omega)
      have HF := Lib.hid (show LetZ M m A c (-1) from .inl ⟨rfl, lets_no fun x hx => HOK.out x (by rw [List.take_of_length_le (by omega)]; exact hx)⟩)
      go_wp2_with fail
      go_ret
      exact ⟨_, rfl, HF.out, HBW.out⟩
set_option maxRecDepth 1000000 in
set_option maxHeartbeats 8000000 in
theorem containsL_any {w : World} {v vp : Value} {A : List Batch.Ch} {c : Batch.Ch} {m base bp bc j : Nat} {M : Nat → Nat → Int} (hv : Batch.Sl w v A) (hM : Mat w base vp m M) (hMU : MU M m) (hm : m ≤ 64) (hcw : c.Wf) (hj : c.p = (j : Int)) (hjm : j < m)
    (hp : w.heap[bp]? = some (.cells #[vp] 52 (0, 0))) (hc : w.heap[bc]? = some (.cells #[.int .i64 c.p, .int .u64 c.t, .int .i64 c.d] 88 (0, 0))) :
    Calls Tryz.prog 140 #[v, .func (.func 141) #[] #[.pointer (some ⟨bp, 0, none⟩), .pointer (some ⟨bc, 0, none⟩)]] w
      fun e w' => e = .returned (.bool (letsB M m A c)) ∧ Below w.heap.size w w' := by
  have HI := Lib.hid (idxL_any hv hM hMU hm hcw hj hjm hp hc)
  clear hp hc hM hMU hv hj hcw hjm hm
  go_enter Tryz.func140, Tryz.ntmps140
  go_wp2_with fail
  go_at_call 156
  refine HI.out.mono ?_
  rintro e w1 ⟨z, rfl, hz, hb⟩
  have HB := Lib.hid hb
  rcases hz with ⟨rfl, hl⟩ | ⟨hz, hl⟩
  · have HL := Lib.hid hl
    clear hl hb
    go_wp2_with fail
    go_ret
    exact ⟨by rw [HL.out]; rfl, HB.out⟩
  · have HL := Lib.hid hl
    have hz2 : decide ((0 : Int) ≤ z) = true := decide_eq_true hz
    clear hl hb
    go_wp2_with fail
    go_ret
    exact ⟨by rw [HL.out]; rfl, HB.out⟩
set_option maxRecDepth 1000000 in
set_option maxHeartbeats 8000000 in
theorem letBe_any {w : World} {v vp : Value} {A : List Batch.Ch} {c : Batch.Ch} {m base j : Nat} {M : Nat → Nat → Int} (hv : Batch.Sl w v A) (hM : Mat w base vp m M) (hMU : MU M m) (hm : m ≤ 64) (hcw : c.Wf) (hj : c.p = (j : Int)) (hjm : j < m) :
    Calls Tryz.prog 109 #[v, vp, c.agg] w fun e w' => e = .returned (.bool (letsB M m A c)) ∧ Below w.heap.size w w' := by
  obtain ⟨w0, hw0⟩ : ∃ w0, w0 = (w.alloc (.cells #[vp] 52)).alloc (.cells #[.int .i64 c.p, .int .u64 c.t, .int .i64 c.d] 88) := ⟨_, rfl⟩
  have hb0 : Below w.heap.size w w0 := by rw [hw0]; exact ((Below.refl _ _).alloc (Nat.le_refl _) _).alloc (by simp) _
  have hp : w0.heap[w.heap.size]? = some (.cells #[vp] 52 (0, 0)) := by rw [hw0, heap_alloc_old _ _ (by simp)]; exact heap_alloc_new w _
  have hc : w0.heap[w.heap.size + 1]? = some (.cells #[.int .i64 c.p, .int .u64 c.t, .int .i64 c.d] 88 (0, 0)) := by
    rw [hw0]; have := heap_alloc_new (w.alloc (.cells #[vp] 52)) (.cells #[.int .i64 c.p, .int .u64 c.t, .int .i64 c.d] 88); simpa using this
  have HI := Lib.hid (containsL_any (hv.below hb0) (hM.below hb0) hMU hm hcw hj hjm hp hc)
  have HB0 := Lib.hid hb0
  obtain ⟨g, r, rfl, hmf⟩ := hM
  obtain ⟨cp, ct, cd⟩ := c
  clear hp hc hb0 hmf hv hMU hj
  go_enter Tryz.func109, Tryz.ntmps109
  go_wp2_with fail
  go_at_call 140
  rw [← hw0]
  clear hw0
  refine HI.out.mono ?_
  rintro e w1 ⟨rfl, hb⟩
  have HB := Lib.hid (HB0.out.trans (hb.mono HB0.out.size))
  clear hb
  go_wp2_with fail
  go_ret
  exact ⟨rfl, HB.out⟩
end Go.Proofs.YtaifomnoecbohaaGreatDoor.Cl
