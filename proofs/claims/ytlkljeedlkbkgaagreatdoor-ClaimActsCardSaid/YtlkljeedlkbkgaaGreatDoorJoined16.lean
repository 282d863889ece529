/-
  YtlkljeedlkbkgaaGreatDoorClWrong
  YtlkljeedlkbkgaaGreatDoorBagApply
-/
import Derived.Test.YtlkljeedlkbkgaaGreatDoorJoined15
import Derived.Deep.RegionHeld3
import Derived.Test.YtlkljeedlkbkgaaGreatDoorJoined10
namespace Go.Proofs.YtlkljeedlkbkgaaGreatDoor.Cl
open Go.RowKit Gr
set_option linter.unusedVariables false
theorem upE_port {B A : List Batch.Ch} {M : Nat → Nat → Int} {m : Nat} {c : Batch.Ch} (h : (m : Int) ≤ c.p) : upE B A M m c = 2 := if_pos h
theorem upE_lets {B A : List Batch.Ch} {M : Nat → Nat → Int} {m : Nat} {c : Batch.Ch} (h : ¬ (m : Int) ≤ c.p) (hd : 0 < c.d) (hl : letsB M m A c = false) : upE B A M m c = 5 := by unfold upE; rw [if_neg h, if_pos (.inl ⟨hd, hl⟩)]
theorem upE_few {B A : List Batch.Ch} {M : Nat → Nat → Int} {m : Nat} {c : Batch.Ch} (h : ¬ (m : Int) ≤ c.p) (ht : Batch.tot B c.p c.t + c.d < 0) : upE B A M m c = 5 := by unfold upE; rw [if_neg h, if_pos (.inr ht)]
theorem upE_over {B A : List Batch.Ch} {M : Nat → Nat → Int} {m : Nat} {c : Batch.Ch} (h : ¬ (m : Int) ≤ c.p) (hl : 0 < c.d → letsB M m A c = true) (ht : ¬ Batch.tot B c.p c.t + c.d < 0) (ho : 1125899906842624 < Batch.tot B c.p c.t + c.d) : upE B A M m c = 10 := by
  unfold upE
  rw [if_neg h, if_neg (fun e => e.elim (fun e => by rw [hl e.1] at e; exact absurd e.2 (by decide)) ht), if_pos ho]
theorem upE_ok {B A : List Batch.Ch} {M : Nat → Nat → Int} {m : Nat} {c : Batch.Ch} (h : ¬ (m : Int) ≤ c.p) (hl : 0 < c.d → letsB M m A c = true) (ht : ¬ Batch.tot B c.p c.t + c.d < 0) (ho : ¬ 1125899906842624 < Batch.tot B c.p c.t + c.d) : upE B A M m c = 0 := by
  unfold upE
  rw [if_neg h, if_neg (fun e => e.elim (fun e => by rw [hl e.1] at e; exact absurd e.2 (by decide)) ht), if_neg ho]
set_option maxRecDepth 1000000 in
set_option maxHeartbeats 16000000 in
theorem wrongC_any {w : World} {vB vA vp : Value} {B A : List Batch.Ch} {c : Batch.Ch} {m base : Nat} {M : Nat → Nat → Int} (hB : Batch.Sl w vB B) (hr : B.Pairwise Batch.Lt) (hlb : B.length ≤ 100000) (hA : Batch.Sl w vA A) (hM : Mat w base vp m M) (hMU : MU M m) (hm : m ≤ 64) (hcw : c.Wf) (hc0 : 0 ≤ c.p)
    (ht : -9223372036854775808 ≤ Batch.tot B c.p c.t + c.d ∧ Batch.tot B c.p c.t + c.d ≤ 9223372036854775807) :
    Calls Tryz.prog 57 #[vB, vA, vp, c.agg] w fun e w' => e = .returned (.int .i64 (upE B A M m c)) ∧ Below w.heap.size w w' := by
  have HBV := Lib.hid hB
  have HAV := Lib.hid hA
  have HM := Lib.hid hM
  have HOF := Lib.hid (fun W (h : Below w.heap.size w W) => Batch.of_any (w := W) (v := vB) c.p c.t (hB.below h) hr hlb)
  have HLE := Lib.hid (fun W (h : Below w.heap.size w W) (j : Nat) (hj : c.p = (j : Int)) (hjm : j < m) => letBe_any (w := W) (v := vA) (A := A) (hA.below h) (hM.below h) hMU hm hcw hj hjm)
  have HU1 := Lib.hid (fun h => upE_port (B := B) (A := A) (M := M) (m := m) (c := c) h)
  have HU2 := Lib.hid (fun h h1 h2 => upE_lets (B := B) (A := A) (M := M) (m := m) (c := c) h h1 h2)
  have HU3 := Lib.hid (fun h h1 => upE_few (B := B) (A := A) (M := M) (m := m) (c := c) h h1)
  have HU4 := Lib.hid (fun h h1 h2 h3 => upE_over (B := B) (A := A) (M := M) (m := m) (c := c) h h1 h2 h3)
  have HU5 := Lib.hid (fun h h1 h2 h3 => upE_ok (B := B) (A := A) (M := M) (m := m) (c := c) h h1 h2 h3)
  obtain ⟨tv, htv⟩ : ∃ z, z = Batch.tot B c.p c.t := ⟨_, rfl⟩
  rw [← htv] at ht HOF HU3 HU4 HU5
  obtain ⟨ao, cap, rfl, _⟩ := hB
  obtain ⟨aa, capa, rfl, _⟩ := hA
  obtain ⟨g, r, rfl, _⟩ := hM
  have hd0 := hcw.d0
  have hd1 := hcw.d1
  obtain ⟨cp, ct, cd⟩ := c
  simp only at ht hd0 hd1 hc0
  have hb : Below w.heap.size w (w.alloc (.cells #[.int .i64 cp, .int .u64 ct, .int .i64 cd] 72)) := (Below.refl _ _).alloc (Nat.le_refl _) _
  have HB := Lib.hid hb
  have hws : IntKind.i64.wrap (tv + cd) = tv + cd := by rw [IntKind.wrap_i64]; omega
  have ht0 := ht.1
  have ht1 := ht.2
  have hx := heap_alloc_new w (.cells #[.int .i64 cp, .int .u64 ct, .int .i64 cd] 72)
  have HX := Lib.hid hx
  have hsz : (w.alloc (.cells #[.int .i64 cp, .int .u64 ct, .int .i64 cd] 72)).heap.size = w.heap.size + 1 := by simp
  have HSZ := Lib.hid hsz
  clear htv hb ht hcw hx hsz
  go_enter Tryz.func57, Tryz.ntmps57
  go_wp2_with fail
  go_region_held3 (fun w' => w'.cell? ⟨w.heap.size, 0, none⟩ = some (.int .i64 cp) ∧ w'.cell? ⟨w.heap.size, 1, none⟩ = some (.int .u64 ct) ∧ w'.cell? ⟨w.heap.size, 2, none⟩ = some (.int .i64 cd))
    (first
      | go_keep
      | (go_split_ands
         refine ⟨?_, ?_, ?_⟩ <;> (rw [hcb.cell (by simp)]; assumption)))
    ((go_at_call 53; refine (HOF.out _ (below_drewN HB.out 1)).mono ?_; rintro e w1 ⟨rfl, hcb⟩))
  have hb1 : Below w.heap.size w w1 := (below_drewN HB.out 1).trans (hcb.mono (by have := HSZ.out; show w.heap.size ≤ (w.alloc _).heap.size; omega))
  have HB1 := Lib.hid hb1
  obtain ⟨x0, x1, x2, _⟩ := trip_cells ((hcb.block w.heap.size (by have := HSZ.out; show w.heap.size < (w.alloc _).heap.size; omega)).trans HX.out)
  clear hcb hb1 hws
  by_cases h1 : (m : Int) ≤ cp
  · have HU := Lib.hid (HU1.out h1)
    go_wp2_with fail
    go_ret
    exact ⟨by rw [HU.out]; rfl, HB1.out⟩
  · obtain ⟨j, rfl⟩ : ∃ j : Nat, cp = (j : Int) := ⟨cp.toNat, by omega⟩
    have hjm : j < m := by omega
    have h1d : decide ((m : Int) ≤ (j : Int)) = false := decide_eq_false h1
    have h1e : decide (m ≤ j) = false := decide_eq_false (by omega)
    have HLS := Lib.hid (HLE.out w1 HB1.out j rfl hjm)
    have H1 := Lib.hid (show (j : Int) < (m : Int) by omega)
    clear h1
    by_cases hd : 0 < cd
    · cases hl : letsB M m A ⟨(j : Int), ct, cd⟩
      · have HL := Lib.hid hl
        have HU := Lib.hid (HU2.out H1.out hd hl)
        clear hl
        go_wp2_with fail
        go_at_call 105
        refine HLS.out.mono ?_
        rw [HL.out]
        rintro e w2 ⟨rfl, hb2⟩
        have HB2 := Lib.hid (HB1.out.trans (hb2.mono HB1.out.size))
        clear hb2 x0 x1 x2
        go_wp2_with fail
        go_ret
        exact ⟨by rw [HU.out]; rfl, HB2.out⟩
      · have HL := Lib.hid hl
        clear hl
        by_cases ht : tv + cd < 0
        case' pos => have HU := Lib.hid (HU3.out H1.out ht)
        case' neg =>
          have ht' : ¬ (tv + cd < 0) := ht
          by_cases ho : 1125899906842624 < tv + cd
          case' pos => have HU := Lib.hid (HU4.out H1.out (fun _ => HL.out) (by omega) (by omega))
          case' neg => have HU := Lib.hid (HU5.out H1.out (fun _ => HL.out) (by omega) (by omega))
        all_goals
          go_wp2_with fail
          go_at_call 105
          refine HLS.out.mono ?_
          rw [HL.out]
          rintro e w2 ⟨rfl, hb2⟩
          have HB2 := Lib.hid (HB1.out.trans (hb2.mono HB1.out.size))
          clear hb2 x0 x1 x2
          go_wp2_with fail
          go_ret
          exact ⟨by rw [HU.out]; rfl, HB2.out⟩
    · have hdd : decide (0 < cd) = false := decide_eq_false hd
      by_cases ht : tv + cd < 0
      case' pos => have HU := Lib.hid (HU3.out H1.out ht)
      case' neg =>
        by_cases ho : 1125899906842624 < tv + cd
        case' pos => have HU := Lib.hid (HU4.out H1.out (fun h => absurd h hd) (by omega) (by omega))
        case' neg => have HU := Lib.hid (HU5.out H1.out (fun h => absurd h hd) (by omega) (by omega))
      all_goals
        go_wp2_with fail
        go_ret
        exact ⟨by rw [HU.out]; rfl, HB1.out⟩
end Go.Proofs.YtlkljeedlkbkgaaGreatDoor.Cl
namespace Go.Proofs.YtlkljeedlkbkgaaGreatDoor.Batch
open Go.RowKit
set_option linter.unusedVariables false
theorem of_at {w0 w : World} {v : Value} {l : List Ch} (p t : Int) (hv : Sl w0 v l) (hr : l.Pairwise Lt) (hl : l.length ≤ 100000) (hb : Below w0.heap.size w0 w) :
    Calls Tryz.prog 53 #[v, .int .i64 p, .int .u64 t] w fun e w' => e = .returned (.int .i64 (tot l p t)) ∧ Below w.heap.size w w' := of_any p t (hv.below hb) hr hl
set_option maxRecDepth 1000000 in
set_option maxHeartbeats 8000000 in
theorem apply_any {w : World} {vb vc : Value} {B C : List Ch} (hvb : Sl w vb B) (hvc : Sl w vc C) (hB : RightP B) (hC : RightP C) (hl : B.length + C.length ≤ 100000) :
    Calls Tryz.prog 17 #[vb, vc] w fun e w' => ∃ v' : Value, (e = .returned (.tuple #[v', .int .i64 (applyE B C)])) ∧ Own w' w.heap.size 72 v' (applyR B C) ∧ Below w.heap.size w w' := by
  have HVB := Lib.hid hvb
  have HVC := Lib.hid hvc
  have HB := Lib.hid hB
  have HCR := Lib.hid hC
  have HL := Lib.hid hl
  have hl1 : B.length ≤ 100000 := by omega
  have HL1 := Lib.hid hl1
  obtain ⟨ab, cb, rfl, _⟩ := hvb
  obtain ⟨ac, cc, rfl, hcell, hlc, hcm, _⟩ := hvc
  have HC := Lib.hid hcell
  have hlen : C.length ≤ 9223372036854775807 := by omega
  have HOF := Lib.hid (fun p t W h => of_at p t HVB.out HB.out.2 HL1.out (w := W) h)
  clear hcell hlc hcm hB hC hl hl1
  go_enter Tryz.func17, Tryz.ntmps17
  go_wp2
  go_loopg [10] C.length (fun k t wr => ∃ i : Nat, i + k = C.length ∧ t = .int .i64 i ∧ (∀ y ∈ C.take i, ¬ (tot B y.p y.t + y.d < 0)) ∧ Below w.heap.size w wr)
  case atStart => exact ⟨0, by omega, rfl, by simp, Below.refl _ _⟩
  case round =>
    obtain ⟨i, hik, rfl, hok, hbw⟩ := hrel
    have HIK := Lib.hid hik
    have HOK := Lib.hid hok
    have HBW := Lib.hid hbw
    clear hok hbw hik
    have hbs : w.heap.size ≤ wr.heap.size := HBW.out.size
    by_cases hlt1 : i < C.length
    · obtain ⟨x, hx, hxm⟩ := at_of hlt1
      obtain ⟨b, off, rfl, hcc⟩ := HC.out.resolve_left (fun h => by rw [h.2] at hlt1; simp at hlt1)
      have q := hcc i x hx
      have hbl := q.lt
      obtain ⟨c0, c1, c2⟩ := q.below HBW.out hbl
      have HX := Lib.hid hx
      have HXM := Lib.hid hxm
      have hi0' : (0 : Int) ≤ (i : Int) := Int.natCast_nonneg _
      have hi1 : (i : Int) < (C.length : Int) := by omega
      have HLT := Lib.hid hlt1
      have hd := HCR.out.d x hxm
      have ht := HB.out.totR x.p x.t
      have hd0 : -576460752303423488 ≤ x.d := hd.1
      have hd1 : x.d ≤ 576460752303423488 := hd.2
      by_cases hn : tot B x.p x.t + x.d < 0
      case' pos => have HN := Lib.hid (apply_neg (anyNeg_at hxm hn))
      case' neg =>
        have HN := Lib.hid (show ∀ y ∈ C.take (i + 1), ¬ (tot B y.p y.t + y.d < 0) by
          intro y hy
          rw [take_succ' hx] at hy
          rcases List.mem_append.1 hy with hy | hy
          · exact HOK.out y hy
          · simp at hy; subst hy; exact hn)
      all_goals
        obtain ⟨p, t, d⟩ := x
        simp only at c0 c1 c2 hn ht hd0 hd1
        have HOFX := Lib.hid (fun W h => HOF.out p t W h)
        have HTV : ∃ tv, tv = tot B p t := ⟨_, rfl⟩
        obtain ⟨tv, htv⟩ := HTV
        rw [← htv] at hn ht HOFX
        have hw : IntKind.i64.wrap (tv + d) = tv + d := by rw [wr_i64, wr_id (by omega) (by omega)]
        have ht0 := ht.1
        have ht1 := ht.2
        clear hx hxm hcc q hbl hd ht htv
        go_wp2_with fail
        go_region_held3 (fun w' => w'.cell? ⟨wr.heap.size, 0, none⟩ = some (.int .i64 p) ∧ w'.cell? ⟨wr.heap.size, 1, none⟩ = some (.int .u64 t) ∧ w'.cell? ⟨wr.heap.size, 2, none⟩ = some (.int .i64 d))
          (first
            | go_keep
            | (go_split_ands
               refine ⟨?_, ?_, ?_⟩ <;> (rw [hcb.cell (by simp)]; assumption)))
          ((go_at_call 53; refine (HOFX.out _ ((HBW.out.alloc hbs _).drew)).mono ?_; rintro e w1 ⟨rfl, hcb⟩))
        have HB1 := Lib.hid (((HBW.out.alloc hbs (.cells #[.int .i64 p, .int .u64 t, .int .i64 d] 72)).drew).trans (hcb.mono (by simp; omega)))
        clear hcb c0 c1 c2
        go_wp2_with fail
      · go_roundg (gk - 1)
        case measure => have := HIK.out; have := HLT.out; omega
        case rel => exact ⟨i + 1, by have := HIK.out; have := HLT.out; omega, by go_num, HN.out, HB1.out⟩
      · go_ret2
        refine ⟨_, ret_two HN.out.1.symm, ?_, HB1.out⟩
        rw [HN.out.2]
        exact Own.nil _ _ _
    · have HN := Lib.hid (apply_not (anyNeg_no (B := B) (C := C) (fun y hy => HOK.out y (by rw [take_all (by omega)]; exact hy))))
      have HM := Lib.hid (merge_any (HVB.out.below HBW.out) (HVC.out.below HBW.out) (RightP.sorted HB.out) (RightP.sorted HCR.out) HL.out)
      go_wp2_with fail
      go_at_call 54
      refine HM.out.mono ?_
      rintro e w1 ⟨v1, rfl, hown, hb1⟩
      have HO := Lib.hid (hown.mono hbs)
      have HB1 := Lib.hid (HBW.out.trans (hb1.mono hbs))
      clear hown hb1
      go_wp2_with fail
      go_ret2
      refine ⟨_, ret_two HN.out.1.symm, ?_, HB1.out⟩
      rw [HN.out.2]
      exact HO.out
end Go.Proofs.YtlkljeedlkbkgaaGreatDoor.Batch
