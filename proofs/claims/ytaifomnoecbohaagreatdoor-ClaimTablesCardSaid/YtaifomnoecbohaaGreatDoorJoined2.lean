/-
  PACKAGE claim: Give; the document's Take and Give; a Table as the document has it.
  PACKAGE marchlandref07: the document's Take and Give; PACKAGE marchlandlaw07: a Table as the document has it.
-/
import Derived.Test.YtaifomnoecbohaaGreatDoorJoined1
import Derived.Laws.StructEq
import Derived.Deep.RegionHeld3
import Derived.Deep.Cut
namespace Go.Proofs.YtaifomnoecbohaaGreatDoor.Tb
open Go.RowKit Rw Go.Lib
set_option linter.unusedVariables false

def eqSl (x y : So) : Bool := x.1 == y.1 && x.2 == y.2
theorem neqSl (a b : Int) (u v : Bool) (w : World) : (binOp .neq 125 (.agg #[.int .i64 a, .bool u]) (.agg #[.int .i64 b, .bool v])).run Tryz.prog w = .ok (.bool (!(a == b && u == v))) w := by
  have u3 := Tryz.underlying3
  have a3 := Tryz.isAgg3
  have z3 := Tryz.sizeOf3
  have u2 := Tryz.underlying4
  have a2 := Tryz.isAgg4
  have z2 := Tryz.sizeOf4
  have hS : Tryz.prog.underlying 125 = some (.struct (Tryz.prog.fieldsOf 125)) := by kernel_rfl
  have hp : Tryz.prog.stoodInHeld 125 = false := by kernel_rfl
  rw [run_neq_struct, show (10000 : Nat) = 9999 + 1 from rfl, run_equalIn_agg w 9999 125 _ _ hS hp]
  simp only [Program.fieldsOf, Tryz.underlying125]
  go_simp
  cases u <;> cases v <;> by_cases h1 : a = b <;> simp [h1]
theorem neqRs (a b : Int) (u v : Bool) (w : World) : (binOp .neq 80 (.agg #[.int .i64 a, .bool u]) (.agg #[.int .i64 b, .bool v])).run Tryz.prog w = .ok (.bool (!(a == b && u == v))) w := by
  have u3 := Tryz.underlying3
  have a3 := Tryz.isAgg3
  have z3 := Tryz.sizeOf3
  have u2 := Tryz.underlying4
  have a2 := Tryz.isAgg4
  have z2 := Tryz.sizeOf4
  have hS : Tryz.prog.underlying 80 = some (.struct (Tryz.prog.fieldsOf 80)) := by kernel_rfl
  have hp : Tryz.prog.stoodInHeld 80 = false := by kernel_rfl
  rw [run_neq_struct, show (10000 : Nat) = 9999 + 1 from rfl, run_equalIn_agg w 9999 80 _ _ hS hp]
  simp only [Program.fieldsOf, Tryz.underlying80]
  go_simp
  cases u <;> cases v <;> by_cases h1 : a = b <;> simp [h1]

set_option maxRecDepth 1000000 in
set_option maxHeartbeats 8000000 in
theorem give_neg {w : World} {v : Value} (id : Int) (hid : id < 0) :
    Calls Tryz.prog 24 #[v, .int .i64 id] w fun e w' => e = .returned (.tuple #[v, .bool false]) ∧ w = w' := by
  go_enter Tryz.func24, Tryz.ntmps24
  go_wp2
  go_ret2
  exact ⟨rfl, rfl⟩
set_option maxRecDepth 1000000 in
set_option maxHeartbeats 8000000 in
theorem give_no {w : World} {v : Value} {T : List So} {j : Nat} {g g' : Int} {u : Bool} (id : Int) (hv : Sl slK w v T) (hid : 0 ≤ id) (hid2 : id ≤ 9223372036854775807) (hm : id % 64 = (j : Int)) (hd : id / 64 = g) (hj : T[j]? = some (g', u)) (hn : (g' == g && u == true) = false) :
    Calls Tryz.prog 24 #[v, .int .i64 id] w fun e w' => e = .returned (.tuple #[v, .bool false]) ∧ w = w' := by
  have hjl := (List.getElem?_eq_some_iff.1 hj).1
  obtain ⟨ao, cap, rfl, hc1, hc2⟩ := hv.form
  obtain ⟨b, off, rfl, hbl, q⟩ := hv.at hj
  obtain ⟨c0, c1⟩ := at2 q
  simp only [slK_k] at c0 c1
  have hlen : T.length ≤ 9223372036854775807 := by omega
  have hj0 : (0 : Int) ≤ (j : Int) := Int.natCast_nonneg _
  have hj1 : (j : Int) < (T.length : Int) := by omega
  have hj2 : decide ((T.length : Int) ≤ (j : Int)) = false := decide_eq_false (by omega)
  have hj3 : decide (T.length ≤ j) = false := decide_eq_false (by omega)
  have hrun := fun w => neqSl g' g u true w
  rw [hn] at hrun
  clear hv hj hjl q hn
  go_enter Tryz.func24, Tryz.ntmps24
  go_wp2
  go_ret2
  exact ⟨rfl, rfl⟩
set_option maxRecDepth 1000000 in
set_option maxHeartbeats 8000000 in
theorem give_yes {w : World} {v : Value} {T : List So} {j : Nat} {g : Int} (id : Int) (hv : Sl slK w v T) (hid : 0 ≤ id) (hid2 : id ≤ 9223372036854775807) (hm : id % 64 = (j : Int)) (hd : id / 64 = g) (hj : T[j]? = some (g, true)) (hg : 0 ≤ g ∧ g ≤ 100000) (hl : T.length ≤ 64) :
    Calls Tryz.prog 24 #[v, .int .i64 id] w fun e w' => ∃ v', e = .returned (.tuple #[v', .bool true]) ∧ Own slK w' w.heap.size 125 v' (T.set j (g + 1, false)) ∧ Below w.heap.size w w' := by
  have HV := Lib.hid hv
  have HJ := Lib.hid hj
  have hjl := (List.getElem?_eq_some_iff.1 hj).1
  obtain ⟨ao, cap, rfl, hc1, hc2⟩ := hv.form
  obtain ⟨b, off, rfl, hbl, q⟩ := hv.at hj
  obtain ⟨c0, c1⟩ := at2 q
  simp only [slK_k] at c0 c1
  have hj0 : (0 : Int) ≤ (j : Int) := Int.natCast_nonneg _
  have hj1 : (j : Int) < (T.length : Int) := by omega
  have hj2 : decide ((T.length : Int) ≤ (j : Int)) = false := decide_eq_false (by omega)
  have hj3 : decide (T.length ≤ j) = false := decide_eq_false (by omega)
  have hg0 := hg.1
  have hg1 := hg.2
  have hrun := fun w => neqSl g g true true w
  rw [show (g == g && true == true) = true by simp] at hrun
  clear hv hj q hg
  go_enter Tryz.func24, Tryz.ntmps24
  go_wp2_with fail
  go_at_call 62
  refine (cloneT_any HV.out (by omega)).mono ?_
  rintro e w2 ⟨v', rfl, ho, hb⟩
  obtain ⟨a, cap', rfl, ha0, ha1, _, _⟩ := own_some ho (by omega)
  have HO := Lib.hid ho
  have HB := Lib.hid hb
  obtain ⟨d0, d1⟩ := at2 (ho.at HJ.out)
  have cf0 := ho.free (j * 2)
  have cf := ho.free (j * 2 + 1)
  simp only [slK_k] at d0 d1
  clear ho hb c0 c1
  go_wp2_with fail
  go_ret2
  exact ⟨_, rfl, own_put HO.out HJ.out (g + 1, false), (HB.out.setCell (p := ⟨a, j * 2, none⟩) ha0 _).setCell (p := ⟨a, j * 2 + 1, none⟩) ha0 _⟩
end Go.Proofs.YtaifomnoecbohaaGreatDoor.Tb
namespace Go.Proofs.YtaifomnoecbohaaGreatDoor.Tb
open Go.RowKit Rw Go.Lib
set_option linter.unusedVariables false

theorem own00 (w : World) (T : TypeId) : (w.alloc (.cells #[] T)).ownsRow w.heap.size T 2 (.slice (some ⟨w.heap.size, 0, none⟩) 0 0) 0 [] :=
  ⟨rfl, .inr ⟨w.heap.size, 0, #[], rfl, Nat.le_refl _, heap_alloc_new w _, Nat.le_refl _, by simp, rfl, rfl⟩⟩
theorem src_of {w : World} {ao : Option Addr} {n cap : Nat} {l : List So} (h : Sl slK w (.slice ao n cap) l) : Batch.Src w ao l.length (slK.flat l) := by
  have hh := h
  obtain ⟨ao', cap', hv, h1, h2, h3, h4⟩ := h
  simp at hv
  obtain ⟨rfl, rfl, rfl⟩ := hv
  rcases h1 with ⟨rfl, rfl⟩ | ⟨b, off, _, rfl, h1⟩
  · exact .inl ⟨rfl, rfl, rfl⟩
  · refine .inr ⟨_, rfl, fun j u hu => ?_⟩
    rw [show ((⟨b, off, none⟩ : Addr).add j) = ⟨b, off + j, none⟩ by unfold Addr.add; split <;> simp_all]
    exact hh.cells (by decide) j u hu
def Used (T : List So) (i : Nat) : Prop := ∀ x ∈ T.take i, x.2 = true
theorem FreeP.used {T : List So} {j : Nat} (h : FreeP T j) : ∀ i, i < j → ∀ g u, T[i]? = some (g, u) → u = true := by
  intro i hi g u hx
  rcases h with ⟨e, _⟩ | ⟨j', g', e, _, h⟩
  · omega
  · exact h (g, u) (List.mem_iff_getElem?.2 ⟨i, by rw [List.getElem?_take_of_lt (by omega)]; exact hx⟩)

set_option maxRecDepth 1000000 in
set_option maxHeartbeats 8000000 in
theorem reftake_yes {w : World} {v : Value} {T : List So} {j : Nat} {g : Int} (hv : Sl slK w v T) (hn : FreeP T j) (hj : T[j]? = some (g, false)) (hl : T.length ≤ 64) (hg : 0 ≤ g ∧ g ≤ 100000) :
    Calls Tryz.prog 23 #[v] w fun e w' => ∃ v', e = .returned (.tuple #[v', .int .i64 ((j : Int) + 64 * g)]) ∧ Own slK w' w.heap.size 80 v' (T.set j (g, true)) ∧ Below w.heap.size w w' := by
  obtain ⟨i0, hi, hz0, hz1, hz2⟩ := info_parts infoRs
  have HV := Lib.hid hv
  have HN := Lib.hid hn
  have HJ := Lib.hid hj
  have hjl := (List.getElem?_eq_some_iff.1 hj).1
  obtain ⟨ao, cap, rfl, hc1, hc2⟩ := hv.form
  have hw1 : IntKind.i64.wrap (64 * g) = 64 * g := by rw [IntKind.wrap_i64]; omega
  have hw2 : IntKind.i64.wrap ((j : Int) + 64 * g) = (j : Int) + 64 * g := by rw [IntKind.wrap_i64]; omega
  have HW := Lib.hid (And.intro hw1 hw2)
  clear hv hn hj hg hw1 hw2
  go_enter Tryz.func23, Tryz.ntmps23
  have h0 := own00 w 80
  have hB0 : Below w.heap.size w (w.alloc (.cells #[] 80)) := (Below.refl _ _).alloc (Nat.le_refl _) _
  have HS := Lib.hid (src_of (HV.out.below hB0))
  have HB0 := Lib.hid hB0
  have hs0 : w.heap.size ≤ (w.alloc (.cells #[] 80)).heap.size := hB0.size
  clear hB0
  go_wp2_with (at_builtin
               refine Batch.wpList_append_any _ rfl (.tmp 6) (.tmp 7) _ _ rfl w.heap.size 80 80 i0 (.agg #[.int .i64 0, .bool false]) 2 16 Tryz.underlying69 Tryz.underlying69 hi hz0 hz1 hz2 rfl (by decide) _ 0 [] rfl h0 ao T.length cap (slK.flat T) rfl (flat_length T) HS.out (flat_one T) (by unfold maxLen; omega) (by omega) hs0 ?_
               intro v1 w1 hown1 hg1 hat1
               have hO1 : Own slK w1 w.heap.size 80 v1 T := by
                 unfold Own
                 rw [Nat.zero_add, List.nil_append] at hown1
                 exact hown1
               have HB1 := Lib.hid (HB0.out.grown hg1 hs0 (fun k e => (h0.lt k e).1))
               obtain ⟨a, cap', rfl, ha0, ha1, hca, hcb⟩ := own_some hO1 (by omega)
               have HO1 := Lib.hid hO1
               clear hown1 hg1 hat1 h0 hO1 hs0)
  go_loopg [5] (j + 1) (fun k s5 wr => ∃ i : Nat, i + k = j + 1 ∧ i ≤ j ∧ s5 = .int .i64 i ∧ wr = w1)
  case atStart => exact ⟨0, by omega, by omega, rfl, rfl⟩
  case round =>
    obtain ⟨i, hik, hij, rfl, rfl⟩ := hrel
    have HIK := Lib.hid hik
    clear hik
    obtain ⟨g', u, hx⟩ := at_ofT (show i < T.length by omega)
    obtain ⟨c0, c1⟩ := at2 (HO1.out.at hx)
    have cf := HO1.out.free (i * 2 + 1)
    simp only [slK_k] at c0 c1
    have hi0 : (0 : Int) ≤ (i : Int) := Int.natCast_nonneg _
    have hi1 : (i : Int) < (T.length : Int) := by omega
    by_cases hlt : i < j
    · obtain rfl := HN.out.used i hlt g' u hx
      clear hx c0 cf
      go_wp2_with fail
      go_roundg (j - i)
      case measure => have := HIK.out; omega
      case rel => exact ⟨i + 1, by have := HIK.out; omega, by omega, by go_num, rfl⟩
    · obtain rfl : i = j := by omega
      have hx' := HJ.out
      rw [hx] at hx'
      simp at hx'
      obtain ⟨rfl, rfl⟩ := hx'
      have hw1 := HW.out.1
      have hw2 := HW.out.2
      clear hx hlt
      go_wp2_with fail
      go_quiet (fail)
      go_wp2_with fail
      go_ret2
      exact ⟨_, rfl, (own_used HO1.out HJ.out true).draw _, below_drewN (HB1.out.setCell (p := ⟨a, i * 2 + 1, none⟩) ha0 _) _⟩

set_option maxRecDepth 1000000 in
set_option maxHeartbeats 8000000 in
theorem reftake_no {w : World} {v : Value} {T : List So} (hv : Sl slK w v T) (hn : FreeP T (-1)) (hl : T.length ≤ 64) :
    Calls Tryz.prog 23 #[v] w fun e w' => ∃ v', e = .returned (.tuple #[v', .int .i64 (-1)]) ∧ Own slK w' w.heap.size 80 v' T ∧ Below w.heap.size w w' := by
  obtain ⟨i0, hi, hz0, hz1, hz2⟩ := info_parts infoRs
  have HV := Lib.hid hv
  have HU := Lib.hid (show ∀ x ∈ T, x.2 = true by
    rcases hn with ⟨_, h⟩ | ⟨j, g, e, _⟩
    · exact h
    · omega)
  obtain ⟨ao, cap, rfl, hc1, hc2⟩ := hv.form
  clear hv hn
  go_enter Tryz.func23, Tryz.ntmps23
  have h0 := own00 w 80
  have hB0 : Below w.heap.size w (w.alloc (.cells #[] 80)) := (Below.refl _ _).alloc (Nat.le_refl _) _
  have HS := Lib.hid (src_of (HV.out.below hB0))
  have HB0 := Lib.hid hB0
  have hs0 : w.heap.size ≤ (w.alloc (.cells #[] 80)).heap.size := hB0.size
  clear hB0
  go_wp2_with (at_builtin
               refine Batch.wpList_append_any _ rfl (.tmp 6) (.tmp 7) _ _ rfl w.heap.size 80 80 i0 (.agg #[.int .i64 0, .bool false]) 2 16 Tryz.underlying69 Tryz.underlying69 hi hz0 hz1 hz2 rfl (by decide) _ 0 [] rfl h0 ao T.length cap (slK.flat T) rfl (flat_length T) HS.out (flat_one T) (by unfold maxLen; omega) (by omega) hs0 ?_
               intro v1 w1 hown1 hg1 hat1
               have hO1 : Own slK w1 w.heap.size 80 v1 T := by
                 unfold Own
                 rw [Nat.zero_add, List.nil_append] at hown1
                 exact hown1
               have HB1 := Lib.hid (HB0.out.grown hg1 hs0 (fun k e => (h0.lt k e).1))
               obtain ⟨ao1, cap1, rfl⟩ := hO1.form2
               have HO1 := Lib.hid hO1
               clear hown1 hg1 hat1 h0 hO1 hs0)
  go_loopg [5] T.length (fun k s5 wr => ∃ i : Nat, i + k = T.length ∧ s5 = .int .i64 i ∧ wr = w1)
  case atStart => exact ⟨0, by omega, rfl, rfl⟩
  case round =>
    obtain ⟨i, hik, rfl, rfl⟩ := hrel
    have HIK := Lib.hid hik
    clear hik
    have hi0 : (0 : Int) ≤ (i : Int) := Int.natCast_nonneg _
    by_cases hlt : i < T.length
    · obtain ⟨g', u, hx⟩ := at_ofT hlt
      obtain rfl : u = true := HU.out _ (List.mem_of_getElem? hx)
      obtain ⟨a, cap', hv1, _⟩ := own_some HO1.out (by omega)
      simp only [Value.slice.injEq] at hv1
      obtain ⟨rfl, _, rfl⟩ := hv1
      obtain ⟨c0, c1⟩ := at2 (HO1.out.at hx)
      simp only [slK_k] at c0 c1
      have hi1 : (i : Int) < (T.length : Int) := by omega
      have HLT := Lib.hid hlt
      clear hx c0 hlt
      go_wp2_with fail
      go_roundg (gk - 1)
      case measure => have := HIK.out; have := HLT.out; omega
      case rel => exact ⟨i + 1, by have := HIK.out; have := HLT.out; omega, by go_num, rfl⟩
    · have hj2 : decide ((i : Int) < (T.length : Int)) = false := decide_eq_false (by omega)
      go_wp2_with fail
      go_ret2
      exact ⟨_, rfl, HO1.out, HB1.out⟩
end Go.Proofs.YtaifomnoecbohaaGreatDoor.Tb
