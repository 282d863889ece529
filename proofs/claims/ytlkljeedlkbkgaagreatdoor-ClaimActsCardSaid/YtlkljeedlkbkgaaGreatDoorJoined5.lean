/-
  YtlkljeedlkbkgaaGreatDoorBatchRefSums
  YtlkljeedlkbkgaaGreatDoorShelf
-/
import Derived.Test.YtlkljeedlkbkgaaGreatDoorJoined4
import Derived.Deep.LoopGhost
import Derived.Deep.QuietTactic
import Derived.BigQuiet
import Derived.BigRegion
import Derived.OwnWalk
import Derived.IntWalk
import Derived.Outline
import Derived.Shelf.Strings.Builder1
import Derived.Shelf.Small.Bits
import Derived.Shelf.Small.Wraps
import Derived.Shelf.Strings.BuilderF
import Derived.Shelf.Strings.BuilderK
import Derived.Shelf.Strconv.Itoa0
import Derived.Shelf.Strconv.Itoa1
import Derived.Shelf.LaysM
import Derived.Shelf.Strconv.Itoa2
import Derived.Shelf.Strconv.Itoa3
import Derived.Shelf.Bits.Mul64
import Derived.Shelf.Strings.BuilderCap
import Derived.Shelf.Slices.Turned
import Derived.Shelf.Slices.SearchI
import Derived.Shelf.SlicesE.Clone
import Derived.Shelf.SlicesQ.Equal
import Derived.Test.YtlkljeedlkbkgaaGreatDoorProg
namespace Go.Proofs.YtlkljeedlkbkgaaGreatDoor.Batch
open Go.RowKit Go.Sort
set_option linter.unusedVariables false
theorem infoRf2 : (Tryz.prog.info? 67).map (fun i => (i.zero, i.size, i.bytes)) = some (some (.agg #[.int .i64 0, .int .u64 0, .int .i64 0]), 3, 24) := by kernel_rfl
theorem Own.form' {w : World} {base : Nat} {T : TypeId} {v : Value} {l : List Ch} (h : Own w base T v l) : ∃ (ao : Option Addr) (cap : Nat), v = .slice ao l.length cap ∧ (l = [] ∨ ∃ g, ao = some ⟨g, 0, none⟩ ∧ base ≤ g ∧ g < w.heap.size) := by
  rcases h.form with ⟨rfl, rfl⟩ | ⟨g, cap, rfl, h1, h2, _⟩
  · exact ⟨none, 0, rfl, .inl rfl⟩
  · exact ⟨_, cap, rfl, .inr ⟨g, rfl, h1, h2⟩⟩
theorem Own.drew1 {w : World} {base : Nat} {T : TypeId} {v : Value} {l : List Ch} (h : Own w base T v l) : Own w.drew base T v l := h
theorem wrap64_wr' (n : Int) : wrap64 n = Batch.wr n := by unfold wrap64 Batch.wr; rfl
theorem ret_b {v : Value} {a b : Bool} (h : a = b) : Ending.returned (.tuple #[v, .bool a]) = Ending.returned (.tuple #[v, .bool b]) := by rw [h]
theorem news3' (W : World) (p t d : Int) (T : TypeId) : ∀ j u, ([Value.int .i64 p, .int .u64 t, .int .i64 d])[j]? = some u → (W.alloc (.cells #[.int .i64 p, .int .u64 t, .int .i64 d] T)).cell? ((⟨W.heap.size, 0, none⟩ : Addr).add j) = some u := by
  intro j u hj
  match j, hj with
  | 0, hj => simp at hj; subst hj; simp [Addr.add]
  | 1, hj => simp at hj; subst hj; simp [Addr.add]
  | 2, hj => simp at hj; subst hj; simp [Addr.add]
set_option maxRecDepth 1000000 in
set_option maxHeartbeats 16000000 in
theorem refsums_any {w : World} {v : Value} {l : List Ch} (hv : Rd w v l) (hl : l.length ≤ 100000) :
    Calls Tryz.prog 106 #[v] w fun e w' => ∃ v' : Value, (e = .returned (.tuple #[v', .bool (!overK l)])) ∧ Own w' w.heap.size 67 v' (sumsR l) ∧ Below w.heap.size w w' := by
  have hwf := hv.wf
  obtain ⟨ao, cap, rfl, hlc, hcm, _, hcell⟩ := hv
  obtain ⟨i0, hi, hz0, hz1, hz2⟩ := info_parts infoRf2
  have HC := Lib.hid hcell
  have HL := Lib.hid hl
  have HWF := Lib.hid hwf
  have hlen : l.length ≤ 9223372036854775807 := by omega
  clear hwf hcell hlc hcm hl
  go_enter Tryz.func106, Tryz.ntmps106
  go_wp2
  go_loopg [4, 5] l.length (fun k o t wr => ∃ i : Nat, i + k = l.length ∧ t = .int .i64 i ∧ Own wr w.heap.size 67 o (tab (l.take i)) ∧ Below w.heap.size w wr)
  case atStart => exact ⟨0, by omega, rfl, Own.nil _ _ _, Below.refl _ _⟩
  case round =>
    obtain ⟨i, hik, rfl, hown, hbw⟩ := hrel
    have HIK := Lib.hid hik
    have HOWN := Lib.hid hown
    have HBW := Lib.hid hbw
    have hAl : (tab (l.take i)).length ≤ 100000 := by have := tab_length (l.take i); have := HL.out; rw [List.length_take] at *; omega
    have hAl2 : (tab (l.take i)).length ≤ 9223372036854775807 := by omega
    obtain ⟨ao4, cap4, rfl, hf4⟩ := hown.form'
    have HF4 := Lib.hid hf4
    have HR := Lib.hid (tab_rising (l.take i))
    clear hown hbw hf4
    by_cases hlt1 : i < l.length
    · obtain ⟨x, hx, hxm⟩ := at_of hlt1
      have hne : l ≠ [] := by intro e; rw [e] at hlt1; simp at hlt1
      obtain ⟨b, off, hao, hcc⟩ := HC.out.resolve_left hne
      subst hao
      have q := hcc i x hx
      have hbl := q.lt
      obtain ⟨c0, c1, c2⟩ := q.below HBW.out hbl
      have HX := Lib.hid hx
      have hwx := HWF.out x hxm
      have HWX := Lib.hid hwx
      obtain ⟨p, t, d⟩ := x
      simp only at c0 c1 c2
      have HLT := Lib.hid hlt1
      have HBL := Lib.hid (show b < w.heap.size from hbl)
      have HT := Lib.hid (tab_take hx)
      have hi0' : (0 : Int) ≤ (i : Int) := Int.natCast_nonneg _
      have hi1 : (i : Int) < (l.length : Int) := by omega
      clear hx hxm hne hcc q hbl HC hik hwx
      generalize hA : tab (l.take i) = A at *
      clear hA
      go_wp2_with fail
      obtain ⟨wo, rfl⟩ : ∃ wo : World, wo = wr := ⟨_, rfl⟩
      go_loopg [6, 7] A.length (fun k2 f tt wr => ∃ (k : Nat) (fi : Int), k + k2 = A.length ∧ tt = .int .i64 k ∧ f = .int .i64 fi ∧ Sch A ⟨p, t, d⟩ k fi ∧ ∃ q, wr = wo.drewN q)
      case atStart => exact ⟨0, -1, by omega, rfl, rfl, Sch.start _ _, 0, rfl⟩
      case round =>
        obtain ⟨k, fi, hkk, rfl, rfl, hsch, q, rfl⟩ := hrel
        have HKK := Lib.hid hkk
        have HSCH := Lib.hid hsch
        have hk0 : (0 : Int) ≤ (k : Int) := Int.natCast_nonneg _
        clear hkk hsch
        by_cases hlt2 : k < A.length
        · obtain ⟨y, hy, _⟩ := at_of hlt2
          obtain ⟨g, rfl, hg1, hg2⟩ := HF4.out.resolve_left (fun e => by rw [e] at hlt2; simp at hlt2)
          obtain ⟨k0, k1, k2⟩ := HOWN.out.at hy
          have hk1 : (k : Int) < (A.length : Int) := by omega
          have HLT2 := Lib.hid hlt2
          by_cases hp : y.p = p
          · have hpe : (y.p == p) = true := by rw [beq_iff_eq]; exact hp
            by_cases ht : y.t = t
            · have hte : (y.t == t) = true := by rw [beq_iff_eq]; exact ht
              have HN := Lib.hid (HSCH.out.hit hy ⟨hp, ht⟩)
              obtain ⟨yp, yt, yd⟩ := y
              simp only at k0 k1 k2 hpe hte
              clear hy hp ht
              go_wp2_with fail
              go_quiet (fail)
              go_wp2_with fail
              go_roundg (A.length - (k + 1))
              case measure => have := HKK.out; have := HLT2.out; omega
              case rel => exact ⟨k + 1, k, by have := HKK.out; have := HLT2.out; omega, by go_num, rfl, HN.out, _, rfl⟩
            · have hte : (y.t == t) = false := by rw [beq_eq_false_iff_ne]; exact ht
              have HN := Lib.hid (HSCH.out.miss hy (fun h => ht h.2))
              obtain ⟨yp, yt, yd⟩ := y
              simp only at k0 k1 k2 hpe hte
              clear hy hp ht
              go_wp2_with fail
              go_quiet (fail)
              go_wp2_with fail
              go_roundg (A.length - (k + 1))
              case measure => have := HKK.out; have := HLT2.out; omega
              case rel => exact ⟨k + 1, fi, by have := HKK.out; have := HLT2.out; omega, by go_num, rfl, HN.out, _, rfl⟩
          · have hpe : (y.p == p) = false := by rw [beq_eq_false_iff_ne]; exact hp
            have HN := Lib.hid (HSCH.out.miss hy (fun h => hp h.1))
            obtain ⟨yp, yt, yd⟩ := y
            simp only at k0 k1 k2 hpe
            clear hy hp
            go_wp2_with fail
            go_quiet (fail)
            go_wp2_with fail
            go_roundg (A.length - (k + 1))
            case measure => have := HKK.out; have := HLT2.out; omega
            case rel => exact ⟨k + 1, fi, by have := HKK.out; have := HLT2.out; omega, by go_num, rfl, HN.out, _, rfl⟩
        · have hend := HSCH.out.end (by omega)
          have HOWN1 := Lib.hid (HOWN.out.draw q)
          have HBW1 := Lib.hid (below_drewN HBW.out q)
          rcases hend with ⟨rfl, hno⟩ | ⟨j, y, hj, rfl, hy, hk⟩
          · have HNO := Lib.hid hno
            clear hno
            have hown1 := HOWN1.out
            have hbs : w.heap.size ≤ wo.heap.size := by have := HBW.out.size; exact this
            go_wp2_with (at_builtin; refine wpList_append_own _ rfl _ _ 27 rfl w.heap.size 67 i0 (.agg #[.int .i64 0, .int .u64 0, .int .i64 0]) 3 24 Tryz.underlying27 hi hz0 hz1 hz2 rfl (by decide) _ _ _ rfl (World.ownsRow.alloc hown1 _) ⟨wo.heap.size, 0, none⟩ 1 1 [.int .i64 p, .int .u64 t, .int .i64 d] rfl rfl (news3' _ _ _ _ _) ?c2 ?c3 ?c4 ?c5 ?_)
            case c2 => intro u hu; simp at hu; rcases hu with rfl | rfl | rfl <;> rfl
            case c3 => unfold maxLen; omega
            case c4 => omega
            case c5 => simp; omega
            intro v2 w2 hown' hgrow _
            have hb3 : Below w.heap.size w w2 := (HBW1.out.alloc (by simpa using hbs) _).grown hgrow (by simp; omega) (fun k e => (hown1.lt k e).1)
            have hO : Own w2 w.heap.size 67 v2 (A ++ [⟨p, t, d⟩]) := by
              unfold Own
              rw [List.length_append, cellsL_snoc]
              exact hown'
            have hform := hO.form'
            rw [show (A ++ [(⟨p, t, d⟩ : Ch)]).length = A.length + 1 by simp] at hform
            obtain ⟨ao2, cap2, rfl, hf2⟩ := hform
            obtain ⟨g, rfl, hg1, hg2⟩ := hf2.resolve_left (by simp)
            have HO := Lib.hid hO
            have HB3 := Lib.hid hb3
            have HINS := Lib.hid (Ins.start A ⟨p, t, d⟩)
            clear hown' hgrow hb3 hO hf2 hown1
            go_wp2_with fail
            go_loopg [8] A.length (fun k3 kk wr => ∃ (k : Nat) (L : List Ch), k ≤ k3 ∧ kk = .int .i64 k ∧ Ins A ⟨p, t, d⟩ k L ∧ Own wr w.heap.size 67 (.slice (some ⟨g, 0, none⟩) (A.length + 1) cap2) L ∧ Below w.heap.size w wr)
            case atStart => exact ⟨A.length, _, Nat.le_refl _, rfl, HINS.out, HO.out, HB3.out⟩
            case round =>
              obtain ⟨k, L, hk3, hkk, hins, hown, hbw⟩ := hrel
              have HK3 := Lib.hid hk3
              have HI := Lib.hid hins
              have HO2 := Lib.hid hown
              have HBL2 := Lib.hid hbw
              have hkl : k ≤ A.length := hins.2.1
              have hLl := Lib.hid hins.len
              clear hins hown hbw hk3
              cases k with
              | zero =>
                obtain rfl := hkk
                have HD := Lib.hid (HI.out.done0)
                go_wp2_with fail
                go_quiet (fail)
                go_wp2_with fail
                go_roundg (l.length - (i + 1))
                case measure => have := HIK.out; have := HLT.out; omega
                case rel => exact ⟨i + 1, by have := HIK.out; have := HLT.out; omega, by go_num, by rw [HT.out, ← HD.out]; exact HO2.out.draw _, below_drewN HBL2.out _⟩
              | succ m =>
                have hkk' : u8 = .int .i64 ((m : Int) + 1) := by rw [hkk]; rfl
                clear hkk
                obtain rfl := hkk'
                obtain ⟨y, hyA, hyL⟩ := HI.out.ahead
                obtain ⟨k0, k1, k2⟩ := HO2.out.at hyL
                obtain ⟨x0, x1, x2⟩ := HO2.out.at HI.out.here
                have hm0 : (0 : Int) ≤ (m : Int) := Int.natCast_nonneg _
                have hm1 : (m : Int) + 1 < (A.length : Int) + 1 := by omega
                have hm2 : (m : Int) < (A.length : Int) + 1 := by omega
                have hg0 : decide ((0 : Int) < (m : Int) + 1) = true := decide_eq_true (by omega)
                have hwk : IntKind.i64.wrap (m : Int) = (m : Int) := IntWalk.i64_in _ (by omega)
                have HB := Lib.hid (fun W => before_any ⟨p, t, d⟩ y W)
                have hm3 : ((m : Int) + 1).toNat = m + 1 := by omega
                have hm4 : m < A.length := by omega
                have hm5 : (0 : Int) ≤ (m : Int) + 1 := by omega
                have hglt : g < wr.heap.size := Lib.lt_of_cell k0
                simp only at x0 x1 x2
                have HLTB := Lib.hid (fun (h : ltB ⟨p, t, d⟩ y = true) => (of_decide_eq_true h : Lt ⟨p, t, d⟩ y))
                cases hlb : ltB ⟨p, t, d⟩ y
                · obtain ⟨yp, yt, yd⟩ := y
                  simp only at k0 k1 k2
                  have HYL := Lib.hid hyL
                  have HYA := Lib.hid hyA
                  have HD := Lib.hid (HI.out.done HR.out HNO.out hyA (fun h => by rw [ltB_true h] at hlb; exact absurd hlb (by decide)))
                  clear hyA hyL
                  go_wp2_with fail
                  go_region_held3 (fun w' => w'.cell? ⟨g, m * 3, none⟩ = some (.int .i64 yp) ∧ w'.cell? ⟨g, m * 3 + 1, none⟩ = some (.int .u64 yt) ∧ w'.cell? ⟨g, m * 3 + 2, none⟩ = some (.int .i64 yd) ∧ w'.cell? ⟨g, (m + 1) * 3, none⟩ = some (.int .i64 p) ∧ w'.cell? ⟨g, (m + 1) * 3 + 1, none⟩ = some (.int .u64 t) ∧ w'.cell? ⟨g, (m + 1) * 3 + 2, none⟩ = some (.int .i64 d))
                      (first
                        | go_keep
                        | (go_split_ands
                           refine ⟨?_, ?_, ?_, ?_, ?_, ?_⟩ <;> (rw [hcb.cell (by simp; omega)]; assumption)))
                      ((go_at_call 139; refine (HB.out _).mono ?_; rintro e w1 ⟨rfl, hcb⟩))
                  have hb1 : Below wr.heap.size wr w1 := ((Below.refl _ _).drew).trans hcb
                  have HO3 := Lib.hid (HO2.out.below hb1)
                  have HBL3 := Lib.hid (HBL2.out.trans (hb1.mono HBL2.out.size))
                  clear hcb hb1 k0 k1 k2 x0 x1 x2
                  go_wp2_with fail
                  go_roundg (l.length - (i + 1))
                  case measure => have := HIK.out; have := HLT.out; omega
                  case rel => exact ⟨i + 1, by have := HIK.out; have := HLT.out; omega, by go_num, by rw [HT.out, ← HD.out]; exact HO3.out, HBL3.out⟩
                · obtain ⟨yp, yt, yd⟩ := y
                  simp only at k0 k1 k2
                  have HYL := Lib.hid hyL
                  have HYA := Lib.hid hyA
                  clear hyA hyL
                  go_wp2_with fail
                  go_region_held3 (fun w' => w'.cell? ⟨g, m * 3, none⟩ = some (.int .i64 yp) ∧ w'.cell? ⟨g, m * 3 + 1, none⟩ = some (.int .u64 yt) ∧ w'.cell? ⟨g, m * 3 + 2, none⟩ = some (.int .i64 yd) ∧ w'.cell? ⟨g, (m + 1) * 3, none⟩ = some (.int .i64 p) ∧ w'.cell? ⟨g, (m + 1) * 3 + 1, none⟩ = some (.int .u64 t) ∧ w'.cell? ⟨g, (m + 1) * 3 + 2, none⟩ = some (.int .i64 d))
                      (first
                        | go_keep
                        | (go_split_ands
                           refine ⟨?_, ?_, ?_, ?_, ?_, ?_⟩ <;> (rw [hcb.cell (by simp; omega)]; assumption)))
                      ((go_at_call 139; refine (HB.out _).mono ?_; rintro e w1 ⟨rfl, hcb⟩))
                  have hb1 : Below wr.heap.size wr w1 := ((Below.refl _ _).drew).trans hcb
                  have HO3 := Lib.hid (HO2.out.below hb1)
                  have HBL3 := Lib.hid (HBL2.out.trans (hb1.mono HBL2.out.size))
                  clear hcb hb1 k0 k1 k2 x0 x1 x2
                  obtain ⟨k0, k1, k2⟩ := HO3.out.at HYL.out
                  obtain ⟨x0, x1, x2⟩ := HO3.out.at HI.out.here
                  have f0 := fun o => HO3.out.free o
                  simp only at k0 k1 k2 x0 x1 x2
                  go_wp2_with fail
                  go_region
                  go_wp2
                  go_roundg m
                  case measure => have := HK3.out; omega
                  case rel =>
                    refine ⟨m, _, Nat.le_refl _, by go_num, HI.out.swap HYA.out (HLTB.out hlb), ?_, ?_⟩
                    · have h1 := HO3.out.put HYL.out ⟨p, t, d⟩
                      have h2 := h1.put (i := m + 1) (x := ⟨p, t, d⟩) (by rw [List.getElem?_set_ne (by omega)]; exact HI.out.here) ⟨yp, yt, yd⟩
                      exact h2.drew1
                    · exact (((((((HBL3.out.setCell hg1 _).setCell hg1 _).setCell hg1 _).setCell hg1 _).setCell hg1 _).setCell hg1 _)).drew
          · obtain ⟨g, rfl, hg1, hg2⟩ := HF4.out.resolve_left (fun e => by rw [e] at hj; simp at hj)
            obtain ⟨k0, k1, k2⟩ := HOWN.out.at hy
            have f2 := HOWN.out.free (j * 3 + 2)
            have hj0 : (0 : Int) ≤ (j : Int) := Int.natCast_nonneg _
            have hj1 : (j : Int) < (A.length : Int) := by omega
            have HADD := Lib.hid (add_found HR.out hy hk)
            have HY := Lib.hid hy
            obtain ⟨yp, yt, yd⟩ := y
            simp only at k0 k1 k2 HADD
            clear hy hk
            go_wp2_with fail
            go_region
            go_wp2
            go_roundg (l.length - (i + 1))
            case measure => have := HIK.out; have := HLT.out; omega
            case rel =>
              refine ⟨i + 1, by have := HIK.out; have := HLT.out; omega, by go_num, ?_, ?_⟩
              · rw [HT.out, HADD.out]
                have h1 := HOWN1.out.setD HY.out (wr (yd + d))
                have e : (A.set j ⟨yp, yt, wr (yd + d)⟩).length = A.length := by simp
                rw [wrap64_wr']
                exact h1.drew1
              · exact (HBW1.out.setCell hg1 _).drew
    · have HD := Lib.hid (show l.take i = l from take_all (by omega))
      rw [HD.out] at HOWN HF4 HR hAl hAl2
      rw [HD.out]
      clear HD
      have HK := Lib.hid (fun (O : List Ch) (i : Nat) (h : Kept (tab l) i O) (hi : (tab l).length ≤ i) => h.end hi)
      have HOV := Lib.hid (fun (i : Nat) (x : Ch) (hx : (tab l)[i]? = some x) (ho : overB x.d = true) => over_at hx ho)
      have HSE := Lib.hid (fun h : overK l = true => sums_over h)
      have HSO := Lib.hid (fun h : overK l = false => sums_ok h)
      generalize hA : tab l = A at *
      clear hA
      have hbs : w.heap.size ≤ wr.heap.size := HBW.out.size
      clear hik
      go_wp2_with fail
      obtain ⟨wo, rfl⟩ : ∃ wo : World, wo = wr := ⟨_, rfl⟩
      go_loopg [9, 10] A.length (fun k o t wr => ∃ (j : Nat) (O : List Ch), j + k = A.length ∧ t = .int .i64 j ∧ Kept A j O ∧ Own wr wo.heap.size 67 o O ∧ Below wo.heap.size wo wr)
      case atStart => exact ⟨0, [], by omega, rfl, Kept.start A, Own.nil _ _ _, Below.refl _ _⟩
      case round =>
        obtain ⟨j, O, hjk, rfl, hkept, hown, hbw⟩ := hrel
        have HJK := Lib.hid hjk
        have HKE := Lib.hid hkept
        have HO := Lib.hid hown
        have HB := Lib.hid hbw
        have hOl : O.length ≤ 100000 := by have := hkept.len; omega
        have hj0 : (0 : Int) ≤ (j : Int) := Int.natCast_nonneg _
        have hbs2 : wo.heap.size ≤ wr.heap.size := hbw.size
        clear hjk hkept hown hbw
        by_cases hlt2 : j < A.length
        · obtain ⟨y, hy, _⟩ := at_of hlt2
          obtain ⟨g, rfl, hg1, hg2⟩ := HF4.out.resolve_left (fun e => by rw [e] at hlt2; simp at hlt2)
          obtain ⟨k0, k1, k2⟩ := (HOWN.out.below HB.out).at hy
          have hj1 : (j : Int) < (A.length : Int) := by omega
          have HLT := Lib.hid hlt2
          cases ho : overB y.d
          · by_cases h0 : y.d = 0
            · have he : (y.d != 0) = false := by rw [h0]; rfl
              have HN := Lib.hid (HKE.out.skip hy h0)
              obtain ⟨yp, yt, yd⟩ := y
              simp only at k0 k1 k2 he ho
              clear hy h0
              go_wp2_with (go_at_call 111; refine (within_any _ _).mono ?_; rintro e w' ⟨rfl, rfl⟩)
              go_roundg (A.length - (j + 1))
              case measure => have := HJK.out; have := HLT.out; omega
              case rel => exact ⟨j + 1, O, by have := HJK.out; have := HLT.out; omega, by go_num, HN.out, HO.out, HB.out⟩
            · have he : (y.d != 0) = true := by rw [bne_iff_ne]; exact h0
              have HN := Lib.hid (HKE.out.step hy ho h0)
              have hown := HO.out
              obtain ⟨yp, yt, yd⟩ := y
              simp only at k0 k1 k2 he ho
              clear hy h0
              go_wp2_with (first
                | (go_at_call 111; refine (within_any _ _).mono ?_; rintro e w' ⟨rfl, rfl⟩)
                | (at_builtin; refine wpList_append_own _ rfl _ _ 27 rfl wo.heap.size 67 i0 (.agg #[.int .i64 0, .int .u64 0, .int .i64 0]) 3 24 Tryz.underlying27 hi hz0 hz1 hz2 rfl (by decide) _ _ _ rfl (World.ownsRow.alloc hown _) ⟨wr.heap.size, 0, none⟩ 1 1 [.int .i64 yp, .int .u64 yt, .int .i64 yd] rfl rfl (news3' _ _ _ _ _) ?c2 ?c3 ?c4 ?c5 ?_))
              case c2 => intro u hu; simp at hu; rcases hu with rfl | rfl | rfl <;> rfl
              case c3 => unfold maxLen; omega
              case c4 => omega
              case c5 => simp; omega
              intro v2 w2 hown' hgrow _
              have hb3 : Below wo.heap.size wo w2 := (HB.out.alloc hbs2 _).grown hgrow (by simp; omega) (fun k e => (hown.lt k e).1)
              have HO2 := Lib.hid hown'
              have HB3 := Lib.hid hb3
              clear hown hown' hgrow hb3
              go_wp2
              go_roundg (A.length - (j + 1))
              case measure => have := HJK.out; have := HLT.out; omega
              case rel =>
                refine ⟨j + 1, _, by have := HJK.out; have := HLT.out; omega, by go_num, HN.out, ?_, HB3.out⟩
                unfold Own
                rw [List.length_append, cellsL_snoc]
                exact HO2.out
          · have HOK := Lib.hid (HOV.out j y hy ho)
            obtain ⟨yp, yt, yd⟩ := y
            simp only at k0 k1 k2 ho
            clear hy
            go_wp2_with (go_at_call 111; refine (within_any _ _).mono ?_; rintro e w' ⟨rfl, rfl⟩)
            go_ret2
            refine ⟨_, ret_b (by rw [HOK.out]; rfl), ?_, HBW.out.trans (HB.out.mono HBW.out.size)⟩
            rw [(HSE.out HOK.out).2]
            exact Own.nil _ _ _
        · have HD := Lib.hid (HK.out O j HKE.out (by omega))
          go_wp2_with fail
          go_ret2
          refine ⟨_, ret_b (by rw [HD.out.2]; rfl), ?_, HBW.out.trans (HB.out.mono HBW.out.size)⟩
          rw [(HSO.out HD.out.2).2, ← HD.out.1]
          exact HO.out.mono HBW.out.size
end Go.Proofs.YtlkljeedlkbkgaaGreatDoor.Batch
namespace Go.Proofs
open Go.Shelf
def Tryz.lays169_ren : Go.Shelf.Ren := ⟨fun | 169 => 72 | n => n, fun | 70 => 129 | 9 => 9 | 0 => 0 | 72 => 132 | 37 => 130 | 127 => 177 | 3 => 3 | 5 => 5 | n => n, fun | n => n⟩
theorem Tryz.lays169 : Go.Proofs.Lays.n169 Tryz.prog Tryz.lays169_ren := {
  mixed := by kernel_rfl
  f169 := Tryz.func72.trans (congrArg some (by kernel_rfl))
  t0 := Tryz.underlying0
  a0 := Tryz.isAgg0
  z0 := Tryz.sizeOf0
  v0 := Tryz.zeroValue0
  t3 := Tryz.underlying3
  a3 := Tryz.isAgg3
  z3 := Tryz.sizeOf3
  v3 := Tryz.zeroValue3
  t9 := Tryz.underlying9
  a9 := Tryz.isAgg9
  z9 := Tryz.sizeOf9
  v9 := Tryz.zeroValue9
  t37 := Tryz.underlying130
  a37 := Tryz.isAgg130
  z37 := Tryz.sizeOf130
  v37 := Tryz.zeroValue130
  t70 := Tryz.underlying129
  a70 := Tryz.isAgg129
  z70 := Tryz.sizeOf129
  v70 := Tryz.zeroValue129
  t72 := Tryz.underlying132
  a72 := Tryz.isAgg132
  z72 := Tryz.sizeOf132
  v72 := Tryz.zeroValue132
  t127 := Tryz.underlying177
  a127 := Tryz.isAgg177
  z127 := Tryz.sizeOf177
  v127 := Tryz.zeroValue177 }
theorem Tryz.Builder_Extra_169 : Builder.Extra Tryz.prog Tryz.lays169_ren := {
  sizeBuilder := by kernel_rfl
  liesBuilder := by kernel_rfl
  t5 := Tryz.underlying5
  a5 := Tryz.isAgg5
  z5 := Tryz.sizeOf5
  v5 := Tryz.zeroValue5
  infoByte := by kernel_rfl
  cellsByte := by kernel_rfl
  sizeByte := by kernel_rfl
  neB5 := by decide }
open Go.RowKit in
open Go.RowKit in
open Go.RowKit in
theorem Tryz.Builder_String_any (B b : Nat) (l : List UInt8) (w : World) (h : Lib.IsBuilder 132 5 B b (Lib.byteCells l) w) (hBw : B ≤ w.heap.size) :
    Calls Tryz.prog 72 #[.pointer (some ⟨b, 0, none⟩)] w fun e w' => e = .returned (.string ⟨l.toArray⟩) ∧ Below B w w' := Any.Builder_String_any Tryz.lays169 Tryz.Builder_Extra_169 B b l w h hBw
open Go.RowKit in
open Go.RowKit in
open Go.RowKit in
open Go.RowKit in
open Go.RowKit in
open Go.RowKit in
open Go.RowKit in
open Go.RowKit in
open Go.Lib in
open Go.Lib in
open Go.Lib in
open Go.Lib in
open Go.RowKit Go.Sort Go.Lib in
def Tryz.laysM246_ren : Go.Shelf.Ren := ⟨fun | 246 => 141 | 283 => 153 | 284 => 154 | 285 => 155 | 286 => 156 | 129 => 131 | 317 => 159 | 318 => 160 | 319 => 161 | 320 => 162 | 337 => 163 | 338 => 164 | n => n, fun | 2 => 2 | 3 => 3 | 9 => 9 | 4 => 4 | 171 => 241 | 0 => 0 | 53 => 36 | 37 => 130 | 5 => 5 | 173 => 243 | 212 => 251 | 51 => 207 | 20 => 20 | 213 => 252 | 46 => 157 | 232 => 253 | 233 => 254 | n => n, fun | 17 => 1 | 18 => 2 | 19 => 3 | n => n⟩
open Go.RowKit Go.Sort Go.Lib in
open Go.RowKit Go.Sort Go.Lib in
def Tryz.laysM243_ren : Go.Shelf.Ren := ⟨fun | 243 => 108 | 246 => 141 | 283 => 153 | 284 => 154 | 285 => 155 | 286 => 156 | 129 => 131 | 317 => 159 | 318 => 160 | 319 => 161 | 320 => 162 | 337 => 163 | 338 => 164 | n => n, fun | 3 => 3 | 9 => 9 | 2 => 2 | 4 => 4 | 171 => 241 | 0 => 0 | 53 => 36 | 37 => 130 | 5 => 5 | 173 => 243 | 212 => 251 | 51 => 207 | 20 => 20 | 213 => 252 | 46 => 157 | 232 => 253 | 233 => 254 | n => n, fun | 17 => 1 | 18 => 2 | 19 => 3 | n => n⟩
open Go.RowKit Go.Sort Go.Lib in
open Go.RowKit Go.Sort Go.Lib in
def Tryz.laysM171_ren : Go.Shelf.Ren := ⟨fun | 171 => 70 | 243 => 108 | 246 => 141 | 283 => 153 | 284 => 154 | 285 => 155 | 286 => 156 | 129 => 131 | 317 => 159 | 318 => 160 | 319 => 161 | 320 => 162 | 337 => 163 | 338 => 164 | n => n, fun | 3 => 3 | 9 => 9 | 2 => 2 | 4 => 4 | 171 => 241 | 0 => 0 | 53 => 36 | 37 => 130 | 5 => 5 | 173 => 243 | 212 => 251 | 51 => 207 | 20 => 20 | 213 => 252 | 46 => 157 | 232 => 253 | 233 => 254 | n => n, fun | 17 => 1 | 18 => 2 | 19 => 3 | n => n⟩
theorem Tryz.laysM171 : Go.Proofs.LaysM.n171 Tryz.prog Tryz.laysM171_ren := {
  mixed := by kernel_rfl
  f129 := Tryz.func131.trans (congrArg some (by kernel_rfl))
  f171 := Tryz.func70.trans (congrArg some (by kernel_rfl))
  f243 := Tryz.func108.trans (congrArg some (by kernel_rfl))
  f246 := Tryz.func141.trans (congrArg some (by kernel_rfl))
  f283 := Tryz.func153.trans (congrArg some (by kernel_rfl))
  f284 := Tryz.func154.trans (congrArg some (by kernel_rfl))
  f285 := Tryz.func155.trans (congrArg some (by kernel_rfl))
  f286 := Tryz.func156.trans (congrArg some (by kernel_rfl))
  f317 := Tryz.func159.trans (congrArg some (by kernel_rfl))
  f318 := Tryz.func160.trans (congrArg some (by kernel_rfl))
  f319 := Tryz.func161.trans (congrArg some (by kernel_rfl))
  f320 := Tryz.func162.trans (congrArg some (by kernel_rfl))
  f337 := Tryz.func163.trans (congrArg some (by kernel_rfl))
  f338 := Tryz.func164.trans (congrArg some (by kernel_rfl))
  t0 := Tryz.underlying0
  a0 := Tryz.isAgg0
  z0 := Tryz.sizeOf0
  v0 := Tryz.zeroValue0
  t2 := Tryz.underlying2
  a2 := Tryz.isAgg2
  z2 := Tryz.sizeOf2
  v2 := Tryz.zeroValue2
  t3 := Tryz.underlying3
  a3 := Tryz.isAgg3
  z3 := Tryz.sizeOf3
  v3 := Tryz.zeroValue3
  t4 := Tryz.underlying4
  a4 := Tryz.isAgg4
  z4 := Tryz.sizeOf4
  v4 := Tryz.zeroValue4
  t5 := Tryz.underlying5
  a5 := Tryz.isAgg5
  z5 := Tryz.sizeOf5
  v5 := Tryz.zeroValue5
  t9 := Tryz.underlying9
  a9 := Tryz.isAgg9
  z9 := Tryz.sizeOf9
  v9 := Tryz.zeroValue9
  t20 := Tryz.underlying20
  a20 := Tryz.isAgg20
  z20 := Tryz.sizeOf20
  v20 := Tryz.zeroValue20
  t37 := Tryz.underlying130
  a37 := Tryz.isAgg130
  z37 := Tryz.sizeOf130
  v37 := Tryz.zeroValue130
  t46 := Tryz.underlying157
  a46 := Tryz.isAgg157
  z46 := Tryz.sizeOf157
  v46 := Tryz.zeroValue157
  t51 := Tryz.underlying207
  a51 := Tryz.isAgg207
  z51 := Tryz.sizeOf207
  v51 := Tryz.zeroValue207
  t53 := Tryz.underlying36
  a53 := Tryz.isAgg36
  z53 := Tryz.sizeOf36
  v53 := Tryz.zeroValue36
  t171 := Tryz.underlying241
  a171 := Tryz.isAgg241
  z171 := Tryz.sizeOf241
  v171 := Tryz.zeroValue241
  t173 := Tryz.underlying243
  a173 := Tryz.isAgg243
  z173 := Tryz.sizeOf243
  v173 := Tryz.zeroValue243
  t212 := Tryz.underlying251
  a212 := Tryz.isAgg251
  z212 := Tryz.sizeOf251
  v212 := Tryz.zeroValue251
  t213 := Tryz.underlying252
  a213 := Tryz.isAgg252
  z213 := Tryz.sizeOf252
  t232 := Tryz.underlying253
  a232 := Tryz.isAgg253
  z232 := Tryz.sizeOf253
  v232 := Tryz.zeroValue253
  t233 := Tryz.underlying254
  a233 := Tryz.isAgg254
  z233 := Tryz.sizeOf254
  v233 := Tryz.zeroValue254
  g17 := by kernel_rfl
  g18 := by kernel_rfl
  g19 := by kernel_rfl
  i0 := by kernel_rfl
  i2 := by kernel_rfl
  i3 := by kernel_rfl
  i4 := by kernel_rfl
  i5 := by kernel_rfl
  i9 := by kernel_rfl
  i20 := by kernel_rfl
  i37 := by kernel_rfl
  i46 := by kernel_rfl
  i51 := by kernel_rfl
  i53 := by kernel_rfl
  i171 := by kernel_rfl
  i173 := by kernel_rfl
  i212 := by kernel_rfl
  i232 := by kernel_rfl
  i233 := by kernel_rfl
  m17 := by kernel_rfl
  m18 := by kernel_rfl
  m19 := by kernel_rfl }
open Go.RowKit Go.Sort Go.Lib in
theorem Tryz.strconv_Itoa (n : Int) (h0 : -9223372036854775808 ≤ n) (h1 : n ≤ 9223372036854775807) (w : World) (htab : Lib.TabIs Tryz.prog w "internal/strconv.uint64pow10" .u64 Lib.pow10Tab) :
    Calls Tryz.prog 70 #[.int .i64 n] w fun e w' => e = .returned (.string ⟨(Lib.itoa n).toArray⟩) ∧ ∃ k os, w' = grow (w.drewN k) os := Any.strconv_Itoa Tryz.laysM171 n h0 h1 w htab
open Go.RowKit Go.Sort Go.Lib in
def Tryz.lays212_ren : Go.Shelf.Ren := ⟨fun | 212 => 95 | 263 => 133 | 264 => 134 | n => n, fun | 46 => 157 | 51 => 207 | 146 => 210 | 53 => 36 | 148 => 212 | n => n, fun | n => n⟩
theorem Tryz.lays212 : Go.Proofs.Lays.n212 Tryz.prog Tryz.lays212_ren := {
  mixed := by kernel_rfl
  f212 := Tryz.func95.trans (congrArg some (by kernel_rfl))
  f263 := Tryz.func133.trans (congrArg some (by kernel_rfl))
  f264 := Tryz.func134.trans (congrArg some (by kernel_rfl))
  t46 := Tryz.underlying157
  a46 := Tryz.isAgg157
  z46 := Tryz.sizeOf157
  v46 := Tryz.zeroValue157
  t51 := Tryz.underlying207
  a51 := Tryz.isAgg207
  z51 := Tryz.sizeOf207
  v51 := Tryz.zeroValue207
  t53 := Tryz.underlying36
  a53 := Tryz.isAgg36
  z53 := Tryz.sizeOf36
  v53 := Tryz.zeroValue36
  t146 := Tryz.underlying210
  a146 := Tryz.isAgg210
  z146 := Tryz.sizeOf210
  v146 := Tryz.zeroValue210
  t148 := Tryz.underlying212
  a148 := Tryz.isAgg212
  z148 := Tryz.sizeOf212
  v148 := Tryz.zeroValue212 }
open Go.RowKit Go.Lib in
theorem Tryz.bits_Mul (x y : Nat) (hx : x < 18446744073709551616) (hy : y < 18446744073709551616) (w : World) :
    Calls Tryz.prog 95 #[.int .u64 x, .int .u64 y] w fun e w' => e = .returned (.tuple #[.int .u64 ((x * y / 18446744073709551616 : Nat) : Int), .int .u64 ((x * y % 18446744073709551616 : Nat) : Int)]) ∧ w' = w := Any.bits_Mul Tryz.lays212 x y hx hy w
open Go.Lib in
open Go.Lib in
open Go.Lib in
open Go.Lib in
open Go.RowKit Go.Lib in
def Tryz.cloneCh_ren : Go.Shelf.Ren := ⟨fun | 41 => 103 | n => n, fun | 22 => 44 | 23 => 72 | 4 => 4 | n => n, fun | n => n⟩
theorem Tryz.cloneCh : Go.Proofs.SlLaysE0.n41 Tryz.prog Tryz.cloneCh_ren := {
  mixed := by kernel_rfl
  f41 := ⟨Tryz.f103.name, by decide, Tryz.func103.trans (congrArg some (by kernel_rfl))⟩
  t4 := Tryz.underlying4
  a4 := Tryz.isAgg4
  z4 := Tryz.sizeOf4
  v4 := Tryz.zeroValue4
  t22 := Tryz.underlying44
  a22 := Tryz.isAgg44
  z22 := Tryz.sizeOf44
  v22 := Tryz.zeroValue44 }
def Tryz.cloneB_ren : Go.Shelf.Ren := ⟨fun | 41 => 47 | n => n, fun | 22 => 45 | 23 => 72 | 4 => 4 | n => n, fun | n => n⟩
theorem Tryz.cloneB : Go.Proofs.SlLaysE0.n41 Tryz.prog Tryz.cloneB_ren := {
  mixed := by kernel_rfl
  f41 := ⟨Tryz.f47.name, by decide, Tryz.func47.trans (congrArg some (by kernel_rfl))⟩
  t4 := Tryz.underlying4
  a4 := Tryz.isAgg4
  z4 := Tryz.sizeOf4
  v4 := Tryz.zeroValue4
  t22 := Tryz.underlying45
  a22 := Tryz.isAgg45
  z22 := Tryz.sizeOf45
  v22 := Tryz.zeroValue45 }
def Tryz.cloneH_ren : Go.Shelf.Ren := ⟨fun | 41 => 59 | n => n, fun | 22 => 43 | 23 => 40 | 4 => 4 | n => n, fun | n => n⟩
theorem Tryz.cloneH : Go.Proofs.SlLaysE0.n41 Tryz.prog Tryz.cloneH_ren := {
  mixed := by kernel_rfl
  f41 := ⟨Tryz.f59.name, by decide, Tryz.func59.trans (congrArg some (by kernel_rfl))⟩
  t4 := Tryz.underlying4
  a4 := Tryz.isAgg4
  z4 := Tryz.sizeOf4
  v4 := Tryz.zeroValue4
  t22 := Tryz.underlying43
  a22 := Tryz.isAgg43
  z22 := Tryz.sizeOf43
  v22 := Tryz.zeroValue43 }
def Tryz.cloneT_ren : Go.Shelf.Ren := ⟨fun | 41 => 67 | n => n, fun | 22 => 82 | 23 => 126 | 4 => 4 | n => n, fun | n => n⟩
theorem Tryz.cloneT : Go.Proofs.SlLaysE0.n41 Tryz.prog Tryz.cloneT_ren := {
  mixed := by kernel_rfl
  f41 := ⟨Tryz.f67.name, by decide, Tryz.func67.trans (congrArg some (by kernel_rfl))⟩
  t4 := Tryz.underlying4
  a4 := Tryz.isAgg4
  z4 := Tryz.sizeOf4
  v4 := Tryz.zeroValue4
  t22 := Tryz.underlying82
  a22 := Tryz.isAgg82
  z22 := Tryz.sizeOf82
  v22 := Tryz.zeroValue82 }
end Go.Proofs
