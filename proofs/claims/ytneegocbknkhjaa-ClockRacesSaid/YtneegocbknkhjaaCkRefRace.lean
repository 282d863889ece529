/-
  PACKAGE marchlandref09: Race: the document's own.
-/
import Derived.Test.YtneegocbknkhjaaCkAhead
import Derived.Test.YtneegocbknkhjaaCkMeet
namespace Go.Proofs.Ytneegocbknkhjaa.Ck
open Go.RowKit Rw Mm Go.Maps Pk
set_option linter.unusedVariables false

def RefRaceQ (l : List Ev) (w : World) (r : Ending) (w' : World) : Prop := ∃ x y, r = .returned (.tuple #[.int .i64 x, .int .i64 y]) ∧ IsFirst l x y ∧ Below w.heap.size w w'
/-- None of the pairs ahead of (j, i) meet. -/
def NoMeet (l : List Ev) (j i : Nat) : Prop := (∀ k, k < j → ∀ x, ¬ Meets l x k) ∧ ∀ x, x < i → ¬ Meets l x j
theorem noMeet_next {l : List Ev} {j i : Nat} (h : NoMeet l j i) (hm : ¬ Meets l i j) : NoMeet l j (i + 1) := ⟨h.1, fun x hx => by
  by_cases e : x = i
  · subst e; exact hm
  · exact h.2 x (by omega)⟩
theorem noMeet_row {l : List Ev} {j : Nat} (h : NoMeet l j j) : NoMeet l (j + 1) 0 := ⟨fun k hk x => by
  by_cases e : k = j
  · subst e
    by_cases hx : x < k
    · exact h.2 x hx
    · exact fun q => hx q.1
  · exact h.1 k (by omega) x, fun x hx => by omega⟩
theorem meets_def {l : List Ev} {i j : Nat} {a b : Ev} (hij : i < j) (ha : l[i]? = some a) (hb : l[j]? = some b) : Meets l i j ↔ (a.k = 2 ∨ a.k = 3) ∧ (b.k = 2 ∨ b.k = 3) ∧ a.a = b.a ∧ a.w ≠ b.w ∧ (a.k = 3 ∨ b.k = 3) ∧ ¬ HB l i j := by
  constructor
  · rintro ⟨_, a', b', ha', hb', h⟩
    rw [ha] at ha'; cases ha'
    rw [hb] at hb'; cases hb'
    exact h
  · intro h; exact ⟨hij, a, b, ha, hb, h⟩
set_option maxRecDepth 1000000 in
set_option maxHeartbeats 16000000 in
theorem refrace_any {w : World} {v : Value} {l : List Ev} (hv : Rr evK w v l) (hl : l.length ≤ 1000) : Calls Try.prog 33 #[v] w (RefRaceQ l w) := by
  have HV := Lib.hid hv
  have HL := Lib.hid hl
  obtain ⟨ao, cap, rfl, hv1, hv2⟩ := hv.form
  clear hv hv1
  go_enter Try.func33, Try.ntmps33
  go_wp2_with fail
  go_at_call 29
  refine (ahead_any HV.out hl).mono ?_
  rintro r w1 ⟨vo, bv, rows, rfl, hd, hrl, hro⟩
  have HD := Lib.hid hd
  have HRL := Lib.hid hrl
  have HRO := Lib.hid hro
  have H0 : Hid (NoMeet l 0 0) := Lib.hid ⟨fun k hk => by omega, fun x hx => by omega⟩
  clear hd hrl hro
  go_wp2_with fail
  go_loopg [5] (l.length + 1) (fun k t wr => ∃ (j : Nat), j + k = l.length + 1 ∧ j ≤ l.length ∧ t = .int .i64 (j : Int) ∧ Hid (NoMeet l j 0) ∧ Hid (Below w1.heap.size w1 wr))
  case atStart => exact ⟨0, by omega, by omega, rfl, H0, Lib.hid (Below.refl _ _)⟩
  case round =>
    obtain ⟨j, hjk, hjl, rfl, HN, HB⟩ := hrel
    clear H0
    have HJK := Lib.hid hjk
    have hj0 : (0 : Int) ≤ (j : Int) := Int.natCast_nonneg _
    by_cases hlt : j < l.length
    · have hj1 : (j : Int) < (l.length : Int) := by omega
      have hj9 : (j : Int) ≤ 1000 := by omega
      have HLT := Lib.hid hlt
      clear hjk hjl hlt
      go_wp2_with fail
      go_loopg [6] j (fun k t wx => ∃ (i : Nat), i + k = j ∧ t = .int .i64 (i : Int) ∧ Hid (NoMeet l j i) ∧ Hid (Below w1.heap.size w1 wx))
      case atStart => exact ⟨0, by omega, rfl, HN, HB⟩
      case round =>
        obtain ⟨i, hik, rfl, HN2, HB2⟩ := hrel
        clear HB HN
        have HIK := Lib.hid hik
        have hi0 : (0 : Int) ≤ (i : Int) := Int.natCast_nonneg _
        by_cases hlt : i < j
        · have hi1 : (i : Int) < (j : Int) := by omega
          have hi2 : (i : Int) < (l.length : Int) := by omega
          have hi9 : (i : Int) ≤ 1000 := by omega
          have HIJ := Lib.hid hlt
          obtain ⟨⟨aw, ak, aa, ax⟩, hx⟩ : ∃ x, l[i]? = some x := ⟨_, List.getElem?_eq_getElem (by have := HLT.out; omega)⟩
          obtain ⟨⟨bw, bk, ba, bx⟩, hy⟩ : ∃ x, l[j]? = some x := ⟨_, List.getElem?_eq_getElem HLT.out⟩
          have HM := Lib.hid (meets_def hlt hx hy)
          obtain ⟨b, off, rfl, hbl, qx⟩ := HV.out.at hx
          obtain ⟨b', off', hbb, _, qy⟩ := HV.out.at hy
          simp only [Option.some.injEq, Addr.mk.injEq] at hbb
          obtain ⟨rfl, rfl, _⟩ := hbb
          have hbw := HD.out.bl.trans (HB2.out.mono HD.out.bl.size)
          have c0 := (qx.below hbw hbl) 0 _ (by decide) rfl
          have c1 := (qx.below hbw hbl) 1 _ (by decide) rfl
          have c2 := (qx.below hbw hbl) 2 _ (by decide) rfl
          have c3 := (qx.below hbw hbl) 3 _ (by decide) rfl
          have d0 := (qy.below hbw hbl) 0 _ (by decide) rfl
          have d1 := (qy.below hbw hbl) 1 _ (by decide) rfl
          have d2 := (qy.below hbw hbl) 2 _ (by decide) rfl
          have d3 := (qy.below hbw hbl) 3 _ (by decide) rfl
          simp only [show evK.k = 4 from rfl, Nat.add_zero] at c0 c1 c2 c3 d0 d1 d2 d3
          obtain ⟨R, hR⟩ : ∃ R, rows[j]? = some R := ⟨_, List.getElem?_eq_getElem (by rw [HRL.out]; exact HLT.out)⟩
          have hok := HRO.out j R hR
          obtain ⟨g, cap2, gi, rfl, e1, e2⟩ := HD.out.at hR (x := i) (by rw [hok.1]; have := HLT.out; omega)
          rw [hok.1] at e1
          rw [HRL.out] at *
          obtain ⟨bb, hbb⟩ : ∃ bb, bb = R.getD i false := ⟨_, rfl⟩
          have HBB : Hid (bb = true ↔ HB l i j) := Lib.hid (by rw [hbb]; exact hok.2 i)
          rw [← hbb] at e2
          have hl1 := Lib.lt_of_cell e1
          have hl2 := Lib.lt_of_cell e2
          have HE1 : Hid (∀ wx, Below w1.heap.size w1 wx → wx.cell? ⟨g, j, none⟩ = some (.slice (some ⟨gi, 0, none⟩) l.length l.length) ∧ wx.cell? ⟨gi, i, none⟩ = some (.bool bb)) := Lib.hid (fun wx hb => ⟨(hb.cell (p := ⟨g, j, none⟩) hl1).trans e1, (hb.cell (p := ⟨gi, i, none⟩) hl2).trans e2⟩)
          clear hx hy qx qy hbw hok hR hbb hik hlt e1 e2 hl1 hl2 hbl
          have hblt := Lib.lt_of_cell c0
          go_upto_region 8 with fail
          go_cut [7, 8] from 18 to 85 (fun s t wx => ∃ g1 g2, s = .pointer (some ⟨g1, 0, none⟩) ∧ t = .pointer (some ⟨g2, 0, none⟩) ∧ Hid (EvIn wx g1 ⟨aw, ak, aa, ax⟩ ∧ EvIn wx g2 ⟨bw, bk, ba, bx⟩ ∧ Below wr.heap.size wr wx))
          case first =>
            go_region
            all_goals go_wp2_with fail
            all_goals go_meet
            · obtain ⟨q1, q2⟩ := heap2 wr (.cells #[.int .i64 aw, .int .i64 ak, .int .i64 aa, .bool ax] 131) (.cells #[.int .i64 bw, .int .i64 bk, .int .i64 ba, .bool bx] 131)
              exact ⟨_, _, rfl, rfl, Lib.hid ⟨evIn_new (e := ⟨aw, ak, aa, ax⟩) q1, evIn_new (e := ⟨bw, bk, ba, bx⟩) q2, (((Below.refl _ _).alloc (Nat.le_refl _) _).alloc (by simp) _).drew⟩⟩
            · obtain ⟨q1, q2⟩ := heap2 wr (.cells #[.int .i64 bw, .int .i64 bk, .int .i64 ba, .bool bx] 131) (.cells #[.int .i64 aw, .int .i64 ak, .int .i64 aa, .bool ax] 131)
              exact ⟨_, _, rfl, rfl, Lib.hid ⟨evIn_new (e := ⟨aw, ak, aa, ax⟩) q2, evIn_new (e := ⟨bw, bk, ba, bx⟩) q1, (((Below.refl _ _).alloc (Nat.le_refl _) _).alloc (by simp) _).drew⟩⟩
          case rest =>
            obtain ⟨g1, g2, rfl, rfl, HE⟩ := hcut
            obtain ⟨⟨s0, s1, s2, s3⟩, ⟨t0, t1, t2, t3⟩, hbx⟩ := HE.out
            simp only at s0 s1 s2 s3 t0 t1 t2 t3
            have HB3 := Lib.hid (HB2.out.trans (hbx.mono HB2.out.size))
            obtain ⟨x1, x2⟩ := HE1.out _ HB3.out
            clear c0 c1 c2 c3 d0 d1 d2 d3 hbx
            by_cases ha : ak = 2 ∨ ak = 3
            · rcases ha with rfl | rfl
              · by_cases hb : bk = 2 ∨ bk = 3
                · rcases hb with rfl | rfl
                  · by_cases haa : aa = ba
                    · subst haa
                      have h3 : (aa == aa) = true := by simp
                      by_cases hw : aw = bw
                      · subst hw
                        have h4 : (aw != aw) = false := by simp
                        have HNM : Hid (NoMeet l j (i + 1)) := Lib.hid (noMeet_next HN2.out (by rw [HM.out]; rintro ⟨p1, p2, p3, p4, p5, p6⟩; simp only at p1 p2 p3 p4 p5; exact p4 rfl))
                        clear HM
                        go_wp2_with fail
                        go_roundg (gk - 1)
                        case measure => have := HIK.out; have := HIJ.out; omega
                        case rel => exact ⟨i + 1, by have := HIK.out; have := HIJ.out; omega, by go_num, HNM, HB3⟩
                      · have h4 : (aw != bw) = true := by simpa using hw
                        clear hw
                        have HNM : Hid (NoMeet l j (i + 1)) := Lib.hid (noMeet_next HN2.out (by rw [HM.out]; rintro ⟨p1, p2, p3, p4, p5, p6⟩; simp only at p1 p2 p3 p4 p5; omega))
                        clear HM
                        go_wp2_with fail
                        go_roundg (gk - 1)
                        case measure => have := HIK.out; have := HIJ.out; omega
                        case rel => exact ⟨i + 1, by have := HIK.out; have := HIJ.out; omega, by go_num, HNM, HB3⟩
                    · have h3 : (aa == ba) = false := by simpa using haa
                      have HNM : Hid (NoMeet l j (i + 1)) := Lib.hid (noMeet_next HN2.out (by rw [HM.out]; rintro ⟨p1, p2, p3, p4, p5, p6⟩; simp only at p1 p2 p3 p4 p5; exact haa p3))
                      clear HM
                      go_wp2_with fail
                      go_roundg (gk - 1)
                      case measure => have := HIK.out; have := HIJ.out; omega
                      case rel => exact ⟨i + 1, by have := HIK.out; have := HIJ.out; omega, by go_num, HNM, HB3⟩
                  · by_cases haa : aa = ba
                    · subst haa
                      have h3 : (aa == aa) = true := by simp
                      by_cases hw : aw = bw
                      · subst hw
                        have h4 : (aw != aw) = false := by simp
                        have HNM : Hid (NoMeet l j (i + 1)) := Lib.hid (noMeet_next HN2.out (by rw [HM.out]; rintro ⟨p1, p2, p3, p4, p5, p6⟩; simp only at p1 p2 p3 p4 p5; exact p4 rfl))
                        clear HM
                        go_wp2_with fail
                        go_roundg (gk - 1)
                        case measure => have := HIK.out; have := HIJ.out; omega
                        case rel => exact ⟨i + 1, by have := HIK.out; have := HIJ.out; omega, by go_num, HNM, HB3⟩
                      · have h4 : (aw != bw) = true := by simpa using hw
                        cases bb
                        · have HMT : Hid (Meets l i j) := Lib.hid (by rw [HM.out]; exact ⟨by simp, by simp, rfl, hw, by simp, fun q => by have := HBB.out.2 q; cases this⟩)
                          clear HM hw
                          go_wp2_with fail
                          go_ret2
                          exact ⟨_, _, rfl, .inr ⟨i, j, rfl, rfl, HMT.out, HN2.out.1, HN2.out.2⟩, HD.out.bl.trans (HB3.out.mono HD.out.bl.size)⟩
                        · clear hw
                          have HNM : Hid (NoMeet l j (i + 1)) := Lib.hid (noMeet_next HN2.out (by rw [HM.out]; rintro ⟨p1, p2, p3, p4, p5, p6⟩; simp only at p1 p2 p3 p4 p5; exact p6 (HBB.out.1 rfl)))
                          clear HM
                          go_wp2_with fail
                          go_roundg (gk - 1)
                          case measure => have := HIK.out; have := HIJ.out; omega
                          case rel => exact ⟨i + 1, by have := HIK.out; have := HIJ.out; omega, by go_num, HNM, HB3⟩
                    · have h3 : (aa == ba) = false := by simpa using haa
                      have HNM : Hid (NoMeet l j (i + 1)) := Lib.hid (noMeet_next HN2.out (by rw [HM.out]; rintro ⟨p1, p2, p3, p4, p5, p6⟩; simp only at p1 p2 p3 p4 p5; exact haa p3))
                      clear HM
                      go_wp2_with fail
                      go_roundg (gk - 1)
                      case measure => have := HIK.out; have := HIJ.out; omega
                      case rel => exact ⟨i + 1, by have := HIK.out; have := HIJ.out; omega, by go_num, HNM, HB3⟩
                · have h1 : (bk == 2) = false := by simp; omega
                  have h2 : (bk == 3) = false := by simp; omega
                  have HNM : Hid (NoMeet l j (i + 1)) := Lib.hid (noMeet_next HN2.out (by rw [HM.out]; rintro ⟨p1, p2, p3, p4, p5, p6⟩; simp only at p1 p2 p3 p4 p5; exact hb p2))
                  clear HM
                  go_wp2_with fail
                  go_roundg (gk - 1)
                  case measure => have := HIK.out; have := HIJ.out; omega
                  case rel => exact ⟨i + 1, by have := HIK.out; have := HIJ.out; omega, by go_num, HNM, HB3⟩
              · by_cases hb : bk = 2 ∨ bk = 3
                · rcases hb with rfl | rfl
                  · by_cases haa : aa = ba
                    · subst haa
                      have h3 : (aa == aa) = true := by simp
                      by_cases hw : aw = bw
                      · subst hw
                        have h4 : (aw != aw) = false := by simp
                        have HNM : Hid (NoMeet l j (i + 1)) := Lib.hid (noMeet_next HN2.out (by rw [HM.out]; rintro ⟨p1, p2, p3, p4, p5, p6⟩; simp only at p1 p2 p3 p4 p5; exact p4 rfl))
                        clear HM
                        go_wp2_with fail
                        go_roundg (gk - 1)
                        case measure => have := HIK.out; have := HIJ.out; omega
                        case rel => exact ⟨i + 1, by have := HIK.out; have := HIJ.out; omega, by go_num, HNM, HB3⟩
                      · have h4 : (aw != bw) = true := by simpa using hw
                        cases bb
                        · have HMT : Hid (Meets l i j) := Lib.hid (by rw [HM.out]; exact ⟨by simp, by simp, rfl, hw, by simp, fun q => by have := HBB.out.2 q; cases this⟩)
                          clear HM hw
                          go_wp2_with fail
                          go_ret2
                          exact ⟨_, _, rfl, .inr ⟨i, j, rfl, rfl, HMT.out, HN2.out.1, HN2.out.2⟩, HD.out.bl.trans (HB3.out.mono HD.out.bl.size)⟩
                        · clear hw
                          have HNM : Hid (NoMeet l j (i + 1)) := Lib.hid (noMeet_next HN2.out (by rw [HM.out]; rintro ⟨p1, p2, p3, p4, p5, p6⟩; simp only at p1 p2 p3 p4 p5; exact p6 (HBB.out.1 rfl)))
                          clear HM
                          go_wp2_with fail
                          go_roundg (gk - 1)
                          case measure => have := HIK.out; have := HIJ.out; omega
                          case rel => exact ⟨i + 1, by have := HIK.out; have := HIJ.out; omega, by go_num, HNM, HB3⟩
                    · have h3 : (aa == ba) = false := by simpa using haa
                      have HNM : Hid (NoMeet l j (i + 1)) := Lib.hid (noMeet_next HN2.out (by rw [HM.out]; rintro ⟨p1, p2, p3, p4, p5, p6⟩; simp only at p1 p2 p3 p4 p5; exact haa p3))
                      clear HM
                      go_wp2_with fail
                      go_roundg (gk - 1)
                      case measure => have := HIK.out; have := HIJ.out; omega
                      case rel => exact ⟨i + 1, by have := HIK.out; have := HIJ.out; omega, by go_num, HNM, HB3⟩
                  · by_cases haa : aa = ba
                    · subst haa
                      have h3 : (aa == aa) = true := by simp
                      by_cases hw : aw = bw
                      · subst hw
                        have h4 : (aw != aw) = false := by simp
                        have HNM : Hid (NoMeet l j (i + 1)) := Lib.hid (noMeet_next HN2.out (by rw [HM.out]; rintro ⟨p1, p2, p3, p4, p5, p6⟩; simp only at p1 p2 p3 p4 p5; exact p4 rfl))
                        clear HM
                        go_wp2_with fail
                        go_roundg (gk - 1)
                        case measure => have := HIK.out; have := HIJ.out; omega
                        case rel => exact ⟨i + 1, by have := HIK.out; have := HIJ.out; omega, by go_num, HNM, HB3⟩
                      · have h4 : (aw != bw) = true := by simpa using hw
                        cases bb
                        · have HMT : Hid (Meets l i j) := Lib.hid (by rw [HM.out]; exact ⟨by simp, by simp, rfl, hw, by simp, fun q => by have := HBB.out.2 q; cases this⟩)
                          clear HM hw
                          go_wp2_with fail
                          go_ret2
                          exact ⟨_, _, rfl, .inr ⟨i, j, rfl, rfl, HMT.out, HN2.out.1, HN2.out.2⟩, HD.out.bl.trans (HB3.out.mono HD.out.bl.size)⟩
                        · clear hw
                          have HNM : Hid (NoMeet l j (i + 1)) := Lib.hid (noMeet_next HN2.out (by rw [HM.out]; rintro ⟨p1, p2, p3, p4, p5, p6⟩; simp only at p1 p2 p3 p4 p5; exact p6 (HBB.out.1 rfl)))
                          clear HM
                          go_wp2_with fail
                          go_roundg (gk - 1)
                          case measure => have := HIK.out; have := HIJ.out; omega
                          case rel => exact ⟨i + 1, by have := HIK.out; have := HIJ.out; omega, by go_num, HNM, HB3⟩
                    · have h3 : (aa == ba) = false := by simpa using haa
                      have HNM : Hid (NoMeet l j (i + 1)) := Lib.hid (noMeet_next HN2.out (by rw [HM.out]; rintro ⟨p1, p2, p3, p4, p5, p6⟩; simp only at p1 p2 p3 p4 p5; exact haa p3))
                      clear HM
                      go_wp2_with fail
                      go_roundg (gk - 1)
                      case measure => have := HIK.out; have := HIJ.out; omega
                      case rel => exact ⟨i + 1, by have := HIK.out; have := HIJ.out; omega, by go_num, HNM, HB3⟩
                · have h1 : (bk == 2) = false := by simp; omega
                  have h2 : (bk == 3) = false := by simp; omega
                  have HNM : Hid (NoMeet l j (i + 1)) := Lib.hid (noMeet_next HN2.out (by rw [HM.out]; rintro ⟨p1, p2, p3, p4, p5, p6⟩; simp only at p1 p2 p3 p4 p5; exact hb p2))
                  clear HM
                  go_wp2_with fail
                  go_roundg (gk - 1)
                  case measure => have := HIK.out; have := HIJ.out; omega
                  case rel => exact ⟨i + 1, by have := HIK.out; have := HIJ.out; omega, by go_num, HNM, HB3⟩
            · have h1 : (ak == 2) = false := by simp; omega
              have h2 : (ak == 3) = false := by simp; omega
              have HNM : Hid (NoMeet l j (i + 1)) := Lib.hid (noMeet_next HN2.out (by rw [HM.out]; rintro ⟨p1, p2, p3, p4, p5, p6⟩; simp only at p1 p2 p3 p4 p5; exact ha p1))
              clear HM
              go_wp2_with fail
              go_roundg (gk - 1)
              case measure => have := HIK.out; have := HIJ.out; omega
              case rel => exact ⟨i + 1, by have := HIK.out; have := HIJ.out; omega, by go_num, HNM, HB3⟩
        · have hi1 : ¬ (i : Int) < (j : Int) := by omega
          have hie : i = j := by omega
          have HNR : Hid (NoMeet l (j + 1) 0) := Lib.hid (by subst hie; exact noMeet_row HN2.out)
          clear hik hlt hie
          go_wp2_with fail
          go_roundg (l.length - j)
          case measure => have := HJK.out; have := HLT.out; omega
          case rel => exact ⟨j + 1, by have := HJK.out; have := HLT.out; omega, by have := HLT.out; omega, by go_num, HNR, HB2⟩
    · have hj1 : ¬ (j : Int) < (l.length : Int) := by omega
      have hje : j = l.length := by omega
      have HF : Hid (IsFirst l (-1) (-1)) := Lib.hid (.inl ⟨rfl, rfl, fun i k hm => by
        obtain ⟨_, _, e, _, he, _⟩ := id hm
        exact HN.out.1 k (by rw [hje]; exact (List.getElem?_eq_some_iff.1 he).1) i hm⟩)
      clear hjk hjl hlt hje
      go_wp2_with fail
      go_ret2
      exact ⟨_, _, rfl, HF.out, HD.out.bl.trans (HB.out.mono HD.out.bl.size)⟩
end Go.Proofs.Ytneegocbknkhjaa.Ck
