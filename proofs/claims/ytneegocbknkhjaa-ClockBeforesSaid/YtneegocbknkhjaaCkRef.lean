/-
  PACKAGES marchlandlaw09 and marchlandref09: To, step.
-/
import Derived.Test.YtneegocbknkhjaaCkIdx
import Derived.StillTactics
import Derived.Deep.RegionHeld3
import Derived.Deep.AppendLies
import Derived.Deep.LoopGhost
import Derived.OwnWalk
namespace Go.Proofs.Ytneegocbknkhjaa.Ck
open Go.RowKit Rw Mm Go.Maps Pk
set_option linter.unusedVariables false

theorem flatEv_snoc (l : List Ev) (x : Ev) : evK.flat (l ++ [x]) = evK.flat l ++ [.int .i64 x.w, .int .i64 x.k, .int .i64 x.a, .bool x.ok] := flat_snoc l x
set_option maxRecDepth 1000000 in
set_option maxHeartbeats 4000000 in
theorem to9_any {w : World} {v : Value} {l : List Ev} (hv : Rr evK w v l) (hl : l.length ≤ 1000) :
    Calls Try.prog 28 #[v] w fun e w' => ∃ v', e = .returned v' ∧ Own evK w' w.heap.size 134 v' l ∧ Below w.heap.size w w' := by
  obtain ⟨i0, hi, hz0, hz1, hz2⟩ := info_partsP infoEv
  have HV := Lib.hid hv
  have HL := Lib.hid hl
  obtain ⟨ao, cap, rfl, hv1, hv2⟩ := hv.form
  have hlen : l.length ≤ 9223372036854775807 := by omega
  clear hv hl hv1
  go_enter Try.func28, Try.ntmps28
  go_wp2
  go_loopg [3, 4] (l.length + 1) (fun k o t wr => ∃ i : Nat, i + k = l.length + 1 ∧ i ≤ l.length ∧ t = .int .i64 i ∧ wr.ownsRow w.heap.size 134 4 o i (evK.flat (l.take i)) ∧ Below w.heap.size w wr)
  case atStart => exact ⟨0, by omega, by omega, rfl, World.ownsRow_nil _ _ _ _, Below.refl _ _⟩
  case round =>
    obtain ⟨i, hik, hil, rfl, hown, hbw⟩ := hrel
    have HIK := Lib.hid hik
    clear hik
    by_cases hlt1 : i < l.length
    · obtain ⟨⟨xw, xk, xa, xo⟩, hx⟩ : ∃ x, l[i]? = some x := ⟨_, List.getElem?_eq_getElem hlt1⟩
      obtain ⟨b, off, rfl, hbl, qx⟩ := HV.out.at hx
      have qy := qx.below hbw hbl
      have c0 := qy 0 _ (by decide) rfl
      have c1 := qy 1 _ (by decide) rfl
      have c2 := qy 2 _ (by decide) rfl
      have c3 := qy 3 _ (by decide) rfl
      simp only [show evK.k = 4 from rfl, Nat.add_zero] at c0 c1 c2 c3
      have HX := Lib.hid hx
      have HI := Lib.hid hlt1
      have HBL := Lib.hid (show b < w.heap.size from hbl)
      clear hx qx qy hbl
      have hbase : w.heap.size ≤ wr.heap.size := hbw.size
      have hi0' : (0 : Int) ≤ (i : Int) := Int.natCast_nonneg _
      have hi1 : (i : Int) < (l.length : Int) := by omega
      have ag : u3.ownBlock ≠ some b := fun e => by have := (hown.lt b e).1; have := HBL.out; omega
      have hbl2 : b < wr.heap.size := by have := HBL.out; omega
      go_wp2_with fail
      go_region_held3 (fun w' => w'.cell? ⟨b, off + i * 4, none⟩ = some (.int .i64 xw) ∧ w'.cell? ⟨b, off + i * 4 + 1, none⟩ = some (.int .i64 xk) ∧ w'.cell? ⟨b, off + i * 4 + 2, none⟩ = some (.int .i64 xa) ∧ w'.cell? ⟨b, off + i * 4 + 3, none⟩ = some (.bool xo))
        (first
          | go_keep
          | (go_split_ands
             refine ⟨?_, ?_, ?_, ?_⟩
             · (rw [hgrow.cell_far _ (by simp; omega) (Ne.symm ag)]; assumption)
             · (rw [hgrow.cell_far _ (by simp; omega) (Ne.symm ag)]; assumption)
             · (rw [hgrow.cell_far _ (by simp; omega) (Ne.symm ag)]; assumption)
             · (rw [hgrow.cell_far _ (by simp; omega) (Ne.symm ag)]; assumption)))
        ((refine step_append_lies _ (by rfl) _ _ _ (by rfl) w.heap.size 134 i0 _ 4 32 Try.underlying54 hi hz0 hz1 hz2 rfl (by omega) u3 i (evK.flat (l.take i)) (by rfl) ((hown.alloc _).drew)
            ⟨wr.heap.size, 0, none⟩ 1 1 [.int .i64 xw, .int .i64 xk, .int .i64 xa, .bool xo] (by rfl) (by rfl) (World.news_of_block (cs := #[.int .i64 xw, .int .i64 xk, .int .i64 xa, .bool xo]) (t := 134) (fr := (0, 0)) (heap_alloc_new wr _)) (by simp [Value.oneCell'])
            (by omega) (by unfold maxLen; omega) (by have := HL.out; omega) (by simp; omega) (wr.heap.size + 1) (by simp) ?_; intro gg cap1 w1 hown1 hgrow hat hlt))
      have hb1 : Below w.heap.size w w1 := ((hbw.alloc hbase _).drew).grown hgrow (by simp; omega) (fun k e => (hown.lt k e).1)
      have HO := Lib.hid hown1
      have HB1 := Lib.hid hb1
      clear hown hown1 hgrow hat hlt hbw hb1 c0 c1 c2 c3 ag
      go_wp2
      go_roundg (l.length - i)
      case measure => have := HIK.out; have := HI.out; omega
      case rel =>
        refine ⟨i + 1, by have := HIK.out; have := HI.out; omega, by have := HI.out; omega, by go_num, ?_, HB1.out⟩
        have e1 : l.take (i + 1) = l.take i ++ [⟨xw, xk, xa, xo⟩] := by rw [List.take_add_one, HX.out]; rfl
        rw [e1, flatEv_snoc]
        exact HO.out
    · have hin : i = l.length := by omega
      have hown2 : Own evK wr w.heap.size 134 u3 l := by
        have h := hown
        rw [hin, List.take_length] at h
        exact h
      have HO := Lib.hid hown2
      have HBW := Lib.hid hbw
      clear hown hown2 hin hbw
      go_wp2
      go_ret
      exact ⟨_, rfl, HO.out, HBW.out⟩
theorem heap2 (w : World) (x1 x2 : Obj) : (((w.alloc x1).alloc x2).drew).heap[w.heap.size]? = some x1 ∧ (((w.alloc x1).alloc x2).drew).heap[w.heap.size + 1]? = some x2 := by
  obtain ⟨h1, h2, _⟩ := heap3 w x1 x2 x1
  rw [heap_alloc_old _ _ (by simp; omega)] at h1
  rw [heap_alloc_old _ _ (by simp)] at h2
  exact ⟨h1, h2⟩
def StepQ (l : List Ev) (i j : Nat) (w : World) (r : Ending) (w' : World) : Prop := ∃ b, r = .returned (.bool b) ∧ (b = true ↔ StepP l i j) ∧ Below w.heap.size w w'
theorem stepQ_of {l : List Ev} {i j : Nat} {w w' : World} {b : Bool} (h : b = true ↔ StepP l i j) (hb : Below w.heap.size w w') : StepQ l i j w (.returned (.bool b)) w' := ⟨b, rfl, h, hb⟩
theorem stepQ_yes {l : List Ev} {i j : Nat} {w w' : World} (h : StepP l i j) (hb : Below w.heap.size w w') : StepQ l i j w (.returned (.bool true)) w' := ⟨true, rfl, ⟨fun _ => h, fun _ => rfl⟩, hb⟩
theorem stepQ_no {l : List Ev} {i j : Nat} {w w' : World} (h : ¬ StepP l i j) (hb : Below w.heap.size w w') : StepQ l i j w (.returned (.bool false)) w' := ⟨false, rfl, ⟨(fun q => by cases q), fun q => absurd q h⟩, hb⟩
theorem step_def {l : List Ev} {i j : Nat} {a b : Ev} (hij : i < j) (ha : l[i]? = some a) (hb : l[j]? = some b) : StepP l i j ↔ Th a ∧ Th b ∧ (a.w = b.w ∨ a.a = b.a ∧ (a.k = 1 ∧ b.k = 0 ∧ (∀ m c, i < m → m < j → l[m]? = some c → ¬ (c.k = 1 ∧ c.a = a.a)) ∨ (a.k = 5 ∨ a.k = 6) ∧ a.ok = true ∧ b.k = 4 ∧ b.ok = true)) := by
  constructor
  · rintro ⟨_, a', b', ha', hb', h⟩
    rw [ha] at ha'; cases ha'
    rw [hb] at hb'; cases hb'
    exact h
  · intro h
    exact ⟨hij, a, b, ha, hb, h⟩
set_option maxRecDepth 1000000 in
set_option maxHeartbeats 16000000 in
theorem step_any {w : World} {v : Value} {l : List Ev} (hv : Rr evK w v l) (hl : l.length ≤ 1000) {i j : Nat} (hij : i < j) (hj : j < l.length) :
    Calls Try.prog 74 #[v, .int .i64 (i : Int), .int .i64 (j : Int)] w (StepQ l i j w) := by
  obtain ⟨⟨aw, ak, aa, ao⟩, hx⟩ : ∃ x, l[i]? = some x := ⟨_, List.getElem?_eq_getElem (by omega)⟩
  obtain ⟨⟨bw, bk, ba, bo⟩, hy⟩ : ∃ x, l[j]? = some x := ⟨_, List.getElem?_eq_getElem hj⟩
  have HV := Lib.hid hv
  have HD := Lib.hid (step_def hij hx hy)
  obtain ⟨vo, cap, rfl, hv1, hv2⟩ := hv.form
  obtain ⟨b, off, rfl, hbl, qx⟩ := HV.out.at hx
  obtain ⟨b', off', hbb, _, qy⟩ := HV.out.at hy
  simp only [Option.some.injEq, Addr.mk.injEq] at hbb
  obtain ⟨rfl, rfl, _⟩ := hbb
  have c0 := qx 0 _ (by decide) rfl
  have c1 := qx 1 _ (by decide) rfl
  have c2 := qx 2 _ (by decide) rfl
  have c3 := qx 3 _ (by decide) rfl
  have d0 := qy 0 _ (by decide) rfl
  have d1 := qy 1 _ (by decide) rfl
  have d2 := qy 2 _ (by decide) rfl
  have d3 := qy 3 _ (by decide) rfl
  simp only [show evK.k = 4 from rfl, Nat.add_zero] at c0 c1 c2 c3 d0 d1 d2 d3
  have hi0 : (0 : Int) ≤ (i : Int) := Int.natCast_nonneg _
  have hj0 : (0 : Int) ≤ (j : Int) := Int.natCast_nonneg _
  have hi1 : (i : Int) < (l.length : Int) := by omega
  have hj1 : (j : Int) < (l.length : Int) := by omega
  have HIJ := Lib.hid hij
  have HJ := Lib.hid hj
  have hll : (l.length : Int) ≤ 1000 := by omega
  clear hv hx hy qx qy hv1 hij hj hl
  go_enter Try.func74, Try.ntmps74
  go_upto_region 1 with fail
  go_cut [7, 8] from 10 to 97 (fun s t wx => ∃ g1 g2, s = .pointer (some ⟨g1, 0, none⟩) ∧ t = .pointer (some ⟨g2, 0, none⟩) ∧ Hid (EvIn wx g1 ⟨aw, ak, aa, ao⟩ ∧ EvIn wx g2 ⟨bw, bk, ba, bo⟩ ∧ Below w.heap.size w wx))
  case first =>
    go_region
    all_goals go_wp2_with fail
    all_goals go_meet
    · obtain ⟨q1, q2⟩ := heap2 w (.cells #[.int .i64 aw, .int .i64 ak, .int .i64 aa, .bool ao] 131) (.cells #[.int .i64 bw, .int .i64 bk, .int .i64 ba, .bool bo] 131)
      exact ⟨_, _, rfl, rfl, Lib.hid ⟨evIn_new (e := ⟨aw, ak, aa, ao⟩) q1, evIn_new (e := ⟨bw, bk, ba, bo⟩) q2, (((Below.refl _ _).alloc (Nat.le_refl _) _).alloc (by simp) _).drew⟩⟩
    · obtain ⟨q1, q2⟩ := heap2 w (.cells #[.int .i64 bw, .int .i64 bk, .int .i64 ba, .bool bo] 131) (.cells #[.int .i64 aw, .int .i64 ak, .int .i64 aa, .bool ao] 131)
      exact ⟨_, _, rfl, rfl, Lib.hid ⟨evIn_new (e := ⟨aw, ak, aa, ao⟩) q2, evIn_new (e := ⟨bw, bk, ba, bo⟩) q1, (((Below.refl _ _).alloc (Nat.le_refl _) _).alloc (by simp) _).drew⟩⟩
  case rest =>
    obtain ⟨g1, g2, rfl, rfl, HE⟩ := hcut
    obtain ⟨⟨s0, s1, s2, s3⟩, ⟨t0, t1, t2, t3⟩, _⟩ := HE.out
    simp only at s0 s1 s2 s3 t0 t1 t2 t3
    clear c0 c1 c2 c3 d0 d1 d2 d3
    by_cases hn : (ak < 0 ∨ 7 < ak) ∨ (bk < 0 ∨ 7 < bk)
    · have HR : Hid (¬ StepP l i j) := Lib.hid (by rw [HD.out]; rintro ⟨h1, h2, _⟩; unfold Th at h1 h2; simp only at h1 h2; omega)
      clear HD
      rcases (show ak < 0 ∨ (¬ ak < 0 ∧ 7 < ak) ∨ (¬ ak < 0 ∧ ¬ 7 < ak ∧ bk < 0) ∨ (¬ ak < 0 ∧ ¬ 7 < ak ∧ ¬ bk < 0 ∧ 7 < bk) by omega) with x1 | ⟨x1, x2⟩ | ⟨x1, x2, x3⟩ | ⟨x1, x2, x3, x4⟩
      all_goals
        clear hn
        go_wp2_with fail
        go_ret
        exact stepQ_no HR.out HE.out.2.2
    · have n1 : ¬ ak < 0 := by omega
      have n2 : ¬ 7 < ak := by omega
      have n3 : ¬ bk < 0 := by omega
      have n4 : ¬ 7 < bk := by omega
      have HTA : Hid (Th ⟨aw, ak, aa, ao⟩) := Lib.hid ⟨by simp only; omega, by simp only; omega⟩
      have HTB : Hid (Th ⟨bw, bk, ba, bo⟩) := Lib.hid ⟨by simp only; omega, by simp only; omega⟩
      clear hn
      by_cases hw : aw = bw
      · subst hw
        have hww : (aw == aw) = true := by simp
        have HR : Hid (StepP l i j) := Lib.hid (by rw [HD.out]; exact ⟨HTA.out, HTB.out, .inl rfl⟩)
        clear HD
        go_wp2_with fail
        go_ret
        exact stepQ_yes HR.out HE.out.2.2
      · have hww : (aw == bw) = false := by simpa using hw
        by_cases ha : aa = ba
        · subst ha
          have haa : (aa != aa) = false := by simp
          by_cases h10 : ak = 1 ∧ bk = 0
          · obtain ⟨rfl, rfl⟩ := h10
            have HR : Hid (StepP l i j ↔ ∀ m c, i < m → m < j → l[m]? = some c → ¬ (c.k = 1 ∧ c.a = aa)) := Lib.hid (by
              rw [HD.out]
              constructor
              · rintro ⟨_, _, h | ⟨_, h | h⟩⟩
                · exact absurd h hw
                · exact h.2.2
                · have := h.1; simp at this
              · intro h
                exact ⟨HTA.out, HTB.out, .inr ⟨rfl, .inl ⟨rfl, rfl, h⟩⟩⟩)
            clear HD hw
            go_wp2_with fail
            go_loopg [9] (j + 1) (fun k s wr => ∃ (m : Nat), m + k = i + j + 2 ∧ i < m ∧ m ≤ j ∧ s = .int .i64 (m : Int) ∧ Hid (∀ x c, i < x → x < m → l[x]? = some c → ¬ (c.k = 1 ∧ c.a = aa)) ∧ Hid (Below w.heap.size w wr) ∧ wr.cell? ⟨g1, 2, none⟩ = some (.int .i64 aa))
            case atStart => exact ⟨i + 1, by omega, by omega, by have := HIJ.out; omega, by first | rfl | go_num, Lib.hid (fun x c h1 h2 => by omega), Lib.hid HE.out.2.2, s2⟩
            case round =>
              obtain ⟨m, hmk, him, hmj, rfl, HN, HB, sc⟩ := hrel
              have HMK := Lib.hid hmk
              have HIM := Lib.hid him
              have hm0 : (0 : Int) ≤ (m : Int) := Int.natCast_nonneg _
              clear s0 s1 s2 s3 t0 t1 t2 t3
              by_cases hlt : m < j
              · obtain ⟨⟨cw, ck, ca, cx⟩, hz⟩ : ∃ x, l[m]? = some x := ⟨_, List.getElem?_eq_getElem (by have := HJ.out; omega)⟩
                obtain ⟨b', off', hbb, hbl', qz⟩ := HV.out.at hz
                simp only [Option.some.injEq, Addr.mk.injEq] at hbb
                obtain ⟨rfl, rfl, _⟩ := hbb
                have qy := qz.below HB.out hbl'
                have e1 := qy 1 _ (by decide) rfl
                have e2 := qy 2 _ (by decide) rfl
                simp only [show evK.k = 4 from rfl] at e1 e2
                have hmj1 : (m : Int) < (j : Int) := by omega
                have hml1 : (m : Int) < (l.length : Int) := by omega
                have HZ := Lib.hid hz
                have HLT := Lib.hid hlt
                clear hz qz qy hmk him hmj hlt hbl'
                by_cases hc : ck = 1 ∧ ca = aa
                · obtain ⟨rfl, rfl⟩ := hc
                  have hcc : (ca == ca) = true := by simp
                  have HF : Hid (¬ StepP l i j) := Lib.hid (by rw [HR.out]; exact fun h => absurd ⟨rfl, rfl⟩ (h m _ HIM.out HLT.out HZ.out))
                  clear HR
                  go_wp2_with fail
                  go_quiet (fail)
                  go_wp2_with fail
                  go_ret
                  exact stepQ_no HF.out (below_drewN HB.out _)
                · have HN2 : Hid (∀ x c, i < x → x < m + 1 → l[x]? = some c → ¬ (c.k = 1 ∧ c.a = aa)) := Lib.hid (fun x c h1 h2 h3 => by
                    by_cases hxm : x = m
                    · subst hxm; rw [HZ.out] at h3; cases h3; exact hc
                    · exact HN.out x c h1 (by omega) h3)
                  by_cases h1 : ck = 1
                  · subst h1
                    have hcc : (ca == aa) = false := by simp; exact fun e => hc ⟨rfl, e⟩
                    clear hc HN
                    go_wp2_with fail
                    go_quiet (fail)
                    go_wp2_with fail
                    go_roundg (gk - 1)
                    case measure => have := HMK.out; have := HLT.out; omega
                    case rel => exact ⟨m + 1, by have := HMK.out; have := HLT.out; omega, by have := HIM.out; omega, by have := HLT.out; omega, by go_num, HN2, Lib.hid (below_drewN HB.out _), sc⟩
                  · have hck : (ck == 1) = false := by simpa using h1
                    clear hc h1 HN
                    go_wp2_with fail
                    go_quiet (fail)
                    go_wp2_with fail
                    go_roundg (gk - 1)
                    case measure => have := HMK.out; have := HLT.out; omega
                    case rel => exact ⟨m + 1, by have := HMK.out; have := HLT.out; omega, by have := HIM.out; omega, by have := HLT.out; omega, by go_num, HN2, Lib.hid (below_drewN HB.out _), sc⟩
              · have hmj1 : ¬ (m : Int) < (j : Int) := by omega
                have hme : m = j := by omega
                have HF : Hid (StepP l i j) := Lib.hid (by rw [HR.out]; subst hme; exact HN.out)
                clear HR hmk him hmj hlt hme
                go_wp2_with fail
                go_ret
                exact stepQ_yes HF.out HB.out
          · have HR : Hid (StepP l i j ↔ (ak = 5 ∨ ak = 6) ∧ ao = true ∧ bk = 4 ∧ bo = true) := Lib.hid (by
              rw [HD.out]
              constructor
              · rintro ⟨_, _, h | ⟨_, h | h⟩⟩
                · exact absurd h hw
                · exact absurd ⟨h.1, h.2.1⟩ h10
                · exact h
              · intro h
                exact ⟨HTA.out, HTB.out, .inr ⟨rfl, .inr h⟩⟩)
            clear HD hw
            by_cases hf : ak = 5 ∨ ak = 6
            · rcases hf with rfl | rfl
              · cases ao
                · have HF : Hid (¬ StepP l i j) := Lib.hid (fun h => by have := (HR.out.1 h).2.1; cases this)
                  clear HR h10
                  go_wp2_with fail
                  go_ret
                  exact stepQ_no HF.out HE.out.2.2
                · by_cases h4 : bk = 4
                  · subst h4
                    cases bo
                    · have HF : Hid (¬ StepP l i j) := Lib.hid (fun h => by have := (HR.out.1 h).2.2.2; cases this)
                      clear HR h10
                      go_wp2_with fail
                      go_ret
                      exact stepQ_no HF.out HE.out.2.2
                    · have HF : Hid (StepP l i j) := Lib.hid (HR.out.2 ⟨by simp, rfl, rfl, rfl⟩)
                      clear HR h10
                      go_wp2_with fail
                      go_ret
                      exact stepQ_yes HF.out HE.out.2.2
                  · have h4' : (bk == 4) = false := by simpa using h4
                    have HF : Hid (¬ StepP l i j) := Lib.hid (fun h => h4 (HR.out.1 h).2.2.1)
                    clear HR h10
                    go_wp2_with fail
                    go_ret
                    exact stepQ_no HF.out HE.out.2.2
              · cases ao
                · have HF : Hid (¬ StepP l i j) := Lib.hid (fun h => by have := (HR.out.1 h).2.1; cases this)
                  clear HR h10
                  go_wp2_with fail
                  go_ret
                  exact stepQ_no HF.out HE.out.2.2
                · by_cases h4 : bk = 4
                  · subst h4
                    cases bo
                    · have HF : Hid (¬ StepP l i j) := Lib.hid (fun h => by have := (HR.out.1 h).2.2.2; cases this)
                      clear HR h10
                      go_wp2_with fail
                      go_ret
                      exact stepQ_no HF.out HE.out.2.2
                    · have HF : Hid (StepP l i j) := Lib.hid (HR.out.2 ⟨by simp, rfl, rfl, rfl⟩)
                      clear HR h10
                      go_wp2_with fail
                      go_ret
                      exact stepQ_yes HF.out HE.out.2.2
                  · have h4' : (bk == 4) = false := by simpa using h4
                    have HF : Hid (¬ StepP l i j) := Lib.hid (fun h => h4 (HR.out.1 h).2.2.1)
                    clear HR h10
                    go_wp2_with fail
                    go_ret
                    exact stepQ_no HF.out HE.out.2.2
            · have h5 : (ak == 5) = false := by simp; omega
              have h6 : (ak == 6) = false := by simp; omega
              have HF : Hid (¬ StepP l i j) := Lib.hid (fun h => hf (HR.out.1 h).1)
              clear HR hf
              by_cases h1 : ak = 1
              · subst h1
                have h0 : (bk == 0) = false := by simp; exact fun e => h10 ⟨rfl, e⟩
                clear h10
                go_wp2_with fail
                go_ret
                exact stepQ_no HF.out HE.out.2.2
              · have h1' : (ak == 1) = false := by simpa using h1
                clear h10 h1
                go_wp2_with fail
                go_ret
                exact stepQ_no HF.out HE.out.2.2
        · have haa : (aa != ba) = true := by simpa using ha
          have HR : Hid (¬ StepP l i j) := Lib.hid (by rw [HD.out]; exact fun h => by rcases h.2.2 with h | h; exact absurd h hw; exact absurd h.1 ha)
          clear HD hw ha
          go_wp2_with fail
          go_ret
          exact stepQ_no HR.out HE.out.2.2
end Go.Proofs.Ytneegocbknkhjaa.Ck
