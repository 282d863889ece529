/-
  THE WALK OF THE LAW ClockBefores.
-/
import Derived.Test.YtneegocbknkhjaaCkTold
import Derived.Test.YtneegocbknkhjaaCkAhead
namespace Go.Proofs.Ytneegocbknkhjaa.Ck
open Go.RowKit Rw Mm Go.Maps Pk
set_option linter.unusedVariables false

theorem ah_look {n0 : Nat} {w0 w : World} {vo : Value} {bv : List Sv} {rows : List (List Bool)} {L : List Ev} {n : Nat} (h : AhD n0 w0 vo bv rows w) (hrl : rows.length = L.length) (hro : ∀ (j : Nat) R, rows[j]? = some R → RowOk L j R) (hn : L.length = n) {j i : Nat} (hj : j < n) (hi : i < n) :
    ∃ g cap gi bb, vo = .slice (some ⟨g, 0, none⟩) n cap ∧ w.cell? ⟨g, j, none⟩ = some (.slice (some ⟨gi, 0, none⟩) n n) ∧ w.cell? ⟨gi, i, none⟩ = some (.bool bb) ∧ (bb = true ↔ HB L i j) := by
  subst hn
  obtain ⟨R, hR⟩ : ∃ R, rows[j]? = some R := ⟨_, List.getElem?_eq_getElem (by rw [hrl]; exact hj)⟩
  have hok := hro j R hR
  obtain ⟨g, cap, gi, hv, e1, e2⟩ := h.at hR (x := i) (by rw [hok.1]; exact hi)
  rw [hok.1] at e1
  exact ⟨g, cap, gi, _, by rw [hv, hrl], e1, e2, hok.2 i⟩
theorem bef_nat {l : List Ev} {a b : Nat} : BefP l (a : Int) (b : Int) ↔ HB l a b := by
  constructor
  · rintro ⟨x, y, h1, h2, h3⟩
    obtain rfl : a = x := by omega
    obtain rfl : b = y := by omega
    exact h3
  · intro h; exact ⟨a, b, rfl, rfl, h⟩
theorem bool_iff {a b : Bool} {P : Prop} (h : a = true ↔ P) (k : b = true ↔ P) : a = b := by
  cases a <;> cases b <;> simp_all
set_option maxRecDepth 1000000 in
set_option maxHeartbeats 16000000 in
theorem clockBefores_any {w : World} {v : Value} {l : List Ev} (hv : Rr evK w v l) (i j : Int) :
    Calls Try.prog 4 #[v, .int .i64 i, .int .i64 j] w fun e w' => e = .returned (.bool true) ∧ Below w.heap.size w w' := by
  obtain ⟨ao, cap, rfl, hv1, hv2⟩ := id hv.form
  obtain ⟨n, hn⟩ : ∃ n, n = min l.length 50 := ⟨_, rfl⟩
  have hmin : min (l.length : Int) 50 = (n : Int) := by omega
  have hnl : n ≤ l.length := by omega
  obtain ⟨L, hLe⟩ : ∃ L, L = l.take n := ⟨_, rfl⟩
  have hLn : L.length = n := by rw [hLe, List.length_take]; omega
  have HL : Hid (Rr evK w (.slice ao n cap) L) := Lib.hid (by rw [hLe]; exact hv.take hnl)
  have HLL : Hid (L.length ≤ 1000) := Lib.hid (by omega)
  have HLN := Lib.hid hLn
  have hn0 : (0 : Int) ≤ (n : Int) := Int.natCast_nonneg _
  have hn1 : (n : Int) ≤ (cap : Int) := by omega
  have hn5 : n ≤ 50 := by omega
  clear hv hn hnl hLe hLn
  go_enter Try.func4, Try.ntmps4
  go_wp2_with fail
  clear hmin
  go_at_call 28
  refine (to9_any HL.out HLL.out).mono ?_
  rintro e w1 ⟨v1, rfl, ho, hb1⟩
  have HR1 := Lib.hid (ho.sl HL.out.wf).rr
  have HB1 := Lib.hid hb1
  clear ho hb1
  go_wp2_with fail
  go_at_call 29
  refine (ahead_any (HL.out.below HB1.out) HLL.out).mono ?_
  rintro e w2 ⟨vo, bv, rows, rfl, hd, hrl, hro⟩
  have HD := Lib.hid hd
  have HRL := Lib.hid hrl
  have HRO := Lib.hid hro
  have HR2 := Lib.hid (HR1.out.below hd.bl)
  have HB2 := Lib.hid (HB1.out.trans (hd.bl.mono HB1.out.size))
  obtain ⟨ao2, cap2, rfl⟩ : ∃ ao2 cap2, vo = .slice ao2 n cap2 := by
    obtain ⟨τ, h⟩ := hd
    obtain ⟨a, c, h2⟩ := h.out.1.form2
    exact ⟨a, c, by rw [h2, h.len, hrl, HLN.out]⟩
  clear hd hrl hro HR1 HB1
  go_upto_region 4 with fail
  go_cut [51] from 17 to 120 (fun t wx => t = .bool false ∧ Hid (Below w2.heap.size w2 wx))
  case first =>
    go_wp2_with fail
    go_at_call 30
    refine (cktold_any _).mono ?_
    rintro e w3 ⟨rfl, hb3⟩
    have HB3 := Lib.hid hb3
    have HR3 := Lib.hid (HR2.out.below hb3)
    clear hb3
    go_wp2_with fail
    go_at_call 31
    refine (before_any HR3.out HLL.out i j).mono ?_
    rintro e w4 ⟨br, rfl, hbr, hb4⟩
    have HB4 := Lib.hid (HB3.out.trans (hb4.mono HB3.out.size))
    have HBR := Lib.hid hbr
    clear hb4 hbr HB3 HR3
    by_cases hin : 0 ≤ i ∧ i < j ∧ j < (n : Int)
    · obtain ⟨i0, ij, jn⟩ := hin
      obtain ⟨a, rfl⟩ : ∃ a : Nat, i = (a : Int) := ⟨i.toNat, by omega⟩
      obtain ⟨b, rfl⟩ : ∃ b : Nat, j = (b : Int) := ⟨j.toNat, by omega⟩
      obtain ⟨g, cp, gi, bb, hvv, e1, e2, hbb⟩ := ah_look (HD.out.below HB4.out) HRL.out HRO.out HLN.out (j := b) (i := a) (by omega) (by omega)
      simp only [Value.slice.injEq] at hvv
      obtain ⟨rfl, _, rfl⟩ := hvv
      obtain rfl : br = bb := bool_iff (HBR.out.trans bef_nat) hbb
      have hne : (br != br) = false := by simp
      have b0 : (0 : Int) ≤ (b : Int) := Int.natCast_nonneg _
      have an : (a : Int) < (n : Int) := by omega
      clear hbb
      go_wp2_with fail
      go_meet
      exact ⟨rfl, HB4⟩
    · obtain rfl : br = false := by
        cases br
        · rfl
        · exact absurd (HBR.out.1 rfl) (bef_no (by rw [HLN.out]; omega))
      rcases (show i < 0 ∨ (0 ≤ i ∧ ¬ j < (n : Int)) ∨ (0 ≤ i ∧ j < (n : Int) ∧ ¬ i < j) by omega) with x1 | ⟨x1, x2⟩ | ⟨x1, x2, x3⟩
      · have x1' : ¬ 0 ≤ i := by omega
        clear hin
        go_wp2_with fail
        go_meet
        exact ⟨rfl, HB4⟩
      · clear hin
        go_wp2_with fail
        go_meet
        exact ⟨rfl, HB4⟩
      · clear hin
        go_wp2_with fail
        go_meet
        exact ⟨rfl, HB4⟩
  case rest =>
    obtain ⟨rfl, HB0⟩ := hcut
    have HLK : Hid (∀ (wx : World) (x y : Nat), Below w2.heap.size w2 wx → x < n → y < n → ∃ g gi bb, ao2 = some ⟨g, 0, none⟩ ∧ wx.cell? ⟨g, x, none⟩ = some (.slice (some ⟨gi, 0, none⟩) n n) ∧ wx.cell? ⟨gi, y, none⟩ = some (.bool bb) ∧ (bb = true ↔ HB L y x)) := Lib.hid (fun wx x y hb hx hy => by
      obtain ⟨g, cp, gi, bb, hvv, e1, e2, hbb⟩ := ah_look (HD.out.below hb) HRL.out HRO.out HLN.out hx hy
      simp only [Value.slice.injEq] at hvv
      exact ⟨g, gi, bb, hvv.1, e1, e2, hbb⟩)
    go_wp2_with fail
    go_loopg [9] 14 (fun k t wr => ∃ (a : Nat), a + k = 14 ∧ t = .int .i64 (a : Int) ∧ Hid (Below w2.heap.size w2 wr))
    case atStart => exact ⟨0, rfl, rfl, HB0⟩
    case round =>
      obtain ⟨a, hak, rfl, HB⟩ := hrel
      clear HB0
      have HAK := Lib.hid hak
      have a0 : (0 : Int) ≤ (a : Int) := Int.natCast_nonneg _
      have a14 : (a : Int) ≤ 14 := by omega
      by_cases ha : a < n ∧ a < 14
      · obtain ⟨ha1, ha2⟩ := ha
        have an : (a : Int) < (n : Int) := by omega
        have al : (a : Int) < 14 := by omega
        have HA1 := Lib.hid ha1
        have HA2 := Lib.hid ha2
        clear hak ha1 ha2
        go_wp2_with fail
        go_loopg [10] 14 (fun k t wr => ∃ (b : Nat), b + k = 15 + a ∧ a < b ∧ b ≤ 14 ∧ t = .int .i64 (b : Int) ∧ Hid (Below w2.heap.size w2 wr))
        case atStart => exact ⟨a + 1, by omega, by omega, by have := HA2.out; omega, by first | rfl | go_num, HB⟩
        case round =>
          obtain ⟨b, hbk, hab, hb14, rfl, HB⟩ := hrel
          have HBK := Lib.hid hbk
          have HAB := Lib.hid hab
          have b0 : (0 : Int) ≤ (b : Int) := Int.natCast_nonneg _
          have b14 : (b : Int) ≤ 14 := by omega
          by_cases hb : b < n ∧ b < 14
          · obtain ⟨hb1, hb2⟩ := hb
            have bn : (b : Int) < (n : Int) := by omega
            have bl : (b : Int) < 14 := by omega
            have HN1 := Lib.hid hb1
            have HN2 := Lib.hid hb2
            obtain ⟨g, gi, bb, rfl, e1, e2, hbb⟩ := HLK.out _ b a (HB.out.trans (Below.refl _ _).drew) hb1 HA1.out
            have HBB := Lib.hid hbb
            have hl1 := Lib.lt_of_cell e1
            have hl2 := Lib.lt_of_cell e2
            have hne : (bb != bb) = false := by simp
            have HBX : Hid (Below w2.heap.size w2 wr.drew) := Lib.hid (HB.out.trans (Below.refl _ _).drew)
            have hs := And.intro e1 e2
            clear hbk hab hb14 hb1 hb2 hbb e1 e2
            go_upto_region 12 with fail
            refine wp_region_held_drew (S := (fun w' => w'.cell? ⟨g, b, none⟩ = some (.slice (some ⟨gi, 0, none⟩) n n) ∧ w'.cell? ⟨gi, a, none⟩ = some (.bool bb))) (by kernel_rfl) ?_ (fun hHeld => ?_)
            · ((try dsimp only); exact hs)
            refine wpAnyH_take (i := 0) (v := ?_) rfl (by kernel_rfl) (by kernel_rfl) (by kernel_rfl) (fun _ _ _ h => h) (Or.inl ⟨by rfl, ?_⟩) (by assumption) ?_
            rotate_left 1
            · (intro w hSw; (try dsimp only at hSw); first | (go_simp; done) | (go_simp; with_reducible rfl))
            try simp only [Act.put, List.setIfInBounds_toArray, List.set_cons_zero, List.set_cons_succ, List.getElem_toArray, List.getElem_cons_zero]
            refine wpAnyH_take (i := 1) (v := ?_) rfl (by kernel_rfl) (by kernel_rfl) (by kernel_rfl) (fun _ _ _ h => h) (Or.inl ⟨by rfl, ?_⟩) (by assumption) ?_
            rotate_left 1
            · (intro w hSw; (try dsimp only at hSw); first | (go_simp; done) | (go_simp; with_reducible rfl))
            try simp only [Act.put, List.setIfInBounds_toArray, List.set_cons_zero, List.set_cons_succ, List.getElem_toArray, List.getElem_cons_zero, List.getElem_cons_succ]
            refine wpAnyH_take (i := 2) (v := ?_) rfl (by kernel_rfl) (by kernel_rfl) (by kernel_rfl) (fun _ _ _ h => h) (Or.inl ⟨by rfl, ?_⟩) (by assumption) ?_
            rotate_left 1
            · (intro w hSw; (try dsimp only at hSw); first | (go_simp; done) | (go_simp; with_reducible rfl))
            try simp only [Act.put, List.setIfInBounds_toArray, List.set_cons_zero, List.set_cons_succ, List.getElem_toArray, List.getElem_cons_zero, List.getElem_cons_succ]
            refine wpAnyH_take (i := 4) (v := ?_) rfl (by kernel_rfl) (by kernel_rfl) (by kernel_rfl) (fun _ _ _ h => h) (Or.inl ⟨by rfl, ?_⟩) (by assumption) ?_
            rotate_left 1
            · (intro w hSw; (try dsimp only at hSw); first | (go_simp; done) | (go_simp; with_reducible rfl))
            try simp only [Act.put, List.setIfInBounds_toArray, List.set_cons_zero, List.set_cons_succ, List.getElem_toArray, List.getElem_cons_zero, List.getElem_cons_succ]
            refine wpAnyH_take (i := 5) (v := ?_) rfl (by kernel_rfl) (by kernel_rfl) (by kernel_rfl) (fun _ _ _ h => h) (Or.inl ⟨by rfl, ?_⟩) (by assumption) ?_
            rotate_left 1
            · (intro w hSw; (try dsimp only at hSw); first | (go_simp; done) | (go_simp; with_reducible rfl))
            try simp only [Act.put, List.setIfInBounds_toArray, List.set_cons_zero, List.set_cons_succ, List.getElem_toArray, List.getElem_cons_zero, List.getElem_cons_succ]
            refine wpAnyH_take (i := 6) (v := ?_) rfl (by kernel_rfl) (by kernel_rfl) (by kernel_rfl) (fun _ _ _ h => h) (Or.inl ⟨by rfl, ?_⟩) (by assumption) ?_
            rotate_left 1
            · (intro w hSw; (try dsimp only at hSw); first | (go_simp; done) | (go_simp; with_reducible rfl))
            try simp only [Act.put, List.setIfInBounds_toArray, List.set_cons_zero, List.set_cons_succ, List.getElem_toArray, List.getElem_cons_zero, List.getElem_cons_succ]
            refine wpAnyH_take (i := 7) (v := ?_) rfl (by kernel_rfl) (by kernel_rfl) (by kernel_rfl) (fun _ _ _ h => h) (Or.inl ⟨by rfl, ?_⟩) (by assumption) ?_
            rotate_left 1
            · (intro w hSw; (try dsimp only at hSw); first | (go_simp; done) | (go_simp; with_reducible rfl))
            try simp only [Act.put, List.setIfInBounds_toArray, List.set_cons_zero, List.set_cons_succ, List.getElem_toArray, List.getElem_cons_zero, List.getElem_cons_succ]
            refine wpAnyH_take (i := 8) (v := ?_) rfl (by kernel_rfl) (by kernel_rfl) (by kernel_rfl) (fun _ _ _ h => h) (Or.inl ⟨by rfl, ?_⟩) (by assumption) ?_
            rotate_left 1
            · (intro w hSw; (try dsimp only at hSw); first | (go_simp; done) | (go_simp; with_reducible rfl))
            try simp only [Act.put, List.setIfInBounds_toArray, List.set_cons_zero, List.set_cons_succ, List.getElem_toArray, List.getElem_cons_zero, List.getElem_cons_succ]
            refine wpAnyH_take (i := 9) (v := ?_) rfl (by kernel_rfl) (by kernel_rfl) (by kernel_rfl) (fun _ _ _ h => h) (Or.inl ⟨by rfl, ?_⟩) (by assumption) ?_
            rotate_left 1
            · (intro w hSw; (try dsimp only at hSw); first | (go_simp; done) | (go_simp; with_reducible rfl))
            try simp only [Act.put, List.setIfInBounds_toArray, List.set_cons_zero, List.set_cons_succ, List.getElem_toArray, List.getElem_cons_zero, List.getElem_cons_succ]
            refine wpAnyH_take (i := 10) (v := ?_) rfl (by kernel_rfl) (by kernel_rfl) (by kernel_rfl) (fun _ _ _ h => h) (Or.inl ⟨by rfl, ?_⟩) (by assumption) ?_
            rotate_left 1
            · (intro w hSw; (try dsimp only at hSw); first | (go_simp; done) | (go_simp; with_reducible rfl))
            try simp only [Act.put, List.setIfInBounds_toArray, List.set_cons_zero, List.set_cons_succ, List.getElem_toArray, List.getElem_cons_zero, List.getElem_cons_succ]
            refine wpAnyH_ready (rs := [3]) (by kernel_rfl) (by simp) ?_
            refine AllReadyH.cons rfl (fun K hK => ?_) AllReadyH.nil
            go_simp
            go_at_call 31
            refine (before_any (HR2.out.below HBX.out) HLL.out (a : Int) (b : Int)).mono ?_
            rintro e w4 ⟨br, rfl, hbr, hb4⟩
            obtain rfl : bb = br := bool_iff HBB.out (hbr.trans bef_nat)
            replace hs := And.intro ((hb4.cell (p := ⟨g, b, none⟩) hl1).trans hs.1) ((hb4.cell (p := ⟨gi, a, none⟩) hl2).trans hs.2)
            replace HBX := Lib.hid (HBX.out.trans (hb4.mono HBX.out.size))
            clear hb4 hbr
            try go_wp2_with fail
            refine hK.out _ _ ?_ (fun hHeld => ?_)
            · ((try dsimp only); exact hs)
            clear hK K
            try simp only [Act.put, List.setIfInBounds_toArray, List.set_cons_zero, List.set_cons_succ, List.getElem_toArray, List.getElem_cons_zero, List.getElem_cons_succ]
            refine wpAnyH_take (i := 11) (v := ?_) rfl (by kernel_rfl) (by kernel_rfl) (by kernel_rfl) (fun _ _ _ h => h) (Or.inl ⟨by rfl, ?_⟩) (by assumption) ?_
            rotate_left 1
            · (intro w hSw; (try dsimp only at hSw); first | (go_simp; done) | (go_simp; with_reducible rfl))
            try simp only [Act.put, List.setIfInBounds_toArray, List.set_cons_zero, List.set_cons_succ, List.getElem_toArray, List.getElem_cons_zero, List.getElem_cons_succ]
            refine wpAnyH_done (by kernel_rfl) ?_ _
            go_wp2_with fail
            go_loopg [11] 14 (fun k t wr => ∃ (c : Nat), c + k = 15 + b ∧ b < c ∧ c ≤ 14 ∧ t = .int .i64 (c : Int) ∧ Hid (Below w2.heap.size w2 wr))
            case atStart => exact ⟨b + 1, by omega, by omega, by have := HN2.out; omega, by first | rfl | go_num, HBX⟩
            case round =>
              obtain ⟨c, hck, hbc, hc14, rfl, HB⟩ := hrel
              clear HBX hs hl1 hl2
              have HCK := Lib.hid hck
              have HBC := Lib.hid hbc
              have c0 : (0 : Int) ≤ (c : Int) := Int.natCast_nonneg _
              have c14 : (c : Int) ≤ 14 := by omega
              by_cases hc : c < n ∧ c < 14
              · obtain ⟨hc1, hc2⟩ := hc
                have cn : (c : Int) < (n : Int) := by omega
                have cl : (c : Int) < 14 := by omega
                have HC2 := Lib.hid hc2
                obtain ⟨g1, gi1, b1, hg1, e1, e2, hb1⟩ := HLK.out _ b a HB.out HN1.out HA1.out
                obtain rfl : g = g1 := by simpa using hg1
                obtain ⟨g2, gi2, b2, hg2, e3, e4, hb2⟩ := HLK.out _ c b HB.out hc1 HN1.out
                obtain rfl : g = g2 := by simpa using hg2
                have HB1' := Lib.hid hb1
                have HB2' := Lib.hid hb2
                have HRX := Lib.hid (HR2.out.below HB.out)
                clear hck hbc hc14 hc1 hc2 hb1 hb2 hg1 hg2
                cases b1
                · go_wp2_with fail
                  go_roundg (gk - 1)
                  case measure => have := HCK.out; have := HC2.out; have := HBC.out; omega
                  case rel => exact ⟨c + 1, by have := HCK.out; have := HC2.out; have := HBC.out; omega, by have := HBC.out; omega, by have := HC2.out; omega, by go_num, HB⟩
                · cases b2
                  · go_wp2_with fail
                    go_roundg (gk - 1)
                    case measure => have := HCK.out; have := HC2.out; have := HBC.out; omega
                    case rel => exact ⟨c + 1, by have := HCK.out; have := HC2.out; have := HBC.out; omega, by have := HBC.out; omega, by have := HC2.out; omega, by go_num, HB⟩
                  · go_wp2_with fail
                    go_at_call 31
                    refine (before_any HRX.out HLL.out (a : Int) (c : Int)).mono ?_
                    rintro e w4 ⟨br, rfl, hbr, hb4⟩
                    obtain rfl : br = true := hbr.2 (bef_nat.2 ((HB1'.out.1 (by first | rfl | trivial)).trans (HB2'.out.1 (by first | rfl | trivial))))
                    replace HB := Lib.hid (HB.out.trans (hb4.mono HB.out.size))
                    clear hb4 hbr
                    go_wp2_with fail
                    go_roundg (gk - 1)
                    case measure => have := HCK.out; have := HC2.out; have := HBC.out; omega
                    case rel => exact ⟨c + 1, by have := HCK.out; have := HC2.out; have := HBC.out; omega, by have := HBC.out; omega, by have := HC2.out; omega, by go_num, HB⟩
              · by_cases hc1 : c < n
                case' pos =>
                  have cn : (c : Int) < (n : Int) := by omega
                  have cl : ¬ (c : Int) < 14 := by omega
                case' neg => have cn : ¬ (c : Int) < (n : Int) := by omega
                all_goals
                  clear hc hc1
                  go_wp2_with fail
                  go_roundg (14 + a - b)
                  case measure => have := HBK.out; have := HN2.out; have := HAB.out; omega
                  case rel => exact ⟨b + 1, by have := HBK.out; have := HN2.out; have := HAB.out; omega, by have := HAB.out; omega, by have := HN2.out; omega, by go_num, HB⟩
          · by_cases hb1 : b < n
            case' pos =>
              have bn : (b : Int) < (n : Int) := by omega
              have bl : ¬ (b : Int) < 14 := by omega
            case' neg => have bn : ¬ (b : Int) < (n : Int) := by omega
            all_goals
              clear hb hb1
              go_wp2_with fail
              go_roundg (13 - a)
              case measure => have := HAK.out; have := HA2.out; omega
              case rel => exact ⟨a + 1, by have := HAK.out; have := HA2.out; omega, by go_num, HB⟩
      · by_cases ha1 : a < n
        case' pos =>
          have an : (a : Int) < (n : Int) := by omega
          have al : ¬ (a : Int) < 14 := by omega
        case' neg => have an : ¬ (a : Int) < (n : Int) := by omega
        all_goals
          have HE := Lib.hid (HB2.out.trans (HB.out.mono HB2.out.size))
          clear ha ha1
          go_wp2_with fail
          go_ret
          exact ⟨rfl, HE.out⟩
end Go.Proofs.Ytneegocbknkhjaa.Ck
