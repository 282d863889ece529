/-
  PACKAGE script: edgesText, inputsText, Graph. (gen/scgtext.py)
-/
import Derived.Test.YtdbaacalfbbdiaaGreatDoorScLine
import Derived.Test.YtdbaacalfbbdiaaGreatDoorGCheck2
namespace Go.Proofs.YtdbaacalfbbdiaaGreatDoor.Sc
open Go.RowKit
set_option linter.unusedVariables false
set_option linter.unusedSimpArgs false
theorem edgesV_in {n : Int} : ∀ (E : List Gr.Ed) (i : Nat), (Gr.edgesV n i E).2 = 0 → ∀ y ∈ E, Gr.inP n y.f ∧ Gr.inP n y.t
  | [], _, _, y, hy => by simp at hy
  | x :: r, i, h, y, hy => by
    unfold Gr.edgesV at h
    by_cases h1 : Gr.inP n x.f
    · rw [if_neg (fun h2 => h2 h1)] at h
      by_cases h3 : Gr.inP n x.t
      · rw [if_neg (fun h2 => h2 h3)] at h
        rcases List.mem_cons.1 hy with rfl | hy
        · exact ⟨h1, h3⟩
        · exact edgesV_in r (i + 1) h y hy
      · rw [if_pos h3] at h; simp at h
    · rw [if_pos h1] at h; simp at h
theorem insV_in {n : Int} : ∀ (l pre : List Int) (i : Nat), (Gr.inputsV n i pre l).2 = 0 → ∀ x ∈ l, Gr.inP n x
  | [], _, _, _, x, hx => by simp at hx
  | p :: r, pre, i, h, x, hx => by
    unfold Gr.inputsV at h
    by_cases h1 : Gr.inP n p
    · rw [if_neg (fun h2 => h2 h1)] at h
      by_cases h3 : p ∈ pre
      · rw [if_pos h3] at h; simp at h
      · rw [if_neg h3] at h
        rcases List.mem_cons.1 hx with rfl | hx
        · exact h1
        · exact insV_in r (pre ++ [p]) (i + 1) h x hx
    · rw [if_pos h1] at h; simp at h
noncomputable def okG (g : Gm) : Bool := decide ((Gr.chkV g.n g.E g.I).2 = 0)
theorem okG_lim : OkP okG := by
  intro g h hu
  have h := of_decide_eq_true h
  obtain ⟨n, E, I⟩ := g
  dsimp only at h hu
  unfold Gr.chkV at h
  split at h
  · simp at h
  rename_i h1
  split at h
  · simp at h
  rename_i h2
  split at h
  · rename_i h3; exact absurd h h3
  rename_i h3
  split at h
  · simp at h
  rename_i h4
  split at h
  · rename_i h5; exact absurd h h5
  rename_i h5
  have he := edgesV_in E 0 (Classical.not_not.1 h3)
  have hi := insV_in I [] 0 (Classical.not_not.1 h5)
  unfold Gr.inP at he hi
  refine ⟨by dsimp only; omega, fun x hx => ?_, by dsimp only; omega, fun x hx => ?_, fun e => h4 (.inl (by dsimp only at e; rw [e]; rfl)), by dsimp only; omega⟩
  · have a := he x hx
    exact ⟨⟨a.1.1, by omega⟩, ⟨a.2.1, by omega⟩, hu x hx⟩
  · have a := hi x hx
    exact ⟨a.1, by omega⟩
def edJ (x : Gr.Ed) : Bs := joinV [47] [Lib.itoa x.f, Lib.itoa x.t, timeL x.a]
theorem edJ_eq (x : Gr.Ed) : edJ x = edL x := by
  unfold edJ edL
  rw [join3, if_neg (by rintro (e | e | e); exact itoa_ne _ e; exact itoa_ne _ e; exact timeL_ne _ e)]
  simp
theorem joinE (E : List Gr.Ed) : joinV [44] (E.map edJ) = Lib.join (E.map edL) [44] := by
  have e : E.map edJ = E.map edL := List.map_congr_left fun x _ => edJ_eq x
  unfold joinV
  rw [e, if_neg]
  intro hm
  obtain ⟨y, _, hy⟩ := List.mem_map.1 hm
  unfold edL at hy
  simp at hy
theorem joinI (I : List Int) : joinV [44] (I.map Lib.itoa) = insL I := by
  unfold joinV insL
  rw [if_neg]
  intro hm
  obtain ⟨y, _, hy⟩ := List.mem_map.1 hm
  exact itoa_ne _ hy
theorem edJ_len {x : Gr.Ed} (h : x.Wf) : (edJ x).length ≤ 66 := by
  have := joinV_bound (sep := [47]) (M := 21) [Lib.itoa x.f, Lib.itoa x.t, timeL x.a] (by
    intro y hy
    simp at hy
    rcases hy with rfl | rfl | rfl
    · exact itoa_len h.f0 h.f1
    · exact itoa_len h.t0 h.t1
    · have := timeL_len (t := x.a) ⟨h.a0, h.a1⟩; omega) (by simp)
  exact this
set_option maxRecDepth 1000000 in
set_option maxHeartbeats 8000000 in
theorem edgesT_any {w : World} {v : Value} {l : List Gr.Ed} (hv : Gr.Rd w v l) (hl : l.length ≤ 1000) (hL : SV w) :
    Calls Tryz.prog 44 #[v] w fun e w' => e = .returned (.string (bs (edsL l))) ∧ Below w.heap.size w w' := by
  obtain ⟨ao, cap, rfl, hlc, hcm, hwf, hcell⟩ := hv
  have HL := Lib.hid hL
  have HC := Lib.hid hcell
  have HW := Lib.hid hwf
  clear hL hcell hwf
  by_cases h0 : l = []
  · have HR := Lib.hid (show edsL l = [45] from if_pos h0)
    have q : ((l.length : Int) == 0) = true := by rw [h0]; rfl
    clear h0
    generalize l.length = n at *
    go_enter Tryz.func44, Tryz.ntmps44
    go_wp2_with fail
    go_ret
    exact ⟨by rw [HR.out]; rfl, Below.refl _ _⟩
  · have HR := Lib.hid (show edsL l = joinV [44] (l.map edJ) by rw [joinE]; exact if_neg h0)
    have q : ((l.length : Int) == 0) = false := by rw [beq_eq_false_iff_ne]; intro e; exact h0 (List.length_eq_zero_iff.1 (by omega))
    have HLL := Lib.hid hl
    obtain ⟨n, hn⟩ : ∃ n, n = l.length := ⟨_, rfl⟩
    obtain ⟨o, hmk, ho⟩ := mk_parts n (by omega)
    have HO := Lib.hid ho
    have HN := Lib.hid hn
    rw [← hn] at q ⊢
    have hn1 : n ≤ 1000 := by omega
    clear ho hn
    obtain ⟨g, hg⟩ : ∃ g, g = w.heap.size := ⟨_, rfl⟩
    have HG := Lib.hid hg
    go_enter Tryz.func44, Tryz.ntmps44
    go_wp2_with fail
    obtain ⟨w1, hw1⟩ : ∃ w1, w1 = w.alloc o := ⟨_, rfl⟩
    rw [← hw1, ← hg]
    have HP := Lib.hid (show PtAt w1 g n (upL (l.map edJ) 0) by rw [← upL_zero]; exact HO.out w1 g (by rw [hw1, hg]; exact heap_alloc_new w _))
    have HB1 := Lib.hid (show Below w.heap.size w w1 by rw [hw1]; exact (Below.refl _ _).alloc (Nat.le_refl _) _)
    clear hw1 hmk hg
    go_loopg [14] (n + 1) (fun k t wr => ∃ i : Nat, i + k = n + 1 ∧ i ≤ n ∧ t = .int .i64 i ∧ PtAt wr g n (upL (l.map edJ) i) ∧ Below w.heap.size w wr)
    case atStart => exact ⟨0, by omega, by omega, rfl, HP.out, HB1.out⟩
    case round =>
      obtain ⟨i, hik, hil, rfl, hP, hbw⟩ := hrel
      have HIK := Lib.hid hik
      have HBW := Lib.hid hbw
      have HPW := Lib.hid hP
      clear hik hP hbw
      by_cases hlt1 : i < n
      · obtain ⟨x, hx⟩ : ∃ x, l[i]? = some x := ⟨_, List.getElem?_eq_getElem (by rw [← HN.out]; exact hlt1)⟩
        have hwx := HW.out x (List.mem_of_getElem? hx)
        have hne : l ≠ [] := by intro e; rw [e] at hx; simp at hx
        obtain ⟨b, off, hao, hcc⟩ := HC.out.resolve_left hne
        subst hao
        have qc := hcc i x hx
        have hbl := qc.lt
        obtain ⟨c0, c1, c2⟩ := qc.below HBW.out hbl
        have HU := Lib.hid hwx
        have HX := Lib.hid hx
        obtain ⟨p, t, d⟩ := x
        simp only at c0 c1 c2
        have hi0' : (0 : Int) ≤ (i : Int) := Int.natCast_nonneg _
        have hi1 : (i : Int) < (n : Int) := by omega
        clear hx hne hcc qc hbl hwx HC
        go_upto_region 7 with fail
        obtain ⟨w6, hw6⟩ : ∃ w6, w6 = wr.alloc (.cells #[.int .i64 p, .int .i64 t, .int .u64 d] 70) := ⟨_, rfl⟩
        have hx6 : w6.heap[wr.heap.size]? = some (.cells #[.int .i64 p, .int .i64 t, .int .u64 d] 70 (0, 0)) := by rw [hw6]; exact heap_alloc_new wr _
        have hb6 : Below wr.heap.size wr w6 := by rw [hw6]; exact (Below.refl _ _).alloc (Nat.le_refl _) _
        rw [← hw6]
        clear hw6 c0 c1 c2
        obtain ⟨s, hs⟩ : ∃ s, s = wr.heap.size := ⟨_, rfl⟩
        rw [← hs] at hx6 ⊢
        have a0 : w6.cell? ⟨s, 0, none⟩ = some (.int .i64 p) := by simp [World.cell?, hx6]
        have a1 : w6.cell? ⟨s, 1, none⟩ = some (.int .i64 t) := by simp [World.cell?, hx6]
        have a2 : w6.cell? ⟨s, 2, none⟩ = some (.int .u64 d) := by simp [World.cell?, hx6]
        have HS := Lib.hid (Array.getElem?_eq_some_iff.1 hx6).1
        have HB6 := Lib.hid (HBW.out.trans (hb6.mono HBW.out.size))
        have HP6 := Lib.hid (HPW.out.below hb6)
        have HSG := Lib.hid (show g ≠ s by have := HPW.out.lt; omega)
        have HGW := Lib.hid (show w.heap.size ≤ g by rw [HG.out]; exact Nat.le_refl _)
        clear hx6 hb6 hs
        refine wp_region_held_drew (S := fun w' => w'.cell? ⟨s, 0, none⟩ = some (.int .i64 p) ∧ w'.cell? ⟨s, 1, none⟩ = some (.int .i64 t) ∧ w'.cell? ⟨s, 2, none⟩ = some (.int .u64 d)) (by kernel_rfl) ?_ (fun hHeld => ?_)
        · ((try dsimp only); exact ⟨a0, a1, a2⟩)
        have HB0 := Lib.hid (show Below w6.heap.size w6 w6.drew from below_drewN (Below.refl _ _) 1)
        refine Qt 0 (fun _ => ?_)
        refine Qt 1 (fun _ => ?_)
        refine Qt 2 (fun _ => ?_)
        refine Qt 3 (fun _ => ?_)
        refine Qt 5 (fun _ => ?_)
        refine Qt 6 (fun _ => ?_)
        refine Qt 8 (fun _ => ?_)
        refine Qt 9 (fun _ => ?_)
        refine Qr 4 fun K hK => ?_
        go_simp
        go_at_call 43
        refine (itoaV_any p HU.out.f0 HU.out.f1 _ (HL.out.below (HB6.out.trans (HB0.out.mono HB6.out.size))).st.tab).mono ?_
        rintro e w7 ⟨rfl, hb⟩
        have HBw7 := Lib.hid (HB0.out.trans (hb.mono HB0.out.size))
        try go_wp2_with fail
        refine hK.out _ _ ?_ (fun hHeld => ?_)
        · ((try dsimp only); exact ⟨Kc HBw7.out HS.out a0, Kc HBw7.out HS.out a1, Kc HBw7.out HS.out a2⟩)
        clear hK K
        try simp only [Act.put, Qa, Qb, Qc, Qd, Qe, Qf]
        refine Qr 7 fun K hK => ?_
        go_simp
        go_at_call 43
        refine (itoaV_any t HU.out.t0 HU.out.t1 _ (HL.out.below (HB6.out.trans (HBw7.out.mono HB6.out.size))).st.tab).mono ?_
        rintro e w8 ⟨rfl, hb⟩
        have HBw8 := Lib.hid (HBw7.out.trans (hb.mono HBw7.out.size))
        try go_wp2_with fail
        refine hK.out _ _ ?_ (fun hHeld => ?_)
        · ((try dsimp only); exact ⟨Kc HBw8.out HS.out a0, Kc HBw8.out HS.out a1, Kc HBw8.out HS.out a2⟩)
        clear hK K
        try simp only [Act.put, Qa, Qb, Qc, Qd, Qe, Qf]
        refine Qr 10 fun K hK => ?_
        go_simp
        go_at_call 32
        refine (timeS_any d ⟨HU.out.a0, HU.out.a1⟩ (HL.out.below (HB6.out.trans (HBw8.out.mono HB6.out.size)))).mono ?_
        rintro e w9 ⟨rfl, hb⟩
        have HBw9 := Lib.hid (HBw8.out.trans (hb.mono HBw8.out.size))
        try go_wp2_with fail
        refine hK.out _ _ ?_ (fun hHeld => ?_)
        · ((try dsimp only); exact ⟨Kc HBw9.out HS.out a0, Kc HBw9.out HS.out a1, Kc HBw9.out HS.out a2⟩)
        clear hK K
        try simp only [Act.put, Qa, Qb, Qc, Qd, Qe, Qf]
        refine Qr 11 fun K hK => ?_
        go_simp
        have HBwa := Lib.hid (HBw9.out.alloc HBw9.out.size (.cells #[.string (bs (Lib.itoa p)), .string (bs (Lib.itoa t)), .string (bs (timeL d))] 9))
        refine hK.out _ _ ?_ (fun hHeld => ?_)
        · ((try dsimp only); exact ⟨Kc HBwa.out HS.out a0, Kc HBwa.out HS.out a1, Kc HBwa.out HS.out a2⟩)
        clear hK K
        try simp only [Act.put, Qa, Qb, Qc, Qd, Qe, Qf]
        refine Qr 12 fun K hK => ?_
        go_simp
        go_at_call 30
        refine (join_any [47] (rd_three w9 (Lib.itoa p) (Lib.itoa t) (timeL d)) (by simp) (by have := join_bound (sep := [47]) (M := 21) [Lib.itoa p, Lib.itoa t, timeL d] (by intro y hy; simp at hy; rcases hy with rfl | rfl | rfl; exact itoa_len HU.out.f0 HU.out.f1; exact itoa_len HU.out.t0 HU.out.t1; (have h := timeL_len (t := d) ⟨HU.out.a0, HU.out.a1⟩; exact Nat.le_trans h (by decide))) (by simp); simp at this; omega)).mono ?_
        rintro e wb ⟨rfl, hb⟩
        have HBwb := Lib.hid (HBwa.out.trans (hb.mono HBwa.out.size))
        try go_wp2_with fail
        refine hK.out _ _ ?_ (fun hHeld => ?_)
        · ((try dsimp only); exact ⟨Kc HBwb.out HS.out a0, Kc HBwb.out HS.out a1, Kc HBwb.out HS.out a2⟩)
        clear hK K
        try simp only [Act.put, Qa, Qb, Qc, Qd, Qe, Qf]
        have hpb := HP6.out.below HBwb.out
        obtain ⟨z0, zf⟩ := hpb.at hlt1
        refine Qt 13 (fun _ => ?_)
        refine Qr 14 fun K hK => ?_
        go_simp
        have HQ := Lib.hid (hpb.set hlt1 (joinV [47] [Lib.itoa p, Lib.itoa t, timeL d]))
        have HBe := Lib.hid ((HB6.out.trans (HBwb.out.mono HB6.out.size)).setCell (p := ⟨g, i, none⟩) HGW.out (.string (bs (joinV [47] [Lib.itoa p, Lib.itoa t, timeL d]))))
        refine hK.out _ _ ?_ (fun hHeld => ?_)
        · ((try dsimp only); exact ⟨(World.cell?_setCell_far _ _ _ _ HSG.out).trans (Kc HBwb.out HS.out a0), (World.cell?_setCell_far _ _ _ _ HSG.out).trans (Kc HBwb.out HS.out a1), (World.cell?_setCell_far _ _ _ _ HSG.out).trans (Kc HBwb.out HS.out a2)⟩)
        clear hK K
        try simp only [Act.put, Qa, Qb, Qc, Qd, Qe, Qf]
        refine wpAnyH_done (by kernel_rfl) ?_ _
        clear z0 zf hpb a0 a1 a2
        go_wp2_with fail
        go_roundg (n - i)
        case measure => have := HIK.out; omega
        case rel =>
          have e : (l.map edJ)[i]? = some (joinV [47] [Lib.itoa p, Lib.itoa t, timeL d]) := by rw [List.getElem?_map, HX.out]; rfl
          have h := HQ.out
          rw [upL_succ _ e] at h
          exact ⟨i + 1, by have := HIK.out; omega, by omega, by go_num, h, HBe.out⟩
      · have hin : i = n := by omega
        subst hin
        have hrd := HPW.out.rd (xs := l.map edJ) (by rw [List.length_map]; exact HN.out.symm) (fun j x hx => by
          have := upL_full (l.map edJ) j x hx
          rwa [List.length_map, ← HN.out] at this)
        have hj := join_any [44] hrd (by rw [List.length_map, ← HN.out]; omega) (by
          have := join_bound (sep := [44]) (M := 66) (l.map edJ) (by
            intro y hy
            obtain ⟨x, hx, rfl⟩ := List.mem_map.1 hy
            exact edJ_len (HW.out x hx)) (by simp)
          rw [List.length_map] at this
          have := HLL.out
          omega)
        have HJ := Lib.hid hj
        clear hj hrd
        go_wp2_with fail
        go_at_call 30
        refine HJ.out.mono ?_
        rintro e w2 ⟨rfl, hb2⟩
        go_wp2_with fail
        go_ret
        exact ⟨by rw [HR.out]; rfl, HBW.out.trans (hb2.mono HBW.out.size)⟩
set_option maxRecDepth 1000000 in
set_option maxHeartbeats 8000000 in
theorem insT_any {w : World} {v : Value} {l : List Int} (hv : Gr.RdI w v l) (hl : l.length ≤ 1000) (hL : SV w) :
    Calls Tryz.prog 45 #[v] w fun e w' => e = .returned (.string (bs (insL l))) ∧ Below w.heap.size w w' := by
  obtain ⟨ao, cap, rfl, hlc, hcm, hwf, hcell⟩ := hv
  have HL := Lib.hid hL
  have HC := Lib.hid hcell
  have HW := Lib.hid hwf
  clear hL hcell hwf
  have HR := Lib.hid (joinI l)
  have HLL := Lib.hid hl
  obtain ⟨n, hn⟩ : ∃ n, n = l.length := ⟨_, rfl⟩
  obtain ⟨o, hmk, ho⟩ := mk_parts n (by omega)
  have HO := Lib.hid ho
  have HN := Lib.hid hn
  rw [← hn]
  have hn1 : n ≤ 1000 := by omega
  clear ho hn
  obtain ⟨g, hg⟩ : ∃ g, g = w.heap.size := ⟨_, rfl⟩
  have HG := Lib.hid hg
  go_enter Tryz.func45, Tryz.ntmps45
  go_wp2_with fail
  obtain ⟨w1, hw1⟩ : ∃ w1, w1 = w.alloc o := ⟨_, rfl⟩
  rw [← hw1, ← hg]
  have HP := Lib.hid (show PtAt w1 g n (upL (l.map Lib.itoa) 0) by rw [← upL_zero]; exact HO.out w1 g (by rw [hw1, hg]; exact heap_alloc_new w _))
  have HB1 := Lib.hid (show Below w.heap.size w w1 by rw [hw1]; exact (Below.refl _ _).alloc (Nat.le_refl _) _)
  have HGW := Lib.hid (show w.heap.size ≤ g by rw [hg]; exact Nat.le_refl _)
  clear hw1 hmk hg
  go_loopg [11] (n + 1) (fun k t wr => ∃ i : Nat, i + k = n + 1 ∧ i ≤ n ∧ t = .int .i64 i ∧ PtAt wr g n (upL (l.map Lib.itoa) i) ∧ Below w.heap.size w wr)
  case atStart => exact ⟨0, by omega, by omega, rfl, HP.out, HB1.out⟩
  case round =>
    obtain ⟨i, hik, hil, rfl, hP, hbw⟩ := hrel
    have HIK := Lib.hid hik
    have HBW := Lib.hid hbw
    have HPW := Lib.hid hP
    clear hik hP hbw
    by_cases hlt1 : i < n
    · obtain ⟨x, hx⟩ : ∃ x, l[i]? = some x := ⟨_, List.getElem?_eq_getElem (by rw [← HN.out]; exact hlt1)⟩
      have hwx := HW.out x (List.mem_of_getElem? hx)
      have hne : l ≠ [] := by intro e; rw [e] at hx; simp at hx
      obtain ⟨b, off, hao, hcc⟩ := HC.out.resolve_left hne
      subst hao
      have qc := hcc i x hx
      have c0 := (HBW.out.cell (p := ⟨b, off + i, none⟩) (Lib.lt_of_cell qc)).trans qc
      have HX := Lib.hid hx
      have hi0' : (0 : Int) ≤ (i : Int) := Int.natCast_nonneg _
      have hi1 : (i : Int) < (n : Int) := by omega
      have HNU := Lib.hid (itoaV_any x hwx.1 hwx.2 wr (HL.out.below HBW.out).st.tab)
      clear hx hne hcc qc hwx HC
      go_wp2_with fail
      go_at_call 43
      refine HNU.out.mono ?_
      rintro e w6 ⟨rfl, hb⟩
      have hpb := HPW.out.below hb
      obtain ⟨z0, zf⟩ := hpb.at hlt1
      have HQ := Lib.hid (hpb.set hlt1 (Lib.itoa x))
      have HBe := Lib.hid ((HBW.out.trans (hb.mono HBW.out.size)).setCell (p := ⟨g, i, none⟩) HGW.out (.string (bs (Lib.itoa x))))
      clear hb hpb c0
      go_wp2_with fail
      go_roundg (n - i)
      case measure => have := HIK.out; omega
      case rel =>
        have e : (l.map Lib.itoa)[i]? = some (Lib.itoa x) := by rw [List.getElem?_map, HX.out]; rfl
        have h := HQ.out
        rw [upL_succ _ e] at h
        exact ⟨i + 1, by have := HIK.out; omega, by omega, by go_num, h, HBe.out⟩
    · have hin : i = n := by omega
      subst hin
      have hrd := HPW.out.rd (xs := l.map Lib.itoa) (by rw [List.length_map]; exact HN.out.symm) (fun j x hx => by
        have := upL_full (l.map Lib.itoa) j x hx
        rwa [List.length_map, ← HN.out] at this)
      have hj := join_any [44] hrd (by rw [List.length_map, ← HN.out]; omega) (by
        have := join_bound (sep := [44]) (M := 21) (l.map Lib.itoa) (by
          intro y hy
          obtain ⟨x, hx, rfl⟩ := List.mem_map.1 hy
          have h := HW.out x hx
          exact itoa_len h.1 h.2) (by simp)
        rw [List.length_map] at this
        have := HLL.out
        omega)
      have HJ := Lib.hid hj
      clear hj hrd
      go_wp2_with fail
      go_at_call 30
      refine HJ.out.mono ?_
      rintro e w2 ⟨rfl, hb2⟩
      go_wp2_with fail
      go_ret
      exact ⟨by rw [HR.out]; rfl, HBW.out.trans (hb2.mono HBW.out.size)⟩
theorem cells3 {w : World} {b : Nat} {T : TypeId} {v0 v1 v2 : Value} (h : w.heap[b]? = some (.cells #[v0, v1, v2] T (0, 0))) : w.cell? ⟨b, 0, none⟩ = some v0 ∧ w.cell? ⟨b, 1, none⟩ = some v1 ∧ w.cell? ⟨b, 2, none⟩ = some v2 := by
  simp [World.cell?, h]
theorem edsL_len {E : List Gr.Ed} (h : ∀ x ∈ E, x.Wf) : (edsL E).length ≤ 67 * E.length + 1 := by
  unfold edsL
  split
  · simp
  · have := join_bound (sep := [44]) (M := 66) (E.map edL) (by
      intro y hy
      obtain ⟨x, hx, rfl⟩ := List.mem_map.1 hy
      rw [← edJ_eq]
      exact edJ_len (h x hx)) (by simp)
    rw [List.length_map] at this
    omega
theorem insL_len {I : List Int} (h : ∀ x ∈ I, -9223372036854775808 ≤ x ∧ x ≤ 9223372036854775807) : (insL I).length ≤ 22 * I.length := by
  have := join_bound (sep := [44]) (M := 21) (I.map Lib.itoa) (by
    intro y hy
    obtain ⟨x, hx, rfl⟩ := List.mem_map.1 hy
    exact itoa_len (h x hx).1 (h x hx).2) (by simp)
  rw [List.length_map] at this
  exact this
theorem graph_join (g : Gm) (h : g.I ≠ []) : joinV [32] [Lib.itoa g.n, edsL g.E, insL g.I] = graphT g := by
  have hi : insL g.I ≠ [] := by
    rw [← joinI]
    unfold joinV
    obtain ⟨x, r, e⟩ := List.exists_cons_of_ne_nil h
    rw [e, if_neg (by intro hm; obtain ⟨y, _, hy⟩ := List.mem_map.1 hm; exact itoa_ne _ hy), List.map_cons, Lib.join_cons]
    intro hh
    exact itoa_ne x (List.append_eq_nil_iff.1 hh).1
  have he : edsL g.E ≠ [] := by
    unfold edsL
    split
    · simp
    · rename_i h0
      obtain ⟨x, r, e⟩ := List.exists_cons_of_ne_nil h0
      rw [e, List.map_cons, Lib.join_cons]
      unfold edL
      simp
  rw [join3, if_neg (by rintro (e | e | e); exact itoa_ne _ e; exact he e; exact hi e)]
  unfold graphT
  simp
set_option maxRecDepth 1000000 in
set_option maxHeartbeats 8000000 in
theorem scGraph_any {w : World} {ve vi : Value} {E : List Gr.Ed} {I : List Int} (n : Int) (hv : Gr.Rd w ve E) (hi : Gr.RdI w vi I) (hn : -9223372036854775808 ≤ n ∧ n ≤ 9223372036854775807) (hle : E.length ≤ 1000) (hli : I.length ≤ 1000) (hL : SV w) :
    Calls Tryz.prog 15 #[.agg #[.int .i64 n, ve, vi]] w fun e w' => e = .returned (.string (bs (graphL okG ⟨n, E, I⟩))) ∧ Below w.heap.size w w' := by
  have HL := Lib.hid hL
  have HV := Lib.hid hv
  have HI := Lib.hid hi
  obtain ⟨ae, ce, rfl, _⟩ := id hv
  obtain ⟨ai, ci, rfl, _⟩ := id hi
  have HOK := Lib.hid (show okG ⟨n, E, I⟩ = decide ((Gr.chkV n E I).2 = 0) from rfl)
  have HGL := Lib.hid (show graphL okG ⟨n, E, I⟩ = if okG ⟨n, E, I⟩ = true then graphT ⟨n, E, I⟩ else [] from rfl)
  have HLM := Lib.hid (fun h => okG_lim ⟨n, E, I⟩ h fun x hx => ⟨(hv.wf x hx).a0, (hv.wf x hx).a1⟩)
  have HNN := Lib.hid (And.intro hn (And.intro hle hli))
  clear hL hv hi hn hle hli
  obtain ⟨w1, hw1⟩ : ∃ w1, w1 = w.alloc (.cells #[.int .i64 n, .slice ae E.length ce, .slice ai I.length ci] 47) := ⟨_, rfl⟩
  have hx1 : w1.heap[w.heap.size]? = some (.cells #[.int .i64 n, .slice ae E.length ce, .slice ai I.length ci] 47 (0, 0)) := by rw [hw1]; exact heap_alloc_new w _
  have hb1 : Below w.heap.size w w1 := by rw [hw1]; exact (Below.refl _ _).alloc (Nat.le_refl _) _
  obtain ⟨s, hs⟩ : ∃ s, s = w.heap.size := ⟨_, rfl⟩
  rw [← hs] at hx1
  have HS := Lib.hid (Array.getElem?_eq_some_iff.1 hx1).1
  obtain ⟨a0, a1, a2⟩ := cells3 hx1
  have HB1 := Lib.hid hb1
  have HCK := Lib.hid (Gr.check_any n (HV.out.below hb1) (HI.out.below hb1))
  clear hb1 hx1
  go_enter Tryz.func15, Tryz.ntmps15
  go_upto_region 1 with fail
  rw [← hw1, ← hs]
  clear hw1 hs
  go_wp2_with fail
  go_at_call 42
  refine HCK.out.mono ?_
  rintro e w2 ⟨ev, rfl, herr, hb2⟩
  have HB12 := Lib.hid hb2
  have HB2 := Lib.hid (HB1.out.trans (hb2.mono HB1.out.size))
  replace a0 := Kc hb2 HS.out a0
  replace a1 := Kc hb2 HS.out a1
  replace a2 := Kc hb2 HS.out a2
  have HS2 := Lib.hid (Nat.lt_of_lt_of_le HS.out hb2.size)
  clear hb2
  rcases herr with ⟨h0, _, rfl⟩ | ⟨h0, _, u, x, rfl⟩
  · have hok : okG ⟨n, E, I⟩ = true := by rw [HOK.out]; exact decide_eq_true h0
    have hlim := HLM.out hok
    have HR := Lib.hid (show graphL okG ⟨n, E, I⟩ = joinV [32] [Lib.itoa n, edsL E, insL I] by rw [HGL.out, if_pos hok]; exact (graph_join ⟨n, E, I⟩ hlim.i0).symm)
    have HED := Lib.hid (edsL_len HV.out.wf)
    have HIN := Lib.hid (insL_len (I := I) (by obtain ⟨_, _, _, _, _, h, _⟩ := HI.out; exact h))
    clear h0 hok hlim
    go_upto_region 3 with fail
    refine wp_region_held_drew (S := fun w' => w'.cell? ⟨s, 0, none⟩ = some (.int .i64 n) ∧ w'.cell? ⟨s, 1, none⟩ = some (.slice ae E.length ce) ∧ w'.cell? ⟨s, 2, none⟩ = some (.slice ai I.length ci)) (by kernel_rfl) ?_ (fun hHeld => ?_)
    · ((try dsimp only); exact ⟨a0, a1, a2⟩)
    have HB0 := Lib.hid (show Below w2.heap.size w2 w2.drew from below_drewN (Below.refl _ _) 1)
    refine Qt 0 (fun _ => ?_)
    refine Qt 1 (fun _ => ?_)
    refine Qt 3 (fun _ => ?_)
    refine Qt 4 (fun _ => ?_)
    refine Qt 6 (fun _ => ?_)
    refine Qt 7 (fun _ => ?_)
    refine Qr 2 fun K hK => ?_
    go_simp
    go_at_call 43
    refine (itoaV_any n HNN.out.1.1 HNN.out.1.2 _ (HL.out.below (HB2.out.trans (HB0.out.mono HB2.out.size))).st.tab).mono ?_
    rintro e w7 ⟨rfl, hb⟩
    have HBw7 := Lib.hid (HB0.out.trans (hb.mono HB0.out.size))
    try go_wp2_with fail
    refine hK.out _ _ ?_ (fun hHeld => ?_)
    · ((try dsimp only); exact ⟨Kc HBw7.out HS2.out a0, Kc HBw7.out HS2.out a1, Kc HBw7.out HS2.out a2⟩)
    clear hK K
    try simp only [Act.put, Qa, Qb, Qc, Qd, Qe, Qf]
    refine Qr 5 fun K hK => ?_
    go_simp
    go_at_call 44
    refine (edgesT_any (HV.out.below (HB2.out.trans (HBw7.out.mono HB2.out.size))) HNN.out.2.1 (HL.out.below (HB2.out.trans (HBw7.out.mono HB2.out.size)))).mono ?_
    rintro e w8 ⟨rfl, hb⟩
    have HBw8 := Lib.hid (HBw7.out.trans (hb.mono HBw7.out.size))
    try go_wp2_with fail
    refine hK.out _ _ ?_ (fun hHeld => ?_)
    · ((try dsimp only); exact ⟨Kc HBw8.out HS2.out a0, Kc HBw8.out HS2.out a1, Kc HBw8.out HS2.out a2⟩)
    clear hK K
    try simp only [Act.put, Qa, Qb, Qc, Qd, Qe, Qf]
    refine Qr 8 fun K hK => ?_
    go_simp
    go_at_call 45
    refine (insT_any (HI.out.below (HB2.out.trans (HBw8.out.mono HB2.out.size))) HNN.out.2.2 (HL.out.below (HB2.out.trans (HBw8.out.mono HB2.out.size)))).mono ?_
    rintro e w9 ⟨rfl, hb⟩
    have HBw9 := Lib.hid (HBw8.out.trans (hb.mono HBw8.out.size))
    try go_wp2_with fail
    refine hK.out _ _ ?_ (fun hHeld => ?_)
    · ((try dsimp only); exact ⟨Kc HBw9.out HS2.out a0, Kc HBw9.out HS2.out a1, Kc HBw9.out HS2.out a2⟩)
    clear hK K
    try simp only [Act.put, Qa, Qb, Qc, Qd, Qe, Qf]
    refine Qr 9 fun K hK => ?_
    go_simp
    have HBwa := Lib.hid (HBw9.out.alloc HBw9.out.size (.cells #[.string (bs (Lib.itoa n)), .string (bs (edsL E)), .string (bs (insL I))] 9))
    refine hK.out _ _ ?_ (fun hHeld => ?_)
    · ((try dsimp only); exact ⟨Kc HBwa.out HS2.out a0, Kc HBwa.out HS2.out a1, Kc HBwa.out HS2.out a2⟩)
    clear hK K
    try simp only [Act.put, Qa, Qb, Qc, Qd, Qe, Qf]
    refine Qr 10 fun K hK => ?_
    go_simp
    go_at_call 30
    refine (join_any [32] (rd_three w9 (Lib.itoa n) (edsL E) (insL I)) (by simp) (by have hq := HNN.out; have := join_bound (sep := [32]) (M := 100000) [Lib.itoa n, edsL E, insL I] (by intro y hy; simp at hy; rcases hy with rfl | rfl | rfl; exact Nat.le_trans (itoa_len hq.1.1 hq.1.2) (by decide); (have := HED.out; omega); (have := HIN.out; omega)) (by simp); simp at this; omega)).mono ?_
    rintro e wb ⟨rfl, hb⟩
    have HBwb := Lib.hid (HBwa.out.trans (hb.mono HBwa.out.size))
    try go_wp2_with fail
    refine hK.out _ _ ?_ (fun hHeld => ?_)
    · ((try dsimp only); exact ⟨Kc HBwb.out HS2.out a0, Kc HBwb.out HS2.out a1, Kc HBwb.out HS2.out a2⟩)
    clear hK K
    try simp only [Act.put, Qa, Qb, Qc, Qd, Qe, Qf]
    refine Qt 11 (fun _ => ?_)
    refine wpAnyH_done (by kernel_rfl) ?_ _
    clear a0 a1 a2
    go_wp2_with fail
    go_ret
    exact ⟨by rw [HR.out]; rfl, HB2.out.trans (HBwb.out.mono HB2.out.size)⟩
  · have hok : ¬ okG ⟨n, E, I⟩ = true := by rw [HOK.out, decide_eq_true_eq]; exact h0
    have HR := Lib.hid (show graphL okG ⟨n, E, I⟩ = [] by rw [HGL.out, if_neg hok])
    clear h0 hok
    go_wp2_with fail
    go_ret
    exact ⟨by rw [HR.out]; rfl, HB2.out⟩
end Go.Proofs.YtdbaacalfbbdiaaGreatDoor.Sc
