/-
  marchlandref18: unchanges. (gen/scun.py)
-/
import Derived.Test.YtdbaacalfbbdiaaGreatDoorJoined9
import Derived.Test.YtdbaacalfbbdiaaGreatDoorJoined12
namespace Go.Proofs.YtdbaacalfbbdiaaGreatDoor.Sc
open Go.RowKit
set_option linter.unusedVariables false
set_option linter.unusedSimpArgs false
def un1 (q : Bs) : Option Batch.Ch := match splR 47 q with
  | [a, b, c] => (parL b).map fun (t : Nat) => ⟨intR a, t, intR c⟩
  | _ => none
theorem unL_cons (q : Bs) (r : List Bs) : unL (q :: r) = match un1 q with | some x => (unL r).map (x :: ·) | none => none := by
  conv => lhs; unfold unL
  unfold un1
  generalize splR 47 q = Y
  rcases Y with _ | ⟨a, _ | ⟨b, _ | ⟨c, _ | ⟨d, r'⟩⟩⟩⟩
  · rfl
  · rfl
  · rfl
  · cases h : parL b <;> simp [h]
  · rfl
theorem slice_inj {g o n c g' o' n' c' : Nat} (h : Value.slice (some ⟨g, o, none⟩) n c = .slice (some ⟨g', o', none⟩) n' c') : g = g' ∧ o = o' ∧ c = c' := by
  simp only [Value.slice.injEq, Option.some.injEq, Addr.mk.injEq] at h
  exact ⟨h.1.1, h.1.2.1, h.2.2⟩
theorem unL_none : ∀ {X : List Bs} {i : Nat} {q : Bs}, X[i]? = some q → un1 q = none → unL X = none
  | [], i, q, h, _ => by simp at h
  | y :: r, 0, q, h, h1 => by
    simp at h
    subst h
    rw [unL_cons, h1]
  | y :: r, i + 1, q, h, h1 => by
    rw [unL_cons, unL_none (X := r) (i := i) (by simpa using h) h1]
    cases un1 y <;> rfl
theorem unL_snoc : ∀ {X : List Bs} {l : List Batch.Ch} {q : Bs} {x : Batch.Ch}, unL X = some l → un1 q = some x → unL (X ++ [q]) = some (l ++ [x])
  | [], l, q, x, h, h1 => by
    cases h
    rw [List.nil_append, unL_cons, h1]
    rfl
  | y :: r, l, q, x, h, h1 => by
    rw [unL_cons] at h
    rw [List.cons_append, unL_cons]
    cases hy : un1 y with
    | none => rw [hy] at h; cases h
    | some z =>
      rw [hy] at h
      obtain ⟨l', h2, rfl⟩ := Option.map_eq_some_iff.1 h
      rw [unL_snoc h2 h1]
      rfl
theorem wrapI_range (x : Nat) (h : x ≤ 18446744073709551615) : -9223372036854775808 ≤ wrapI x ∧ wrapI x ≤ 9223372036854775807 := by
  unfold wrapI
  split <;> omega
theorem intR_bd (l : Bs) : -9223372036854775808 ≤ intR l ∧ intR l ≤ 9223372036854775807 := by
  unfold intR
  split
  · rename_i x h
    have h1 := wrapI_bd (mag_small h).2
    unfold sgnR
    split <;> omega
  · omega
theorem un1_wf {q : Bs} {x : Batch.Ch} (h : un1 q = some x) : x.Wf := by
  unfold un1 at h
  split at h
  · rename_i a b c e
    obtain ⟨t, ht, rfl⟩ := Option.map_eq_some_iff.1 h
    have h1 := intR_bd a
    have h2 := intR_bd c
    have h3 := parL_U ht
    exact ⟨h1.1, h1.2, h3.1, h3.2, h2.1, h2.2⟩
  · cases h
theorem unL_wf : ∀ {X : List Bs} {l : List Batch.Ch}, unL X = some l → ∀ x ∈ l, x.Wf
  | [], l, h => by cases h; simp
  | y :: r, l, h => by
    rw [unL_cons] at h
    cases hy : un1 y with
    | none => rw [hy] at h; cases h
    | some z =>
      rw [hy] at h
      obtain ⟨l', h2, rfl⟩ := Option.map_eq_some_iff.1 h
      intro x hx
      rcases List.mem_cons.1 hx with rfl | hx
      · exact un1_wf hy
      · exact unL_wf h2 x hx
theorem unL_length : ∀ {X : List Bs} {l : List Batch.Ch}, unL X = some l → l.length = X.length
  | [], l, h => by cases h; rfl
  | y :: r, l, h => by
    rw [unL_cons] at h
    cases hy : un1 y with
    | none => rw [hy] at h; cases h
    | some z =>
      rw [hy] at h
      obtain ⟨l', h2, rfl⟩ := Option.map_eq_some_iff.1 h
      rw [List.length_cons, List.length_cons, unL_length h2]
theorem splR_len (c : UInt8) : ∀ s : Bs, ∀ x ∈ splR c s, x.length ≤ s.length
  | [], x, h => by simp [splR] at h; subst h; simp
  | b :: r, x, h => by
    have ih := splR_len c r
    unfold splR at h
    split at h
    · rcases List.mem_cons.1 h with rfl | h
      · simp
      · have := ih x h; simp; omega
    · obtain ⟨y, l, e⟩ := List.exists_cons_of_ne_nil (splR_ne c r)
      rw [e] at h ih
      simp [glue] at h
      rcases h with rfl | h
      · have := ih y (by simp); simp; omega
      · have := ih x (by simp [h]); simp; omega
theorem infoRc : (Tryz.prog.info? 117).map (fun i => (i.zero, i.size, i.bytes)) = some (some (.agg #[.int .i64 0, .int .u64 0, .int .i64 0]), 3, 24) := by kernel_rfl
def UnP (w : World) (o : Option (List Batch.Ch)) (e : Ending) (w' : World) : Prop := ∃ v, e = .returned (.tuple #[v, .bool o.isSome]) ∧ Batch.Own w' w.heap.size 117 v (o.getD []) ∧ Below w.heap.size w w'
set_option maxRecDepth 1000000 in
set_option maxHeartbeats 16000000 in
theorem unch_any (q : Bs) (hs : q.length ≤ 10000) (w : World) :
    Calls Tryz.prog 28 #[.string (bs q)] w (UnP w (unL (splR 44 q))) := by
  obtain ⟨i0, hi, hy0, hy1, hy2⟩ := Gr.info_parts infoRc
  have HSP := Lib.hid (split_any q 44 hs w)
  have hXL := splR_len 44 q
  have hXC := splR_count 44 q
  have hXN := splR_ne 44 q
  generalize splR 44 q = X at *
  have HXL := Lib.hid (fun x hx => Nat.le_trans (hXL x hx) hs)
  have HXC := Lib.hid (show X.length ≤ 10001 by omega)
  have HXN := Lib.hid hXN
  generalize hO : unL X = O at *
  have HO := Lib.hid hO
  clear hXL hXC hXN hs hO
  go_enter Tryz.func28, Tryz.ntmps28
  go_wp2_with fail
  go_at_call 25
  refine HSP.out.mono ?_
  rintro e w2 ⟨v, rfl, hown, hb⟩
  obtain ⟨hrd, g, c, rfl, hg⟩ := hown.rd HXN.out
  have HB2 := Lib.hid hb
  have HRD := Lib.hid hrd
  obtain ⟨N, hN⟩ : ∃ N, N = X.length := ⟨_, rfl⟩
  rw [← hN]
  have HN := Lib.hid hN
  have HNC := Lib.hid (show N ≤ 10001 by rw [hN]; exact HXC.out)
  clear hown hg hb hrd HSP hN
  go_wp2_with fail
  go_loopg [4, 6] (N + 1) (fun k o t wr => ∃ (L : List Batch.Ch) (i : Nat), i + k = N + 1 ∧ i ≤ N ∧ t = .int .i64 i ∧ unL (X.take i) = some L ∧ Batch.Own wr w2.heap.size 117 o L ∧ Below w2.heap.size w2 wr)
  case atStart => exact ⟨[], 0, by omega, by omega, rfl, rfl, Batch.Own.nil _ _ _, Below.refl _ _⟩
  case round =>
    obtain ⟨L, i, hik, hil, rfl, hun, hown, hbw⟩ := hrel
    have HIK := Lib.hid hik
    have HOW := Lib.hid hown
    have HBW := Lib.hid hbw
    have HUN := Lib.hid hun
    have hi0 : (0 : Int) ≤ (i : Int) := Int.natCast_nonneg _
    clear hik hown hbw hun
    by_cases hlt : i < N
    · have hi1 : (i : Int) < (N : Int) := by omega
      obtain ⟨p, hp⟩ : ∃ p, X[i]? = some p := ⟨_, List.getElem?_eq_getElem (by rw [← HN.out]; exact hlt)⟩
      have HPX := Lib.hid hp
      have hpl := HXL.out p (List.mem_of_getElem? hp)
      have HPL := Lib.hid hpl
      obtain ⟨g9, o9, c9, e9, _, hg9, hcs⟩ := HRD.out.below HBW.out
      rw [← HN.out] at e9
      obtain ⟨rfl, rfl, rfl⟩ := slice_inj e9
      clear e9
      have cq := hcs i p hp
      rw [Nat.zero_add] at cq
      have HS4 := Lib.hid (fun w' => split_any p 47 hpl w')
      have hYN := splR_ne 47 p
      have hYL := splR_len 47 p
      have hYC := splR_count 47 p
      have HU1 := Lib.hid (show un1 p = match splR 47 p with | [a, b, c] => (parL b).map fun (t : Nat) => (⟨intR a, t, intR c⟩ : Batch.Ch) | _ => none from rfl)
      generalize splR 47 p = Y at *
      have HYN := Lib.hid hYN
      have HYL := Lib.hid (fun x hx => Nat.le_trans (hYL x hx) hpl)
      have HYC := Lib.hid (show Y.length ≤ 10001 by omega)
      clear hp hpl hg9 hcs hYN hYL hYC
      go_wp2_with fail
      go_at_call 25
      refine (HS4.out _).mono ?_
      rintro e w3 ⟨vy, rfl, hownY, hb⟩
      obtain ⟨hrdY, gy, cy, rfl, hgy⟩ := hownY.rd HYN.out
      have HB3 := Lib.hid hb
      have HGW := Lib.hid (show wr.heap.size ≤ gy from hgy)
      have HRY := Lib.hid hrdY
      clear hownY hgy hb hrdY cq
      by_cases h3 : Y.length = 3
      · obtain ⟨a, b, c, rfl⟩ : ∃ a b c, Y = [a, b, c] := by
          match Y, h3 with
          | [a, b, c], _ => exact ⟨a, b, c, rfl⟩
        have HUE := Lib.hid (show un1 p = (parL b).map fun (t : Nat) => (⟨intR a, t, intR c⟩ : Batch.Ch) from HU1.out)
        obtain ⟨g8, o8, c8, e8, _, hg8, hcy⟩ := id HRY.out
        obtain ⟨rfl, rfl, rfl⟩ := slice_inj e8
        clear e8
        have ka := hcy 0 a rfl
        have kb := hcy 1 b rfl
        have kc := hcy 2 c rfl
        simp only [Nat.zero_add, Nat.add_zero] at ka kb kc
        have HGY := Lib.hid hg8
        have HLA := Lib.hid (show a.length ≤ 10000 ∧ b.length ≤ 10000 ∧ c.length ≤ 10000 from ⟨HYL.out a (by simp), HYL.out b (by simp), HYL.out c (by simp)⟩)
        have HTB := Lib.hid (fun w' => scTime_any b (by have := HLA.out; omega) w')
        have HOT := Lib.hid (show okL b = (parL b).isSome from rfl)
        have HTV := Lib.hid (show timeV b = ((parL b).getD 0 : Nat) from rfl)
        clear h3 hg8 hcy HU1
        cases hpb : parL b with
        | none =>
          have HNO := Lib.hid (show O = none by rw [← HO.out]; exact unL_none HPX.out (by rw [HUE.out, hpb]; rfl))
          rw [hpb] at HOT
          have HOF := Lib.hid (show okL b = false from HOT.out)
          clear hpb HOT HTV
          go_wp2_with fail
          go_at_call 27
          refine (HTB.out _).mono ?_
          rintro e w4 ⟨rfl, hb⟩
          rw [HOF.out]
          have HB4 := Lib.hid (HB2.out.trans ((HBW.out.trans (HB3.out.mono HBW.out.size)).trans (hb.mono (by have h1 := HBW.out.size; have h2 := HB3.out.size; omega)) |>.mono HB2.out.size))
          go_wp2_with fail
          go_ret2
          have e := HNO.out
          subst e
          exact ⟨_, rfl, Batch.Own.nil _ _ _, HB4.out⟩
        | some t =>
          have HXX := Lib.hid (show un1 p = some ⟨intR a, (t : Int), intR c⟩ by rw [HUE.out, hpb]; rfl)
          rw [hpb] at HOT HTV
          have HOF := Lib.hid (show okL b = true from HOT.out)
          have HTT := Lib.hid (show timeV b = (t : Int) from HTV.out)
          have HTU := Lib.hid (parL_U hpb)
          clear hpb HOT HTV
          go_wp2_with fail
          go_at_call 27
          refine (HTB.out _).mono ?_
          rintro e w4 ⟨rfl, hb⟩
          rw [HOF.out, HTT.out]
          have HB34 := Lib.hid hb
          have HB4 := Lib.hid (HBW.out.trans ((HB3.out.trans (hb.mono HB3.out.size)).mono HBW.out.size))
          have HG4 := Lib.hid (Nat.lt_of_lt_of_le HGY.out hb.size)
          replace ka := Kc hb HGY.out ka
          replace kc := Kc hb HGY.out kc
          have HO4 := Lib.hid (HOW.out.below (HB3.out.trans (hb.mono HB3.out.size)))
          have HLN := Lib.hid (show L.length ≤ 10001 by have h1 := unL_length HUN.out; rw [List.length_take] at h1; have := HXC.out; omega)
          clear hb kb
          go_upto_region 12 with fail
          refine wp_region_held_drew (S := fun w' => w'.cell? ⟨gy, 0, none⟩ = some (.string (bs a)) ∧ w'.cell? ⟨gy, 2, none⟩ = some (.string (bs c))) (by kernel_rfl) ?_ (fun hHeld => ?_)
          · ((try dsimp only); exact ⟨ka, kc⟩)
          have HB0 := Lib.hid (show Below w4.heap.size w4 w4.drew from below_drewN (Below.refl _ _) 1)
          refine Qt 0 (fun _ => ?_)
          refine Qt 1 (fun _ => ?_)
          refine Qt 2 (fun _ => ?_)
          refine Qt 3 (fun _ => ?_)
          refine Qt 5 (fun _ => ?_)
          refine Qt 6 (fun _ => ?_)
          refine Qt 7 (fun _ => ?_)
          refine Qt 8 (fun _ => ?_)
          refine Qr 4 fun K hK => ?_
          go_simp
          go_at_call 26
          refine (int_any a (by have := HLA.out; omega) _).mono ?_
          rintro e w5 ⟨rfl, hb⟩
          have HBw5 := Lib.hid (HB0.out.trans (hb.mono HB0.out.size))
          try go_wp2_with fail
          refine hK.out _ _ ?_ (fun hHeld => ?_)
          · ((try dsimp only); exact ⟨Kc HBw5.out HG4.out ka, Kc HBw5.out HG4.out kc⟩)
          clear hK K
          try simp only [Act.put, Qa, Qb, Qc, Qd, Qe, Qf]
          refine Qr 9 fun K hK => ?_
          go_simp
          go_at_call 26
          refine (int_any c (by have := HLA.out; omega) _).mono ?_
          rintro e w6 ⟨rfl, hb⟩
          have HBw6 := Lib.hid (HBw5.out.trans (hb.mono HBw5.out.size))
          try go_wp2_with fail
          refine hK.out _ _ ?_ (fun hHeld => ?_)
          · ((try dsimp only); exact ⟨Kc HBw6.out HG4.out ka, Kc HBw6.out HG4.out kc⟩)
          clear hK K
          try simp only [Act.put, Qa, Qb, Qc, Qd, Qe, Qf]
          refine Qt 10 (fun _ => ?_)
          refine Qr 11 fun K hK => ?_
          go_simp
          have HBw7 := Lib.hid (HBw6.out.alloc HBw6.out.size (.cells #[.int .i64 (intR a), .int .u64 (t : Int), .int .i64 (intR c)] 117))
          refine hK.out _ _ ?_ (fun hHeld => ?_)
          · ((try dsimp only); exact ⟨Kc HBw7.out HG4.out ka, Kc HBw7.out HG4.out kc⟩)
          clear hK K
          try simp only [Act.put, Qa, Qb, Qc, Qd, Qe, Qf]
          refine Qr 12 fun K hK => ?_
          have HO7 := Lib.hid (HO4.out.below HBw7.out)
          have HBB := Lib.hid (show w2.heap.size ≤ w4.heap.size from HB4.out.size)
          refine app1 _ (by rfl) _ _ 23 (by rfl) w2.heap.size 117 i0 _ 3 24 Tryz.underlying23 hi hy0 hy1 hy2 (by kernel_rfl) (by decide) _ L.length (Batch.cellsL L) (by rfl) HO7.out w6.heap.size [.int .i64 (intR a), .int .u64 (t : Int), .int .i64 (intR c)] 117 (by rfl) (heap_alloc_new w6 _) rfl (by intro u hu; simp at hu; rcases hu with rfl | rfl | rfl <;> rfl) (by have := HLN.out; unfold maxLen; omega) (by have := HLN.out; omega) (Nat.le_trans HBB.out HBw7.out.size) ?_
          intro v8 w8 hA hbA hkp
          have hgk := hkp gy (Nat.lt_of_lt_of_le HG4.out HBw7.out.size) (fun e => by have h1 := (HOW.out.lt gy e).2; have h2 := HGW.out; omega)
          have HGK := Lib.hid hgk
          clear hgk hkp
          have HA := Lib.hid hA
          have HBA := Lib.hid (HB4.out.trans ((HBw7.out.mono HBB.out).trans hbA))
          have HBA0 := Lib.hid hbA
          clear hA hbA
          refine hK.out _ _ ?_ (fun hHeld => ?_)
          · ((try dsimp only); exact ⟨(World.cell?_of_block (w := _) HGK.out).trans (Kc HBw7.out HG4.out ka), (World.cell?_of_block (w := _) HGK.out).trans (Kc HBw7.out HG4.out kc)⟩)
          clear hK K
          try simp only [Act.put, Qa, Qb, Qc, Qd, Qe, Qf]
          refine Qt 13 (fun _ => ?_)
          refine wpAnyH_done (by kernel_rfl) ?_ _
          have hNC := HNC.out
          have HOO := Lib.hid (show Batch.Own w8 w2.heap.size 117 v8 (L ++ [⟨intR a, (t : Int), intR c⟩]) by
            unfold Batch.Own
            rw [Batch.cellsL_snoc, List.length_append]
            exact HA.out)
          have HUS := Lib.hid (show unL (X.take (i + 1)) = some (L ++ [⟨intR a, (t : Int), intR c⟩]) by
            rw [List.take_add_one, HPX.out]
            exact unL_snoc HUN.out HXX.out)
          clear ka kc
          go_wp2_with fail
          go_roundg (N - i)
          case measure => have := HIK.out; omega
          case rel => exact ⟨_, i + 1, by have := HIK.out; omega, by omega, by go_num, HUS.out, HOO.out, HBA.out⟩
      · have HNO := Lib.hid (show O = none by
          rw [← HO.out]
          refine unL_none HPX.out ?_
          rw [HU1.out]
          rcases Y with _ | ⟨a, _ | ⟨b, _ | ⟨c, _ | ⟨d, r'⟩⟩⟩⟩
          · rfl
          · rfl
          · rfl
          · exact absurd rfl h3
          · rfl)
        have h3' : ((Y.length : Int) == 3) = false := by rw [beq_eq_false_iff_ne]; omega
        have HB4 := Lib.hid (HB2.out.trans ((HBW.out.trans (HB3.out.mono HBW.out.size)).mono HB2.out.size))
        clear h3 HU1
        generalize Y.length = ny at *
        go_wp2_with fail
        go_ret2
        have e := HNO.out
        subst e
        exact ⟨_, rfl, Batch.Own.nil _ _ _, HB4.out⟩
    · have hin : i = N := by omega
      have HFI := Lib.hid (show O = some L by
        rw [← HO.out, ← HUN.out, hin, HN.out, List.take_length])
      subst hin
      go_wp2_with fail
      go_ret2
      have e := HFI.out
      subst e
      exact ⟨_, rfl, HOW.out.mono HB2.out.size, HB2.out.trans (HBW.out.mono HB2.out.size)⟩
end Go.Proofs.YtdbaacalfbbdiaaGreatDoor.Sc
