/-
  marchlandref18: ParseGraph. (gen/scrgparse.py)
-/
import Derived.Test.YtdbaacalfbbdiaaGreatDoorScRGText
import Derived.Test.YtdbaacalfbbdiaaGreatDoorScGParse
namespace Go.Proofs.YtdbaacalfbbdiaaGreatDoor.Sc
open Go.RowKit
set_option linter.unusedVariables false
set_option linter.unusedSimpArgs false
def un1E (q : Bs) : Option Gr.Ed := match splR 47 q with
  | [a, b, c] => (parL c).map fun (t : Nat) => ⟨intR a, intR b, t⟩
  | _ => none
theorem unE_cons (q : Bs) (r : List Bs) : unE (q :: r) = match un1E q with | some x => (unE r).map (x :: ·) | none => none := by
  conv => lhs; unfold unE
  unfold un1E
  generalize splR 47 q = Y
  rcases Y with _ | ⟨a, _ | ⟨b, _ | ⟨c, _ | ⟨d, r'⟩⟩⟩⟩
  · rfl
  · rfl
  · rfl
  · cases h : parL c <;> simp [h]
  · rfl
theorem unE_none : ∀ {X : List Bs} {i : Nat} {q : Bs}, X[i]? = some q → un1E q = none → unE X = none
  | [], i, q, h, _ => by simp at h
  | y :: r, 0, q, h, h1 => by
    simp at h
    subst h
    rw [unE_cons, h1]
  | y :: r, i + 1, q, h, h1 => by
    rw [unE_cons, unE_none (X := r) (i := i) (by simpa using h) h1]
    cases un1E y <;> rfl
theorem unE_snoc : ∀ {X : List Bs} {l : List Gr.Ed} {q : Bs} {x : Gr.Ed}, unE X = some l → un1E q = some x → unE (X ++ [q]) = some (l ++ [x])
  | [], l, q, x, h, h1 => by
    cases h
    rw [List.nil_append, unE_cons, h1]
    rfl
  | y :: r, l, q, x, h, h1 => by
    rw [unE_cons] at h
    rw [List.cons_append, unE_cons]
    cases hy : un1E y with
    | none => rw [hy] at h; cases h
    | some z =>
      rw [hy] at h
      obtain ⟨l', h2, rfl⟩ := Option.map_eq_some_iff.1 h
      rw [unE_snoc h2 h1]
      rfl
theorem un1E_wf {q : Bs} {x : Gr.Ed} (h : un1E q = some x) : x.Wf := by
  unfold un1E at h
  split at h
  · rename_i a b c e
    obtain ⟨t, ht, rfl⟩ := Option.map_eq_some_iff.1 h
    have h1 := intR_bd a
    have h2 := intR_bd b
    have h3 := parL_U ht
    exact ⟨h1.1, h1.2, h2.1, h2.2, h3.1, h3.2⟩
  · cases h
theorem unE_wf : ∀ {X : List Bs} {l : List Gr.Ed}, unE X = some l → ∀ x ∈ l, x.Wf
  | [], l, h => by cases h; simp
  | y :: r, l, h => by
    rw [unE_cons] at h
    cases hy : un1E y with
    | none => rw [hy] at h; cases h
    | some z =>
      rw [hy] at h
      obtain ⟨l', h2, rfl⟩ := Option.map_eq_some_iff.1 h
      intro x hx
      rcases List.mem_cons.1 hx with rfl | hx
      · exact un1E_wf hy
      · exact unE_wf h2 x hx
theorem unE_length : ∀ {X : List Bs} {l : List Gr.Ed}, unE X = some l → l.length = X.length
  | [], l, h => by cases h; rfl
  | y :: r, l, h => by
    rw [unE_cons] at h
    cases hy : un1E y with
    | none => rw [hy] at h; cases h
    | some z =>
      rw [hy] at h
      obtain ⟨l', h2, rfl⟩ := Option.map_eq_some_iff.1 h
      rw [List.length_cons, List.length_cons, unE_length h2]
theorem infoREd : (Tryz.prog.info? 96).map (fun i => (i.zero, i.size, i.bytes)) = some (some (.agg #[.int .i64 0, .int .i64 0, .int .u64 0]), 3, 24) := by kernel_rfl
set_option maxRecDepth 1000000 in
set_option maxHeartbeats 32000000 in
theorem refParseG_any (s : Bs) (hs : s.length ≤ 600) (w : World) :
    Calls Tryz.prog 14 #[.string (bs s)] w (PgP w (parseGR okG s)) := by
  obtain ⟨i0, hi, hy0, hy1, hy2⟩ := Gr.info_parts infoREd
  obtain ⟨j0, hj, hu0, hu1, hu2⟩ := Gr.info_parts Gr.infoInt
  have HSP := Lib.hid (fun w' => split_any s 32 (by omega) w')
  have hXL := splR_len 32 s
  have hXN := splR_ne 32 s
  have HGE := Lib.hid (show guessGR s = match splR 32 s with | [a, b, c] => (if b = [45] then some [] else unE (splR 44 b)).map (fun E => (⟨intR a, E, (splR 44 c).map intR⟩ : Gm)) | _ => none from rfl)
  have HPR := Lib.hid (show parseGR okG s = match guessGR s with | some g => if s ≠ [] ∧ graphL okG g = s then some g else none | none => none from rfl)
  generalize splR 32 s = X at *
  generalize guessGR s = GG at *
  generalize parseGR okG s = O at *
  have HXL := Lib.hid (fun x hx => Nat.le_trans (hXL x hx) hs)
  have HXN := Lib.hid hXN
  clear hXL hXN hs
  obtain ⟨w1, hw1⟩ : ∃ w1, w1 = w.alloc (.cells #[.int .i64 0, .slice none 0 0, .slice none 0 0] 44) := ⟨_, rfl⟩
  have HZ1 := Lib.hid (show w1.heap[w.heap.size]? = some (.cells #[.int .i64 0, .slice none 0 0, .slice none 0 0] 44 (0, 0)) by rw [hw1]; exact heap_alloc_new w _)
  have HB1 := Lib.hid (show Below w.heap.size w w1 by rw [hw1]; exact (Below.refl _ _).alloc (Nat.le_refl _) _)
  obtain ⟨z, hz⟩ : ∃ z, z = w.heap.size := ⟨_, rfl⟩
  rw [← hz] at HZ1
  have HZZ := Lib.hid hz
  go_enter Tryz.func14, Tryz.ntmps14
  go_upto_region 1 with fail
  rw [← hw1, ← hz]
  clear hw1 hz
  go_wp2_with fail
  go_at_call 25
  refine (HSP.out w1).mono ?_
  rintro e w2 ⟨v, rfl, hown, hb⟩
  obtain ⟨hrd, gx, cx, rfl, hgx⟩ := hown.rd HXN.out
  have HB2 := Lib.hid (HB1.out.trans (hb.mono HB1.out.size))
  have HZ2 := Lib.hid ((hb.block z (Array.getElem?_eq_some_iff.1 HZ1.out).1).trans HZ1.out)
  clear hown hb
  by_cases h3 : X.length = 3
  · obtain ⟨a, b, c, rfl⟩ : ∃ a b c, X = [a, b, c] := by
      match X, h3 with
      | [a, b, c], _ => exact ⟨a, b, c, rfl⟩
    have HGM := Lib.hid (show GG = (if b = [45] then some [] else unE (splR 44 b)).map (fun E => (⟨intR a, E, (splR 44 c).map intR⟩ : Gm)) from HGE.out)
    obtain ⟨g8, o8, c8, e8, _, hg8, hcy⟩ := hrd
    obtain ⟨rfl, rfl, rfl⟩ := slice_inj e8
    clear e8
    have ka := hcy 0 a rfl
    have kb := hcy 1 b rfl
    have kc := hcy 2 c rfl
    simp only [Nat.zero_add, Nat.add_zero] at ka kb kc
    have HLA := Lib.hid (show a.length ≤ 600 ∧ b.length ≤ 600 ∧ c.length ≤ 600 from ⟨HXL.out a (by simp), HXL.out b (by simp), HXL.out c (by simp)⟩)
    have HNB := Lib.hid (intR_bd a)
    have HNI := Lib.hid (int_any a (by have := HLA.out; omega) w2)
    generalize intR a = n at *
    clear h3 hcy HGE HXL
    go_wp2_with fail
    go_at_call 26
    refine HNI.out.mono ?_
    rintro e w4 ⟨rfl, hb⟩
    have HB4 := Lib.hid (HB2.out.trans (hb.mono HB2.out.size))
    have HZ4 := Lib.hid ((hb.block z (Array.getElem?_eq_some_iff.1 HZ2.out).1).trans HZ2.out)
    replace kb := Kc hb hg8 kb
    replace kc := Kc hb hg8 kc
    have HGX4 := Lib.hid (Nat.lt_of_lt_of_le hg8 hb.size)
    clear hb ka hg8 hgx HNI
    go_upto_region 5 with fail
    obtain ⟨w5, hw5⟩ : ∃ w5, w5 = w4.alloc (.cells #[.int .i64 n, .slice none 0 0, .slice none 0 0] 44) := ⟨_, rfl⟩
    have hc5 : w5.heap[w4.heap.size]? = some (.cells #[.int .i64 n, .slice none 0 0, .slice none 0 0] 44 (0, 0)) := by rw [hw5]; exact heap_alloc_new w4 _
    have hb45 : Below w4.heap.size w4 w5 := by rw [hw5]; exact (Below.refl _ _).alloc (Nat.le_refl _) _
    rw [← hw5]
    have HB5 := Lib.hid (HB4.out.trans (hb45.mono HB4.out.size))
    have HZ5 := Lib.hid ((hb45.block z (Array.getElem?_eq_some_iff.1 HZ4.out).1).trans HZ4.out)
    replace kb := Kc hb45 HGX4.out kb
    replace kc := Kc hb45 HGX4.out kc
    obtain ⟨cb, hcb⟩ : ∃ c, c = w4.heap.size := ⟨_, rfl⟩
    rw [← hcb] at hc5 ⊢
    have HC5 := Lib.hid hc5
    have HZC := Lib.hid (show z < cb ∧ w.heap.size ≤ z ∧ w.heap.size ≤ cb ∧ gx < cb by
      have h1 := (Array.getElem?_eq_some_iff.1 HZ4.out).1
      have h2 := HB4.out.size
      have h3 := HZZ.out
      have h4 := HGX4.out
      omega)
    have HKC := Lib.hid kc
    have HKB := Lib.hid kb
    clear hw5 hb45 hcb hc5 HGX4 kb kc
    by_cases hm : b = [45]
    · have HE0 := Lib.hid (show GG = some ⟨n, [], (splR 44 c).map intR⟩ by rw [HGM.out, if_pos hm]; rfl)
      have eE : ((bs b).toList == [45]) = true := by rw [Lib.toList_data, bs_data, hm]; rfl
      clear hm
      have HRE := Lib.hid (Gr.Own.nil w5 w5.heap.size 96)
      obtain ⟨L, hL⟩ : ∃ L : List Gr.Ed, L = [] := ⟨_, rfl⟩
      have HWE := Lib.hid (show ∀ x ∈ L, x.Wf by rw [hL]; simp)
      have HLE := Lib.hid (show L.length ≤ 1000 by rw [hL]; simp)
      have HE1 := Lib.hid (show GG = some ⟨n, L, (splR 44 c).map intR⟩ by rw [hL]; exact HE0.out)
      obtain ⟨Be, hBe⟩ : ∃ B, B = w5.heap.size := ⟨_, rfl⟩
      rw [← hBe] at HRE
      have HBb := Lib.hid (show w.heap.size ≤ Be ∧ z < Be ∧ cb < Be by rw [hBe]; exact ⟨HB5.out.size, (Array.getElem?_eq_some_iff.1 HZ5.out).1, (Array.getElem?_eq_some_iff.1 HC5.out).1⟩)
      obtain ⟨v, hv⟩ : ∃ v : Value, v = .slice none 0 0 := ⟨_, rfl⟩
      have HOE := Lib.hid (show Gr.Own w5 Be 96 v L by rw [hL, hv]; exact HRE.out)
      have HC5v := Lib.hid (show w5.heap[cb]? = some (.cells #[.int .i64 n, v, .slice none 0 0] 44 (0, 0)) by rw [hv]; exact HC5.out)
      clear HC5
      have HC5 := HC5v
      have kb := HKB.out
      clear HC5v hBe HRE hv hL HE0
      obtain ⟨va, vk, rfl⟩ := row_form HOE.out
      generalize hne : L.length = ne at *
      have HNL := Lib.hid hne
      obtain ⟨c0, c1, c2⟩ := cells3 HC5.out
      have kc := HKC.out
      have HSi := Lib.hid (fun w' => split_any c 44 (by have := HLA.out; omega) w')
      have hXL := splR_len 44 c
      have hXC := splR_count 44 c
      have hXN := splR_ne 44 c
      generalize splR 44 c = Xi at *
      have HXLi := Lib.hid (show ∀ x ∈ Xi, x.length ≤ 600 from fun x hx => by have := hXL x hx; have := HLA.out; omega)
      have HXCi := Lib.hid (show Xi.length ≤ 601 by have := HLA.out; omega)
      have HXNi := Lib.hid hXN
      clear hXL hXC hXN
      go_wp2_with fail
      go_at_call 25
      refine (HSi.out _).mono ?_
      rintro e wb6 ⟨vs, rfl, hown, hb⟩
      obtain ⟨hrd, gsi, ksi, rfl, hgs⟩ := hown.rd HXNi.out
      have HBb6 := Lib.hid (HB5.out.trans (hb.mono HB5.out.size))
      have HZb6 := Lib.hid ((hb.block z (Array.getElem?_eq_some_iff.1 HZ5.out).1).trans HZ5.out)
      have HCb6 := Lib.hid ((hb.block cb (Array.getElem?_eq_some_iff.1 HC5.out).1).trans HC5.out)
      have HBSi := Lib.hid hb
      have HNEi := Lib.hid (show gsi ≠ cb from fun e => by subst e; have h1 := (Array.getElem?_eq_some_iff.1 HC5.out).1; have h2 : w5.heap.size ≤ gsi := hgs; omega)
      have HRSi := Lib.hid hrd
      obtain ⟨Ni, hN⟩ : ∃ N, N = Xi.length := ⟨_, rfl⟩
      have HXMi := Lib.hid (show Ni ≤ 601 by rw [hN]; exact HXCi.out)
      rw [← hN]
      have HNi := Lib.hid hN
      obtain ⟨Bi, hBq⟩ : ∃ B, B = wb6.heap.size := ⟨_, rfl⟩
      have HBQi := Lib.hid hBq
      clear c0 c1 c2 kc hne hown hb hrd hgs hN hBq
      have HGSB := Lib.hid (show gsi < wb6.heap.size by obtain ⟨g9, o9, c9, e9, _, h9, _⟩ := HRSi.out; rw [← HNi.out] at e9; obtain ⟨rfl, rfl, rfl⟩ := slice_inj0 e9; exact h9)
      have HOE6 := Lib.hid (World.ownsRow.below0 HOE.out HBSi.out)
      go_wp2_with fail
      go_loopg [12] (Ni + 1) (fun k t wr => ∃ (i : Nat) (v : Value), i + k = Ni + 1 ∧ i ≤ Ni ∧ t = .int .i64 i ∧ Hid (wr.heap[cb]? = some (.cells #[.int .i64 n, .slice va ne vk, v] 44 (0, 0))) ∧ Gr.OwnI wr Bi 3 v ((Xi.take i).map intR) ∧ Ex cb wb6 wr ∧ Below w.heap.size w wr)
      case atStart => exact ⟨0, .slice none 0 0, by omega, by omega, rfl, HCb6, World.ownsRow_nil _ _ _ _, Ex.refl _ _, HBb6.out⟩
      case round =>
        obtain ⟨i, v, hik, hil, rfl, HCI, hown, hex, hbw⟩ := hrel
        have HIK := Lib.hid hik
        have HOW := Lib.hid hown
        have HEX := Lib.hid hex
        have HBR := Lib.hid hbw
        have hi0 : (0 : Int) ≤ (i : Int) := Int.natCast_nonneg _
        clear hik hown hex hbw
        by_cases hlt : i < Ni
        · have hi1 : (i : Int) < (Ni : Int) := by omega
          obtain ⟨q, hq⟩ : ∃ q, Xi[i]? = some q := ⟨_, List.getElem?_eq_getElem (by rw [← HNi.out]; exact hlt)⟩
          have HQ := Lib.hid hq
          have HQL := Lib.hid (HXLi.out q (List.mem_of_getElem? hq))
          obtain ⟨gs2, os2, ks2, e9, _, hg9, hcs⟩ := HEX.out.rd HRSi.out HNEi.out
          rw [← HNi.out] at e9
          obtain ⟨rfl, rfl, rfl⟩ := slice_inj0 e9
          have cq := hcs i q hq
          rw [Nat.zero_add] at cq
          clear hq hcs e9
          obtain ⟨c0, c1, c2⟩ := cells3 HCI.out
          have HGS := Lib.hid hg9
          have HCL := Lib.hid (Array.getElem?_eq_some_iff.1 HCI.out).1
          go_upto_region 21 with fail
          refine wp_region_held_drew (S := fun w' => w'.cell? ⟨gsi, i, none⟩ = some (.string (bs q))) (by kernel_rfl) ?_ (fun hHeld => ?_)
          · ((try dsimp only); exact cq)
          have HB07 := Lib.hid (show Below wr.heap.size wr wr.drew from below_drewN (Below.refl _ _) 1)
          refine Qt 0 (fun _ => ?_)
          refine Qt 2 (fun _ => ?_)
          refine Qt 3 (fun _ => ?_)
          refine Qt 4 (fun _ => ?_)
          refine Qt 5 (fun _ => ?_)
          refine wpAnyH_ready (rs := [1, 6]) (by kernel_rfl) (by simp) ?_
          refine AllReadyH.cons rfl (fun K hK => ?_) (AllReadyH.cons rfl (fun K hK => ?_) AllReadyH.nil)
          · go_simp
            have ek := Kc HB07.out HCL.out c2
            try go_simp
            refine hK.out _ _ ?_ (fun hHeld => ?_)
            · ((try dsimp only); exact Kc HB07.out HGS.out cq)
            clear hK K
            try simp only [Act.put, Qa, Qb, Qc, Qd, Qe, Qf]
            clear ek
            refine Qr 6 fun K hK => ?_
            go_simp
            go_at_call 26
            refine (int_any q (by have := HQL.out; omega) _).mono ?_
            rintro e wa ⟨rfl, hb⟩
            have HBwa := Lib.hid (HB07.out.trans (hb.mono HB07.out.size))
            clear hb
            try go_wp2_with fail
            refine hK.out _ _ ?_ (fun hHeld => ?_)
            · ((try dsimp only); exact Kc HBwa.out HGS.out cq)
            clear hK K
            try simp only [Act.put, Qa, Qb, Qc, Qd, Qe, Qf]
            refine Qr 7 fun K hK => ?_
            go_simp
            have HBwb := Lib.hid (HBwa.out.alloc HBwa.out.size (.cells #[.int .i64 (intR q)] 3))
            refine hK.out _ _ ?_ (fun hHeld => ?_)
            · ((try dsimp only); exact Kc HBwb.out HGS.out cq)
            clear hK K
            try simp only [Act.put, Qa, Qb, Qc, Qd, Qe, Qf]
            have HOb := Lib.hid (HOW.out.below HBwb.out)
            have HBB := Lib.hid (show Bi ≤ wr.heap.size by rw [HBQi.out]; exact HEX.out.1)
            refine Qr 8 fun K hK => ?_
            refine app1 _ (by rfl) _ _ 42 (by rfl) Bi 3 j0 _ 1 8 Tryz.underlying42 hj hu0 hu1 hu2 (by kernel_rfl) (by decide) v ((Xi.take i).map intR).length (Gr.intsL ((Xi.take i).map intR)) (by rfl) HOb.out wa.heap.size [.int .i64 (intR q)] 3 (by rfl) (heap_alloc_new wa _) rfl (by intro u hu; simp at hu; subst hu; rfl) (by have := HXMi.out; unfold maxLen; simp; omega) (by have := HXMi.out; simp; omega) (Nat.le_trans HBB.out HBwb.out.size) ?_
            intro v2 w10 hA hbA hkp
            have HGK := Lib.hid ((hbA.block gsi (show gsi < Bi by rw [HBQi.out]; exact HGSB.out)).trans (HBwb.out.block gsi HGS.out))
            obtain ⟨ua, uk, rfl⟩ := row_form hA
            generalize hvn : ((Xi.take i).map intR).length + 1 = vn at *
            have HA := Lib.hid hA
            have HVN := Lib.hid hvn
            have HBA := Lib.hid hbA
            clear hA hbA hvn hkp
            have HC10 := Lib.hid ((HBA.out.block cb (show cb < Bi by rw [HBQi.out]; exact (Array.getElem?_eq_some_iff.1 HCb6.out).1)).trans ((HBwb.out.block cb HCL.out).trans HCI.out))
            have HY10 := Lib.hid ((World.cell?_of_block (w := _) HGK.out).trans cq)
            refine hK.out _ _ ?_ (fun hHeld => ?_)
            · ((try dsimp only); exact HY10.out)
            clear hK K
            try simp only [Act.put, Qa, Qb, Qc, Qd, Qe, Qf]
            refine Qt 9 (fun _ => ?_)
            have cf4 := free_of HC10.out 2
            have e44 := (cells3 HC10.out).2.2
            refine Qr 10 fun K hK => ?_
            go_simp
            have HC11 := Lib.hid (heap_setCell_same _ cb 2 _ _ (.slice ua vn uk) HC10.out)
            refine hK.out _ _ ?_ (fun hHeld => ?_)
            · ((try dsimp only); exact (World.cell?_setCell_far _ _ _ _ (Ne.symm HNEi.out)).trans HY10.out)
            clear hK K
            try simp only [Act.put, Qa, Qb, Qc, Qd, Qe, Qf]
            refine wpAnyH_done (by kernel_rfl) ?_ _
            have HE11 := Lib.hid (((HEX.out.below HBwb.out).base (by rw [HBQi.out]; exact Nat.le_refl _) HBA.out).set 2 (.slice ua vn uk))
            have HB11 := Lib.hid ((((HBR.out.trans (HBwb.out.mono HBR.out.size))).trans (HBA.out.mono (by rw [HBQi.out]; exact HBb6.out.size))).setCell (p := ⟨cb, 2, none⟩) HZC.out.2.2.1 (.slice ua vn uk))
            have HO11 := Lib.hid (show Gr.OwnI (w10.setCell ⟨cb, 2, none⟩ (.slice ua vn uk)) Bi 3 (.slice ua vn uk) ((Xi.take (i + 1)).map intR) by
              have e : (Xi.take (i + 1)).map intR = (Xi.take i).map intR ++ [intR q] := by rw [List.take_add_one, HQ.out, List.map_append]; rfl
              unfold Gr.OwnI
              have e2 : Gr.intsL ((Xi.take i).map intR ++ [intR q]) = Gr.intsL ((Xi.take i).map intR) ++ [.int .i64 (intR q)] := by unfold Gr.intsL; rw [List.map_append]; rfl
              rw [e, e2, List.length_append]
              have hvn : ((Xi.take i).map intR).length + [intR q].length = vn := HVN.out
              rw [hvn]
              refine ownsRow_setCell_other HA.out (fun e => ?_) _
              have h1 := (World.ownsRow.lt HA.out _ e).1
              have h2 : cb < Bi := by rw [HBQi.out]; exact (Array.getElem?_eq_some_iff.1 HCb6.out).1
              exact absurd h2 (Nat.not_lt.2 h1))
            clear c0 c1 c2 cf4 e44 cq
            have hN17 := HXMi.out
            go_wp2_with fail
            go_roundg (Ni - i)
            case measure => have := HIK.out; omega
            case rel => exact ⟨i + 1, _, by have := HIK.out; omega, by omega, by go_num, HC11, HO11.out, HE11.out, HB11.out⟩
          · go_simp
            go_at_call 26
            refine (int_any q (by have := HQL.out; omega) _).mono ?_
            rintro e wa ⟨rfl, hb⟩
            have HBwa := Lib.hid (HB07.out.trans (hb.mono HB07.out.size))
            clear hb
            try go_wp2_with fail
            refine hK.out _ _ ?_ (fun hHeld => ?_)
            · ((try dsimp only); exact Kc HBwa.out HGS.out cq)
            clear hK K
            try simp only [Act.put, Qa, Qb, Qc, Qd, Qe, Qf]
            refine wpAnyH_ready (rs := [1, 7]) (by kernel_rfl) (by simp) ?_
            refine AllReadyH.cons rfl (fun K hK => ?_) (AllReadyH.cons rfl (fun K hK => ?_) AllReadyH.nil)
            · go_simp
              have ek := Kc HBwa.out HCL.out c2
              try go_simp
              refine hK.out _ _ ?_ (fun hHeld => ?_)
              · ((try dsimp only); exact Kc HBwa.out HGS.out cq)
              clear hK K
              try simp only [Act.put, Qa, Qb, Qc, Qd, Qe, Qf]
              clear ek
              refine Qr 7 fun K hK => ?_
              go_simp
              have HBwb := Lib.hid (HBwa.out.alloc HBwa.out.size (.cells #[.int .i64 (intR q)] 3))
              refine hK.out _ _ ?_ (fun hHeld => ?_)
              · ((try dsimp only); exact Kc HBwb.out HGS.out cq)
              clear hK K
              try simp only [Act.put, Qa, Qb, Qc, Qd, Qe, Qf]
              have HOb := Lib.hid (HOW.out.below HBwb.out)
              have HBB := Lib.hid (show Bi ≤ wr.heap.size by rw [HBQi.out]; exact HEX.out.1)
              refine Qr 8 fun K hK => ?_
              refine app1 _ (by rfl) _ _ 42 (by rfl) Bi 3 j0 _ 1 8 Tryz.underlying42 hj hu0 hu1 hu2 (by kernel_rfl) (by decide) v ((Xi.take i).map intR).length (Gr.intsL ((Xi.take i).map intR)) (by rfl) HOb.out wa.heap.size [.int .i64 (intR q)] 3 (by rfl) (heap_alloc_new wa _) rfl (by intro u hu; simp at hu; subst hu; rfl) (by have := HXMi.out; unfold maxLen; simp; omega) (by have := HXMi.out; simp; omega) (Nat.le_trans HBB.out HBwb.out.size) ?_
              intro v2 w10 hA hbA hkp
              have HGK := Lib.hid ((hbA.block gsi (show gsi < Bi by rw [HBQi.out]; exact HGSB.out)).trans (HBwb.out.block gsi HGS.out))
              obtain ⟨ua, uk, rfl⟩ := row_form hA
              generalize hvn : ((Xi.take i).map intR).length + 1 = vn at *
              have HA := Lib.hid hA
              have HVN := Lib.hid hvn
              have HBA := Lib.hid hbA
              clear hA hbA hvn hkp
              have HC10 := Lib.hid ((HBA.out.block cb (show cb < Bi by rw [HBQi.out]; exact (Array.getElem?_eq_some_iff.1 HCb6.out).1)).trans ((HBwb.out.block cb HCL.out).trans HCI.out))
              have HY10 := Lib.hid ((World.cell?_of_block (w := _) HGK.out).trans cq)
              refine hK.out _ _ ?_ (fun hHeld => ?_)
              · ((try dsimp only); exact HY10.out)
              clear hK K
              try simp only [Act.put, Qa, Qb, Qc, Qd, Qe, Qf]
              refine Qt 9 (fun _ => ?_)
              have cf4 := free_of HC10.out 2
              have e44 := (cells3 HC10.out).2.2
              refine Qr 10 fun K hK => ?_
              go_simp
              have HC11 := Lib.hid (heap_setCell_same _ cb 2 _ _ (.slice ua vn uk) HC10.out)
              refine hK.out _ _ ?_ (fun hHeld => ?_)
              · ((try dsimp only); exact (World.cell?_setCell_far _ _ _ _ (Ne.symm HNEi.out)).trans HY10.out)
              clear hK K
              try simp only [Act.put, Qa, Qb, Qc, Qd, Qe, Qf]
              refine wpAnyH_done (by kernel_rfl) ?_ _
              have HE11 := Lib.hid (((HEX.out.below HBwb.out).base (by rw [HBQi.out]; exact Nat.le_refl _) HBA.out).set 2 (.slice ua vn uk))
              have HB11 := Lib.hid ((((HBR.out.trans (HBwb.out.mono HBR.out.size))).trans (HBA.out.mono (by rw [HBQi.out]; exact HBb6.out.size))).setCell (p := ⟨cb, 2, none⟩) HZC.out.2.2.1 (.slice ua vn uk))
              have HO11 := Lib.hid (show Gr.OwnI (w10.setCell ⟨cb, 2, none⟩ (.slice ua vn uk)) Bi 3 (.slice ua vn uk) ((Xi.take (i + 1)).map intR) by
                have e : (Xi.take (i + 1)).map intR = (Xi.take i).map intR ++ [intR q] := by rw [List.take_add_one, HQ.out, List.map_append]; rfl
                unfold Gr.OwnI
                have e2 : Gr.intsL ((Xi.take i).map intR ++ [intR q]) = Gr.intsL ((Xi.take i).map intR) ++ [.int .i64 (intR q)] := by unfold Gr.intsL; rw [List.map_append]; rfl
                rw [e, e2, List.length_append]
                have hvn : ((Xi.take i).map intR).length + [intR q].length = vn := HVN.out
                rw [hvn]
                refine ownsRow_setCell_other HA.out (fun e => ?_) _
                have h1 := (World.ownsRow.lt HA.out _ e).1
                have h2 : cb < Bi := by rw [HBQi.out]; exact (Array.getElem?_eq_some_iff.1 HCb6.out).1
                exact absurd h2 (Nat.not_lt.2 h1))
              clear c0 c1 c2 cf4 e44 cq
              have hN17 := HXMi.out
              go_wp2_with fail
              go_roundg (Ni - i)
              case measure => have := HIK.out; omega
              case rel => exact ⟨i + 1, _, by have := HIK.out; omega, by omega, by go_num, HC11, HO11.out, HE11.out, HB11.out⟩
            · go_simp
              have HBwb := Lib.hid (HBwa.out.alloc HBwa.out.size (.cells #[.int .i64 (intR q)] 3))
              refine hK.out _ _ ?_ (fun hHeld => ?_)
              · ((try dsimp only); exact Kc HBwb.out HGS.out cq)
              clear hK K
              try simp only [Act.put, Qa, Qb, Qc, Qd, Qe, Qf]
              refine Qr 1 fun K hK => ?_
              go_simp
              have ek := Kc HBwb.out HCL.out c2
              try go_simp
              refine hK.out _ _ ?_ (fun hHeld => ?_)
              · ((try dsimp only); exact Kc HBwb.out HGS.out cq)
              clear hK K
              try simp only [Act.put, Qa, Qb, Qc, Qd, Qe, Qf]
              clear ek
              have HOb := Lib.hid (HOW.out.below HBwb.out)
              have HBB := Lib.hid (show Bi ≤ wr.heap.size by rw [HBQi.out]; exact HEX.out.1)
              refine Qr 8 fun K hK => ?_
              refine app1 _ (by rfl) _ _ 42 (by rfl) Bi 3 j0 _ 1 8 Tryz.underlying42 hj hu0 hu1 hu2 (by kernel_rfl) (by decide) v ((Xi.take i).map intR).length (Gr.intsL ((Xi.take i).map intR)) (by rfl) HOb.out wa.heap.size [.int .i64 (intR q)] 3 (by rfl) (heap_alloc_new wa _) rfl (by intro u hu; simp at hu; subst hu; rfl) (by have := HXMi.out; unfold maxLen; simp; omega) (by have := HXMi.out; simp; omega) (Nat.le_trans HBB.out HBwb.out.size) ?_
              intro v2 w10 hA hbA hkp
              have HGK := Lib.hid ((hbA.block gsi (show gsi < Bi by rw [HBQi.out]; exact HGSB.out)).trans (HBwb.out.block gsi HGS.out))
              obtain ⟨ua, uk, rfl⟩ := row_form hA
              generalize hvn : ((Xi.take i).map intR).length + 1 = vn at *
              have HA := Lib.hid hA
              have HVN := Lib.hid hvn
              have HBA := Lib.hid hbA
              clear hA hbA hvn hkp
              have HC10 := Lib.hid ((HBA.out.block cb (show cb < Bi by rw [HBQi.out]; exact (Array.getElem?_eq_some_iff.1 HCb6.out).1)).trans ((HBwb.out.block cb HCL.out).trans HCI.out))
              have HY10 := Lib.hid ((World.cell?_of_block (w := _) HGK.out).trans cq)
              refine hK.out _ _ ?_ (fun hHeld => ?_)
              · ((try dsimp only); exact HY10.out)
              clear hK K
              try simp only [Act.put, Qa, Qb, Qc, Qd, Qe, Qf]
              refine Qt 9 (fun _ => ?_)
              have cf4 := free_of HC10.out 2
              have e44 := (cells3 HC10.out).2.2
              refine Qr 10 fun K hK => ?_
              go_simp
              have HC11 := Lib.hid (heap_setCell_same _ cb 2 _ _ (.slice ua vn uk) HC10.out)
              refine hK.out _ _ ?_ (fun hHeld => ?_)
              · ((try dsimp only); exact (World.cell?_setCell_far _ _ _ _ (Ne.symm HNEi.out)).trans HY10.out)
              clear hK K
              try simp only [Act.put, Qa, Qb, Qc, Qd, Qe, Qf]
              refine wpAnyH_done (by kernel_rfl) ?_ _
              have HE11 := Lib.hid (((HEX.out.below HBwb.out).base (by rw [HBQi.out]; exact Nat.le_refl _) HBA.out).set 2 (.slice ua vn uk))
              have HB11 := Lib.hid ((((HBR.out.trans (HBwb.out.mono HBR.out.size))).trans (HBA.out.mono (by rw [HBQi.out]; exact HBb6.out.size))).setCell (p := ⟨cb, 2, none⟩) HZC.out.2.2.1 (.slice ua vn uk))
              have HO11 := Lib.hid (show Gr.OwnI (w10.setCell ⟨cb, 2, none⟩ (.slice ua vn uk)) Bi 3 (.slice ua vn uk) ((Xi.take (i + 1)).map intR) by
                have e : (Xi.take (i + 1)).map intR = (Xi.take i).map intR ++ [intR q] := by rw [List.take_add_one, HQ.out, List.map_append]; rfl
                unfold Gr.OwnI
                have e2 : Gr.intsL ((Xi.take i).map intR ++ [intR q]) = Gr.intsL ((Xi.take i).map intR) ++ [.int .i64 (intR q)] := by unfold Gr.intsL; rw [List.map_append]; rfl
                rw [e, e2, List.length_append]
                have hvn : ((Xi.take i).map intR).length + [intR q].length = vn := HVN.out
                rw [hvn]
                refine ownsRow_setCell_other HA.out (fun e => ?_) _
                have h1 := (World.ownsRow.lt HA.out _ e).1
                have h2 : cb < Bi := by rw [HBQi.out]; exact (Array.getElem?_eq_some_iff.1 HCb6.out).1
                exact absurd h2 (Nat.not_lt.2 h1))
              clear c0 c1 c2 cf4 e44 cq
              have hN17 := HXMi.out
              go_wp2_with fail
              go_roundg (Ni - i)
              case measure => have := HIK.out; omega
              case rel => exact ⟨i + 1, _, by have := HIK.out; omega, by omega, by go_num, HC11, HO11.out, HE11.out, HB11.out⟩
        · have hin : i = Ni := by omega
          subst hin
          have e : (Xi.take i).map intR = Xi.map intR := by rw [List.take_of_length_le (by rw [← HNi.out]; exact Nat.le_refl _)]
          have HOI := Lib.hid (e ▸ HOW.out)
          have HOEI := Lib.hid (row_ex HOE6.out HEX.out (fun e => by have h1 := (World.ownsRow.lt HOE.out _ e).1; have h2 := HBb.out; omega))
          have HZI := Lib.hid ((HEX.out.2 z (Array.getElem?_eq_some_iff.1 HZb6.out).1 (by have := HZC.out; omega)).trans HZb6.out)
          have HBI := Lib.hid (show z < Bi ∧ w.heap.size ≤ Bi by rw [HBQi.out]; exact ⟨(Array.getElem?_eq_some_iff.1 HZb6.out).1, HBb6.out.size⟩)
          have HWI := Lib.hid (show ∀ x ∈ Xi.map intR, -9223372036854775808 ≤ x ∧ x ≤ 9223372036854775807 by intro x hx; obtain ⟨q, _, rfl⟩ := List.mem_map.1 hx; exact intR_bd q)
          have HLI := Lib.hid (show (Xi.map intR).length ≤ 1000 by rw [List.length_map]; have := HXCi.out; omega)
          clear e
          generalize Xi.map intR = I at *
          obtain ⟨ua, uk, rfl⟩ := row_form HOI.out
          have hne := HNL.out
          subst hne
          have HRD := Lib.hid (And.intro (Gr.Own.rd (T := 96) HOEI.out HWE.out) (Gr.OwnI.rd (T := 3) HOI.out HWI.out))
          have HNW := Lib.hid (And.intro (row_new HOE.out HBb.out.1) (row_new HOI.out HBI.out.2))
          have HCG := Lib.hid (refGraph_any n HRD.out.1 HRD.out.2 HNB.out HLE.out HLI.out)
          obtain ⟨d0, d1, d2⟩ := cells3 HCI.out
          go_wp2_with fail
          go_at_call 19
          refine HCG.out.mono ?_
          rintro e wk ⟨rfl, hb⟩
          have HBk := Lib.hid (HBR.out.trans (hb.mono HBR.out.size))
          have HZk := Lib.hid ((hb.block z (Array.getElem?_eq_some_iff.1 HZI.out).1).trans HZI.out)
          have HCk := Lib.hid ((hb.block cb (Array.getElem?_eq_some_iff.1 HCI.out).1).trans HCI.out)
          have HRk := Lib.hid (And.intro (HRD.out.1.below hb) (HRD.out.2.below hb))
          have HZL := Lib.hid (show z < Be ∧ z < Bi from ⟨HBb.out.2.1, HBI.out.1⟩)
          clear hb d0 d1 d2
          by_cases h1 : graphL okG ⟨n, L, I⟩ = s
          · by_cases h0 : s = []
            · have HO := Lib.hid (show O = none by rw [HPR.out, HE1.out]; exact if_neg (fun e => e.1 h0))
              have eT : ((bs (graphL okG ⟨n, L, I⟩)).toList == (bs s).toList) = true := by rw [bs_beq]; exact decide_eq_true h1
              have eE : ((bs s).toList == []) = true := by rw [Lib.toList_data, bs_data, h0]; rfl
              clear h0 h1
              generalize graphL okG ⟨n, L, I⟩ = ll at *
              obtain ⟨z0, z1, z2⟩ := cells3 HZk.out
              have zf0 := free_of HZk.out 0
              have zf1 := free_of HZk.out 1
              have zf2 := free_of HZk.out 2
              have HR5 := Lib.hid (cells3 (heap_setCell_same _ z 2 _ _ (.slice none 0 0) (heap_setCell_same _ z 1 _ _ (.slice none 0 0) (heap_setCell_same _ z 0 _ _ (.int .i64 0) HZk.out))))
              go_wp2_with fail
              obtain ⟨r0, r1, r2⟩ := HR5.out
              have e := HO.out
              subst e
              exact bodyPost_ret (v := .tuple #[.agg #[.int .i64 0, .slice none 0 0, .slice none 0 0], .bool false]) (by simp [results, Tryz.results14, go_sem, r0, r1, r2]) rfl ⟨_, rfl, ⟨none, 0, none, 0, rfl, Gr.Rd.nil _, ⟨none, 0, rfl, by simp [g0], by simp, by simp [g0], .inl rfl⟩⟩, (((HBk.out).setCell (p := ⟨z, 0, none⟩) (Nat.le_of_eq HZZ.out.symm) _).setCell (p := ⟨z, 1, none⟩) (Nat.le_of_eq HZZ.out.symm) _).setCell (p := ⟨z, 2, none⟩) (Nat.le_of_eq HZZ.out.symm) _⟩
            · have HO := Lib.hid (show O = some ⟨n, L, I⟩ by rw [HPR.out, HE1.out]; exact if_pos ⟨h0, h1⟩)
              have eT : ((bs (graphL okG ⟨n, L, I⟩)).toList == (bs s).toList) = true := by rw [bs_beq]; exact decide_eq_true h1
              have eE : ((bs s).toList == []) = false := by rw [Lib.toList_data, bs_data, beq_eq_false_iff_ne]; exact h0
              clear h0 h1
              generalize graphL okG ⟨n, L, I⟩ = ll at *
              obtain ⟨d0, d1, d2⟩ := cells3 HCk.out
              obtain ⟨z0, z1, z2⟩ := cells3 HZk.out
              have zf0 := free_of HZk.out 0
              have zf1 := free_of HZk.out 1
              have zf2 := free_of HZk.out 2
              have HR5 := Lib.hid (cells3 (heap_setCell_same _ z 2 _ _ (.slice ua I.length uk) (heap_setCell_same _ z 1 _ _ (.slice va L.length vk) (heap_setCell_same _ z 0 _ _ (.int .i64 n) HZk.out))))
              go_wp2_with fail
              obtain ⟨r0, r1, r2⟩ := HR5.out
              have e := HO.out
              subst e
              exact bodyPost_ret (v := .tuple #[.agg #[.int .i64 n, .slice va L.length vk, .slice ua I.length uk], .bool true]) (by simp [results, Tryz.results14, go_sem, r0, r1, r2]) rfl ⟨_, rfl, ⟨va, vk, ua, uk, rfl, rd_set3 HRk.out.1 (fun g n k e => by have h1 := (World.ownsRow.lt HOE.out g.block (by rw [e]; rfl)).1; have h2 := HZL.out; omega) _ _ _, rdi_set3 HRk.out.2 (fun g n k e => by have h1 := (World.ownsRow.lt HOI.out g.block (by rw [e]; rfl)).1; have h2 := HZL.out; omega) _ _ _⟩, (((HBk.out).setCell (p := ⟨z, 0, none⟩) (Nat.le_of_eq HZZ.out.symm) _).setCell (p := ⟨z, 1, none⟩) (Nat.le_of_eq HZZ.out.symm) _).setCell (p := ⟨z, 2, none⟩) (Nat.le_of_eq HZZ.out.symm) _⟩
          · have HO := Lib.hid (show O = none by rw [HPR.out, HE1.out]; exact if_neg (fun e => h1 e.2))
            have eT : ((bs (graphL okG ⟨n, L, I⟩)).toList == (bs s).toList) = false := by rw [bs_beq]; exact decide_eq_false h1
            clear h1
            generalize graphL okG ⟨n, L, I⟩ = ll at *
            obtain ⟨z0, z1, z2⟩ := cells3 HZk.out
            have zf0 := free_of HZk.out 0
            have zf1 := free_of HZk.out 1
            have zf2 := free_of HZk.out 2
            have HR5 := Lib.hid (cells3 (heap_setCell_same _ z 2 _ _ (.slice none 0 0) (heap_setCell_same _ z 1 _ _ (.slice none 0 0) (heap_setCell_same _ z 0 _ _ (.int .i64 0) HZk.out))))
            go_wp2_with fail
            obtain ⟨r0, r1, r2⟩ := HR5.out
            have e := HO.out
            subst e
            exact bodyPost_ret (v := .tuple #[.agg #[.int .i64 0, .slice none 0 0, .slice none 0 0], .bool false]) (by simp [results, Tryz.results14, go_sem, r0, r1, r2]) rfl ⟨_, rfl, ⟨none, 0, none, 0, rfl, Gr.Rd.nil _, ⟨none, 0, rfl, by simp [g0], by simp, by simp [g0], .inl rfl⟩⟩, (((HBk.out).setCell (p := ⟨z, 0, none⟩) (Nat.le_of_eq HZZ.out.symm) _).setCell (p := ⟨z, 1, none⟩) (Nat.le_of_eq HZZ.out.symm) _).setCell (p := ⟨z, 2, none⟩) (Nat.le_of_eq HZZ.out.symm) _⟩
    · have HE0 := Lib.hid (show GG = (unE (splR 44 b)).map (fun E => (⟨n, E, (splR 44 c).map intR⟩ : Gm)) by rw [HGM.out, if_neg hm])
      have eE : ((bs b).toList == [45]) = false := by rw [Lib.toList_data, bs_data, beq_eq_false_iff_ne]; exact hm
      clear hm
      have kb := HKB.out
      have HSe := Lib.hid (fun w' => split_any b 44 (by have := HLA.out; omega) w')
      have hXL := splR_len 44 b
      have hXC := splR_count 44 b
      have hXN := splR_ne 44 b
      generalize splR 44 b = Xe at *
      have HXLe := Lib.hid (show ∀ x ∈ Xe, x.length ≤ 600 from fun x hx => by have := hXL x hx; have := HLA.out; omega)
      have HXCe := Lib.hid (show Xe.length ≤ 601 by have := HLA.out; omega)
      have HXNe := Lib.hid hXN
      clear hXL hXC hXN
      go_wp2_with fail
      go_at_call 25
      refine (HSe.out _).mono ?_
      rintro e w6 ⟨vs, rfl, hown, hb⟩
      obtain ⟨hrd, gse, kse, rfl, hgs⟩ := hown.rd HXNe.out
      have HB6 := Lib.hid (HB5.out.trans (hb.mono HB5.out.size))
      have HZ6 := Lib.hid ((hb.block z (Array.getElem?_eq_some_iff.1 HZ5.out).1).trans HZ5.out)
      have HC6 := Lib.hid ((hb.block cb (Array.getElem?_eq_some_iff.1 HC5.out).1).trans HC5.out)
      have HBSe := Lib.hid hb
      have HNEe := Lib.hid (show gse ≠ cb from fun e => by subst e; have h1 := (Array.getElem?_eq_some_iff.1 HC5.out).1; have h2 : w5.heap.size ≤ gse := hgs; omega)
      have HRSe := Lib.hid hrd
      obtain ⟨Ne, hN⟩ : ∃ N, N = Xe.length := ⟨_, rfl⟩
      have HXMe := Lib.hid (show Ne ≤ 601 by rw [hN]; exact HXCe.out)
      rw [← hN]
      have HNe := Lib.hid hN
      obtain ⟨Be, hBq⟩ : ∃ B, B = w6.heap.size := ⟨_, rfl⟩
      have HBQe := Lib.hid hBq
      have HKC6 := Lib.hid (Kc hb (by have h1 := HZC.out; have h2 := (Array.getElem?_eq_some_iff.1 HC5.out).1; omega) HKC.out)
      have HGL6 := Lib.hid (show gx < w6.heap.size by have h1 := HZC.out; have h2 := (Array.getElem?_eq_some_iff.1 HC6.out).1; omega)
      clear kb hown hb hrd hgs hN hBq
      go_wp2_with fail
      go_loopg [7] (Ne + 1) (fun k t wr => ∃ (i : Nat) (v : Value) (L : List Gr.Ed), i + k = Ne + 1 ∧ i ≤ Ne ∧ t = .int .i64 i ∧ unE (Xe.take i) = some L ∧ Hid (wr.heap[cb]? = some (.cells #[.int .i64 n, v, .slice none 0 0] 44 (0, 0))) ∧ Gr.Own wr Be 96 v L ∧ Ex cb w6 wr ∧ Below w.heap.size w wr)
      case atStart => exact ⟨0, .slice none 0 0, [], by omega, by omega, rfl, rfl, HC6, Gr.Own.nil _ _ _, Ex.refl _ _, HB6.out⟩
      case round =>
        obtain ⟨i, v, L, hik, hil, rfl, hun, HCI, hown, hex, hbw⟩ := hrel
        have HIK := Lib.hid hik
        have HUN := Lib.hid hun
        have HOW := Lib.hid hown
        have HEX := Lib.hid hex
        have HBR := Lib.hid hbw
        have hi0 : (0 : Int) ≤ (i : Int) := Int.natCast_nonneg _
        have HZr := Lib.hid ((HEX.out.2 z (Array.getElem?_eq_some_iff.1 HZ6.out).1 (by have := HZC.out; omega)).trans HZ6.out)
        clear hik hun hown hex hbw
        by_cases hlt : i < Ne
        · have hi1 : (i : Int) < (Ne : Int) := by omega
          obtain ⟨q, hq⟩ : ∃ q, Xe[i]? = some q := ⟨_, List.getElem?_eq_getElem (by rw [← HNe.out]; exact hlt)⟩
          have HQ := Lib.hid hq
          have HQL := Lib.hid (HXLe.out q (List.mem_of_getElem? hq))
          obtain ⟨gs2, os2, ks2, e9, _, hg9, hcs⟩ := HEX.out.rd HRSe.out HNEe.out
          rw [← HNe.out] at e9
          obtain ⟨rfl, rfl, rfl⟩ := slice_inj0 e9
          have cq := hcs i q hq
          rw [Nat.zero_add] at cq
          clear hq hcs e9
          have HS4 := Lib.hid (fun w' => split_any q 47 (by have := HQL.out; omega) w')
          have hYN := splR_ne 47 q
          have hYL := splR_len 47 q
          have HU1 := Lib.hid (show un1E q = match splR 47 q with | [a, b, c] => (parL c).map fun (t : Nat) => (⟨intR a, intR b, t⟩ : Gr.Ed) | _ => none from rfl)
          generalize splR 47 q = Y at *
          have HYN := Lib.hid hYN
          have HYL := Lib.hid (show ∀ x ∈ Y, x.length ≤ 600 from fun x hx => Nat.le_trans (hYL x hx) HQL.out)
          clear hYN hYL hg9
          go_wp2_with fail
          go_at_call 25
          refine (HS4.out _).mono ?_
          rintro e w7 ⟨vy, rfl, hownY, hb⟩
          obtain ⟨hrdY, gy, cy, rfl, hgy⟩ := hownY.rd HYN.out
          have HB7 := Lib.hid (HBR.out.trans (hb.mono HBR.out.size))
          have HZ7 := Lib.hid ((hb.block z (Array.getElem?_eq_some_iff.1 HZr.out).1).trans HZr.out)
          have HC7 := Lib.hid ((hb.block cb (Array.getElem?_eq_some_iff.1 HCI.out).1).trans HCI.out)
          have HE7 := Lib.hid (HEX.out.below hb)
          have HO7 := Lib.hid (HOW.out.below hb)
          have HRW := Lib.hid hb.size
          have HGW := Lib.hid (show wr.heap.size ≤ gy from hgy)
          have HRY := Lib.hid hrdY
          clear hownY hgy hb hrdY cq
          by_cases h3 : Y.length = 3
          · obtain ⟨a, b2, c2, rfl⟩ : ∃ a b c, Y = [a, b, c] := by
              match Y, h3 with
              | [a, b, c], _ => exact ⟨a, b, c, rfl⟩
            have HUE := Lib.hid (show un1E q = (parL c2).map fun (t : Nat) => (⟨intR a, intR b2, t⟩ : Gr.Ed) from HU1.out)
            obtain ⟨g8, o8, c8, e8, _, hg8, hcy⟩ := id HRY.out
            obtain ⟨rfl, rfl, rfl⟩ := slice_inj e8
            clear e8
            have y0 := hcy 0 a rfl
            have y1 := hcy 1 b2 rfl
            have y2 := hcy 2 c2 rfl
            simp only [Nat.zero_add, Nat.add_zero] at y0 y1 y2
            have HGY := Lib.hid hg8
            have HLY := Lib.hid (show a.length ≤ 600 ∧ b2.length ≤ 600 ∧ c2.length ≤ 600 from ⟨HYL.out a (by simp), HYL.out b2 (by simp), HYL.out c2 (by simp)⟩)
            have HTB := Lib.hid (fun w' => scTime_any c2 (by have := HLY.out; omega) w')
            have HOT := Lib.hid (show okL c2 = (parL c2).isSome from rfl)
            have HTV := Lib.hid (show timeV c2 = ((parL c2).getD 0 : Nat) from rfl)
            clear h3 hg8 hcy HU1
            cases hpb : parL c2 with
            | none =>
              have HO := Lib.hid (show O = none by
                have h1 : unE Xe = none := unE_none HQ.out (by rw [HUE.out, hpb]; rfl)
                rw [HPR.out, HE0.out, h1]
                rfl)
              rw [hpb] at HOT
              have HOF := Lib.hid (show okL c2 = false from HOT.out)
              clear hpb HOT HTV
              go_wp2_with fail
              go_at_call 27
              refine (HTB.out _).mono ?_
              rintro e w8 ⟨rfl, hb⟩
              rw [HOF.out]
              have HB8 := Lib.hid (HB7.out.trans (hb.mono HB7.out.size))
              have HZ8 := Lib.hid ((hb.block z (Array.getElem?_eq_some_iff.1 HZ7.out).1).trans HZ7.out)
              clear hb y0 y1 y2
              obtain ⟨z0, z1, z2⟩ := cells3 HZ8.out
              have zf0 := free_of HZ8.out 0
              have zf1 := free_of HZ8.out 1
              have zf2 := free_of HZ8.out 2
              have HR5 := Lib.hid (cells3 (heap_setCell_same _ z 2 _ _ (.slice none 0 0) (heap_setCell_same _ z 1 _ _ (.slice none 0 0) (heap_setCell_same _ z 0 _ _ (.int .i64 0) HZ8.out))))
              go_wp2_with fail
              obtain ⟨r0, r1, r2⟩ := HR5.out
              have e := HO.out
              subst e
              exact bodyPost_ret (v := .tuple #[.agg #[.int .i64 0, .slice none 0 0, .slice none 0 0], .bool false]) (by simp [results, Tryz.results14, go_sem, r0, r1, r2]) rfl ⟨_, rfl, ⟨none, 0, none, 0, rfl, Gr.Rd.nil _, ⟨none, 0, rfl, by simp [g0], by simp, by simp [g0], .inl rfl⟩⟩, (((HB8.out).setCell (p := ⟨z, 0, none⟩) (Nat.le_of_eq HZZ.out.symm) _).setCell (p := ⟨z, 1, none⟩) (Nat.le_of_eq HZZ.out.symm) _).setCell (p := ⟨z, 2, none⟩) (Nat.le_of_eq HZZ.out.symm) _⟩
            | some t =>
              have HXX := Lib.hid (show un1E q = some ⟨intR a, intR b2, (t : Int)⟩ by rw [HUE.out, hpb]; rfl)
              rw [hpb] at HOT HTV
              have HOF := Lib.hid (show okL c2 = true from HOT.out)
              have HTT := Lib.hid (show timeV c2 = (t : Int) from HTV.out)
              have HTU := Lib.hid (parL_U hpb)
              clear hpb HOT HTV
              go_wp2_with fail
              go_at_call 27
              refine (HTB.out _).mono ?_
              rintro e w8 ⟨rfl, hb⟩
              rw [HOF.out, HTT.out]
              have HB8 := Lib.hid (HB7.out.trans (hb.mono HB7.out.size))
              have HC8 := Lib.hid ((hb.block cb (Array.getElem?_eq_some_iff.1 HC7.out).1).trans HC7.out)
              have HE8 := Lib.hid (HE7.out.below hb)
              have HO8 := Lib.hid (HO7.out.below hb)
              have HG8 := Lib.hid (Nat.lt_of_lt_of_le HGY.out hb.size)
              replace y0 := Kc hb HGY.out y0
              replace y1 := Kc hb HGY.out y1
              clear hb y2
              obtain ⟨e0, e1, e2⟩ := cells3 HC8.out
              have HCL := Lib.hid (Array.getElem?_eq_some_iff.1 HC8.out).1
              have HYB := Lib.hid (show cb ≠ gy by have h1 := (Array.getElem?_eq_some_iff.1 HCI.out).1; have h2 := HGW.out; omega)
              go_upto_region 16 with fail
              refine wp_region_held_drew (S := fun w' => w'.cell? ⟨gy, 0, none⟩ = some (.string (bs a)) ∧ w'.cell? ⟨gy, 1, none⟩ = some (.string (bs b2))) (by kernel_rfl) ?_ (fun hHeld => ?_)
              · ((try dsimp only); exact ⟨y0, y1⟩)
              have HB08 := Lib.hid (show Below w8.heap.size w8 w8.drew from below_drewN (Below.refl _ _) 1)
              refine Qt 0 (fun _ => ?_)
              refine Qt 2 (fun _ => ?_)
              refine Qt 3 (fun _ => ?_)
              refine Qt 4 (fun _ => ?_)
              refine Qt 6 (fun _ => ?_)
              refine Qt 7 (fun _ => ?_)
              refine Qt 8 (fun _ => ?_)
              refine Qt 10 (fun _ => ?_)
              refine wpAnyH_ready (rs := [1, 5]) (by kernel_rfl) (by simp) ?_
              refine AllReadyH.cons rfl (fun K hK => ?_) (AllReadyH.cons rfl (fun K hK => ?_) AllReadyH.nil)
              · go_simp
                have ek := Kc HB08.out HCL.out e1
                try go_simp
                refine hK.out _ _ ?_ (fun hHeld => ?_)
                · ((try dsimp only); exact ⟨Kc HB08.out HG8.out y0, Kc HB08.out HG8.out y1⟩)
                clear hK K
                try simp only [Act.put, Qa, Qb, Qc, Qd, Qe, Qf]
                clear ek
                refine Qr 5 fun K hK => ?_
                go_simp
                go_at_call 26
                refine (int_any a (by have := HLY.out; omega) _).mono ?_
                rintro e w9 ⟨rfl, hb⟩
                have HBw9 := Lib.hid (HB08.out.trans (hb.mono HB08.out.size))
                clear hb
                try go_wp2_with fail
                refine hK.out _ _ ?_ (fun hHeld => ?_)
                · ((try dsimp only); exact ⟨Kc HBw9.out HG8.out y0, Kc HBw9.out HG8.out y1⟩)
                clear hK K
                try simp only [Act.put, Qa, Qb, Qc, Qd, Qe, Qf]
                refine Qr 9 fun K hK => ?_
                go_simp
                go_at_call 26
                refine (int_any b2 (by have := HLY.out; omega) _).mono ?_
                rintro e wa ⟨rfl, hb⟩
                have HBwa := Lib.hid (HBw9.out.trans (hb.mono HBw9.out.size))
                clear hb
                try go_wp2_with fail
                refine hK.out _ _ ?_ (fun hHeld => ?_)
                · ((try dsimp only); exact ⟨Kc HBwa.out HG8.out y0, Kc HBwa.out HG8.out y1⟩)
                clear hK K
                try simp only [Act.put, Qa, Qb, Qc, Qd, Qe, Qf]
                refine Qt 11 (fun _ => ?_)
                refine Qr 12 fun K hK => ?_
                go_simp
                have HBwb := Lib.hid (HBwa.out.alloc HBwa.out.size (.cells #[.int .i64 (intR a), .int .i64 (intR b2), .int .u64 (t : Int)] 96))
                refine hK.out _ _ ?_ (fun hHeld => ?_)
                · ((try dsimp only); exact ⟨Kc HBwb.out HG8.out y0, Kc HBwb.out HG8.out y1⟩)
                clear hK K
                try simp only [Act.put, Qa, Qb, Qc, Qd, Qe, Qf]
                have HOb := Lib.hid (HO8.out.below HBwb.out)
                have HBB := Lib.hid (show Be ≤ w8.heap.size by rw [HBQe.out]; exact HE8.out.1)
                refine Qr 13 fun K hK => ?_
                refine app1 _ (by rfl) _ _ 41 (by rfl) Be 96 i0 _ 3 24 Tryz.underlying41 hi hy0 hy1 hy2 (by kernel_rfl) (by decide) v L.length (Gr.cellsL L) (by rfl) HOb.out wa.heap.size [.int .i64 (intR a), .int .i64 (intR b2), .int .u64 (t : Int)] 96 (by rfl) (heap_alloc_new wa _) rfl (by intro u hu; simp at hu; rcases hu with rfl | rfl | rfl <;> rfl) (by have h1 := unE_length HUN.out; rw [List.length_take] at h1; have := HXMe.out; unfold maxLen; omega) (by have h1 := unE_length HUN.out; rw [List.length_take] at h1; have := HXMe.out; omega) (Nat.le_trans HBB.out HBwb.out.size) ?_
                intro v2 w10 hA hbA hkp
                have hgk := hkp gy (Nat.lt_of_lt_of_le HG8.out HBwb.out.size) (fun e => by have h1 := (World.ownsRow.lt HOW.out gy e).2; have h2 := HGW.out; omega)
                have HGK := Lib.hid hgk
                obtain ⟨va, vk, rfl⟩ := row_form hA
                generalize hvn : L.length + 1 = vn at *
                have HA := Lib.hid hA
                have HVN := Lib.hid hvn
                have HBA := Lib.hid hbA
                clear hA hbA hvn hgk hkp
                have HC10 := Lib.hid ((HBA.out.block cb (show cb < Be by rw [HBQe.out]; exact (Array.getElem?_eq_some_iff.1 HC6.out).1)).trans ((HBwb.out.block cb HCL.out).trans HC8.out))
                have HY10 := Lib.hid (And.intro ((World.cell?_of_block (w := _) HGK.out).trans (Kc HBwb.out HG8.out y0)) ((World.cell?_of_block (w := _) HGK.out).trans (Kc HBwb.out HG8.out y1)))
                refine hK.out _ _ ?_ (fun hHeld => ?_)
                · ((try dsimp only); exact HY10.out)
                clear hK K
                try simp only [Act.put, Qa, Qb, Qc, Qd, Qe, Qf]
                refine Qt 14 (fun _ => ?_)
                have cf4 := free_of HC10.out 1
                have e44 := (cells3 HC10.out).2.1
                refine Qr 15 fun K hK => ?_
                go_simp
                have HC11 := Lib.hid (heap_setCell_same _ cb 1 _ _ (.slice va vn vk) HC10.out)
                refine hK.out _ _ ?_ (fun hHeld => ?_)
                · ((try dsimp only); exact ⟨(World.cell?_setCell_far _ _ _ _ HYB.out).trans HY10.out.1, (World.cell?_setCell_far _ _ _ _ HYB.out).trans HY10.out.2⟩)
                clear hK K
                try simp only [Act.put, Qa, Qb, Qc, Qd, Qe, Qf]
                refine wpAnyH_done (by kernel_rfl) ?_ _
                have HE11 := Lib.hid (((HE8.out.below HBwb.out).base (by rw [HBQe.out]; exact Nat.le_refl _) HBA.out).set 1 (.slice va vn vk))
                have HB11 := Lib.hid ((((HB8.out.trans (HBwb.out.mono HB8.out.size))).trans (HBA.out.mono (by rw [HBQe.out]; exact HB6.out.size))).setCell (p := ⟨cb, 1, none⟩) HZC.out.2.2.1 (.slice va vn vk))
                have HO11 := Lib.hid (show Gr.Own (w10.setCell ⟨cb, 1, none⟩ (.slice va vn vk)) Be 96 (.slice va vn vk) (L ++ [⟨intR a, intR b2, (t : Int)⟩]) by
                  unfold Gr.Own
                  rw [Gr.cellsL_snoc, List.length_append]
                  have hvn : L.length + [(⟨intR a, intR b2, (t : Int)⟩ : Gr.Ed)].length = vn := HVN.out
                  rw [hvn]
                  refine ownsRow_setCell_other HA.out (fun e => ?_) _
                  have h1 := (World.ownsRow.lt HA.out _ e).1
                  have h2 : cb < Be := by rw [HBQe.out]; exact (Array.getElem?_eq_some_iff.1 HC6.out).1
                  exact absurd h2 (Nat.not_lt.2 h1))
                have HUS := Lib.hid (show unE (Xe.take (i + 1)) = some (L ++ [⟨intR a, intR b2, (t : Int)⟩]) by
                  rw [List.take_add_one, HQ.out]
                  exact unE_snoc HUN.out HXX.out)
                clear e0 e1 e2 cf4 e44 y0 y1
                have hN17 := HXMe.out
                go_wp2_with fail
                go_roundg (Ne - i)
                case measure => have := HIK.out; omega
                case rel => exact ⟨i + 1, _, _, by have := HIK.out; omega, by omega, by go_num, HUS.out, HC11, HO11.out, HE11.out, HB11.out⟩
              · go_simp
                go_at_call 26
                refine (int_any a (by have := HLY.out; omega) _).mono ?_
                rintro e w9 ⟨rfl, hb⟩
                have HBw9 := Lib.hid (HB08.out.trans (hb.mono HB08.out.size))
                clear hb
                try go_wp2_with fail
                refine hK.out _ _ ?_ (fun hHeld => ?_)
                · ((try dsimp only); exact ⟨Kc HBw9.out HG8.out y0, Kc HBw9.out HG8.out y1⟩)
                clear hK K
                try simp only [Act.put, Qa, Qb, Qc, Qd, Qe, Qf]
                refine wpAnyH_ready (rs := [1, 9]) (by kernel_rfl) (by simp) ?_
                refine AllReadyH.cons rfl (fun K hK => ?_) (AllReadyH.cons rfl (fun K hK => ?_) AllReadyH.nil)
                · go_simp
                  have ek := Kc HBw9.out HCL.out e1
                  try go_simp
                  refine hK.out _ _ ?_ (fun hHeld => ?_)
                  · ((try dsimp only); exact ⟨Kc HBw9.out HG8.out y0, Kc HBw9.out HG8.out y1⟩)
                  clear hK K
                  try simp only [Act.put, Qa, Qb, Qc, Qd, Qe, Qf]
                  clear ek
                  refine Qr 9 fun K hK => ?_
                  go_simp
                  go_at_call 26
                  refine (int_any b2 (by have := HLY.out; omega) _).mono ?_
                  rintro e wa ⟨rfl, hb⟩
                  have HBwa := Lib.hid (HBw9.out.trans (hb.mono HBw9.out.size))
                  clear hb
                  try go_wp2_with fail
                  refine hK.out _ _ ?_ (fun hHeld => ?_)
                  · ((try dsimp only); exact ⟨Kc HBwa.out HG8.out y0, Kc HBwa.out HG8.out y1⟩)
                  clear hK K
                  try simp only [Act.put, Qa, Qb, Qc, Qd, Qe, Qf]
                  refine Qt 11 (fun _ => ?_)
                  refine Qr 12 fun K hK => ?_
                  go_simp
                  have HBwb := Lib.hid (HBwa.out.alloc HBwa.out.size (.cells #[.int .i64 (intR a), .int .i64 (intR b2), .int .u64 (t : Int)] 96))
                  refine hK.out _ _ ?_ (fun hHeld => ?_)
                  · ((try dsimp only); exact ⟨Kc HBwb.out HG8.out y0, Kc HBwb.out HG8.out y1⟩)
                  clear hK K
                  try simp only [Act.put, Qa, Qb, Qc, Qd, Qe, Qf]
                  have HOb := Lib.hid (HO8.out.below HBwb.out)
                  have HBB := Lib.hid (show Be ≤ w8.heap.size by rw [HBQe.out]; exact HE8.out.1)
                  refine Qr 13 fun K hK => ?_
                  refine app1 _ (by rfl) _ _ 41 (by rfl) Be 96 i0 _ 3 24 Tryz.underlying41 hi hy0 hy1 hy2 (by kernel_rfl) (by decide) v L.length (Gr.cellsL L) (by rfl) HOb.out wa.heap.size [.int .i64 (intR a), .int .i64 (intR b2), .int .u64 (t : Int)] 96 (by rfl) (heap_alloc_new wa _) rfl (by intro u hu; simp at hu; rcases hu with rfl | rfl | rfl <;> rfl) (by have h1 := unE_length HUN.out; rw [List.length_take] at h1; have := HXMe.out; unfold maxLen; omega) (by have h1 := unE_length HUN.out; rw [List.length_take] at h1; have := HXMe.out; omega) (Nat.le_trans HBB.out HBwb.out.size) ?_
                  intro v2 w10 hA hbA hkp
                  have hgk := hkp gy (Nat.lt_of_lt_of_le HG8.out HBwb.out.size) (fun e => by have h1 := (World.ownsRow.lt HOW.out gy e).2; have h2 := HGW.out; omega)
                  have HGK := Lib.hid hgk
                  obtain ⟨va, vk, rfl⟩ := row_form hA
                  generalize hvn : L.length + 1 = vn at *
                  have HA := Lib.hid hA
                  have HVN := Lib.hid hvn
                  have HBA := Lib.hid hbA
                  clear hA hbA hvn hgk hkp
                  have HC10 := Lib.hid ((HBA.out.block cb (show cb < Be by rw [HBQe.out]; exact (Array.getElem?_eq_some_iff.1 HC6.out).1)).trans ((HBwb.out.block cb HCL.out).trans HC8.out))
                  have HY10 := Lib.hid (And.intro ((World.cell?_of_block (w := _) HGK.out).trans (Kc HBwb.out HG8.out y0)) ((World.cell?_of_block (w := _) HGK.out).trans (Kc HBwb.out HG8.out y1)))
                  refine hK.out _ _ ?_ (fun hHeld => ?_)
                  · ((try dsimp only); exact HY10.out)
                  clear hK K
                  try simp only [Act.put, Qa, Qb, Qc, Qd, Qe, Qf]
                  refine Qt 14 (fun _ => ?_)
                  have cf4 := free_of HC10.out 1
                  have e44 := (cells3 HC10.out).2.1
                  refine Qr 15 fun K hK => ?_
                  go_simp
                  have HC11 := Lib.hid (heap_setCell_same _ cb 1 _ _ (.slice va vn vk) HC10.out)
                  refine hK.out _ _ ?_ (fun hHeld => ?_)
                  · ((try dsimp only); exact ⟨(World.cell?_setCell_far _ _ _ _ HYB.out).trans HY10.out.1, (World.cell?_setCell_far _ _ _ _ HYB.out).trans HY10.out.2⟩)
                  clear hK K
                  try simp only [Act.put, Qa, Qb, Qc, Qd, Qe, Qf]
                  refine wpAnyH_done (by kernel_rfl) ?_ _
                  have HE11 := Lib.hid (((HE8.out.below HBwb.out).base (by rw [HBQe.out]; exact Nat.le_refl _) HBA.out).set 1 (.slice va vn vk))
                  have HB11 := Lib.hid ((((HB8.out.trans (HBwb.out.mono HB8.out.size))).trans (HBA.out.mono (by rw [HBQe.out]; exact HB6.out.size))).setCell (p := ⟨cb, 1, none⟩) HZC.out.2.2.1 (.slice va vn vk))
                  have HO11 := Lib.hid (show Gr.Own (w10.setCell ⟨cb, 1, none⟩ (.slice va vn vk)) Be 96 (.slice va vn vk) (L ++ [⟨intR a, intR b2, (t : Int)⟩]) by
                    unfold Gr.Own
                    rw [Gr.cellsL_snoc, List.length_append]
                    have hvn : L.length + [(⟨intR a, intR b2, (t : Int)⟩ : Gr.Ed)].length = vn := HVN.out
                    rw [hvn]
                    refine ownsRow_setCell_other HA.out (fun e => ?_) _
                    have h1 := (World.ownsRow.lt HA.out _ e).1
                    have h2 : cb < Be := by rw [HBQe.out]; exact (Array.getElem?_eq_some_iff.1 HC6.out).1
                    exact absurd h2 (Nat.not_lt.2 h1))
                  have HUS := Lib.hid (show unE (Xe.take (i + 1)) = some (L ++ [⟨intR a, intR b2, (t : Int)⟩]) by
                    rw [List.take_add_one, HQ.out]
                    exact unE_snoc HUN.out HXX.out)
                  clear e0 e1 e2 cf4 e44 y0 y1
                  have hN17 := HXMe.out
                  go_wp2_with fail
                  go_roundg (Ne - i)
                  case measure => have := HIK.out; omega
                  case rel => exact ⟨i + 1, _, _, by have := HIK.out; omega, by omega, by go_num, HUS.out, HC11, HO11.out, HE11.out, HB11.out⟩
                · go_simp
                  go_at_call 26
                  refine (int_any b2 (by have := HLY.out; omega) _).mono ?_
                  rintro e wa ⟨rfl, hb⟩
                  have HBwa := Lib.hid (HBw9.out.trans (hb.mono HBw9.out.size))
                  clear hb
                  try go_wp2_with fail
                  refine hK.out _ _ ?_ (fun hHeld => ?_)
                  · ((try dsimp only); exact ⟨Kc HBwa.out HG8.out y0, Kc HBwa.out HG8.out y1⟩)
                  clear hK K
                  try simp only [Act.put, Qa, Qb, Qc, Qd, Qe, Qf]
                  refine Qt 11 (fun _ => ?_)
                  refine wpAnyH_ready (rs := [1, 12]) (by kernel_rfl) (by simp) ?_
                  refine AllReadyH.cons rfl (fun K hK => ?_) (AllReadyH.cons rfl (fun K hK => ?_) AllReadyH.nil)
                  · go_simp
                    have ek := Kc HBwa.out HCL.out e1
                    try go_simp
                    refine hK.out _ _ ?_ (fun hHeld => ?_)
                    · ((try dsimp only); exact ⟨Kc HBwa.out HG8.out y0, Kc HBwa.out HG8.out y1⟩)
                    clear hK K
                    try simp only [Act.put, Qa, Qb, Qc, Qd, Qe, Qf]
                    clear ek
                    refine Qr 12 fun K hK => ?_
                    go_simp
                    have HBwb := Lib.hid (HBwa.out.alloc HBwa.out.size (.cells #[.int .i64 (intR a), .int .i64 (intR b2), .int .u64 (t : Int)] 96))
                    refine hK.out _ _ ?_ (fun hHeld => ?_)
                    · ((try dsimp only); exact ⟨Kc HBwb.out HG8.out y0, Kc HBwb.out HG8.out y1⟩)
                    clear hK K
                    try simp only [Act.put, Qa, Qb, Qc, Qd, Qe, Qf]
                    have HOb := Lib.hid (HO8.out.below HBwb.out)
                    have HBB := Lib.hid (show Be ≤ w8.heap.size by rw [HBQe.out]; exact HE8.out.1)
                    refine Qr 13 fun K hK => ?_
                    refine app1 _ (by rfl) _ _ 41 (by rfl) Be 96 i0 _ 3 24 Tryz.underlying41 hi hy0 hy1 hy2 (by kernel_rfl) (by decide) v L.length (Gr.cellsL L) (by rfl) HOb.out wa.heap.size [.int .i64 (intR a), .int .i64 (intR b2), .int .u64 (t : Int)] 96 (by rfl) (heap_alloc_new wa _) rfl (by intro u hu; simp at hu; rcases hu with rfl | rfl | rfl <;> rfl) (by have h1 := unE_length HUN.out; rw [List.length_take] at h1; have := HXMe.out; unfold maxLen; omega) (by have h1 := unE_length HUN.out; rw [List.length_take] at h1; have := HXMe.out; omega) (Nat.le_trans HBB.out HBwb.out.size) ?_
                    intro v2 w10 hA hbA hkp
                    have hgk := hkp gy (Nat.lt_of_lt_of_le HG8.out HBwb.out.size) (fun e => by have h1 := (World.ownsRow.lt HOW.out gy e).2; have h2 := HGW.out; omega)
                    have HGK := Lib.hid hgk
                    obtain ⟨va, vk, rfl⟩ := row_form hA
                    generalize hvn : L.length + 1 = vn at *
                    have HA := Lib.hid hA
                    have HVN := Lib.hid hvn
                    have HBA := Lib.hid hbA
                    clear hA hbA hvn hgk hkp
                    have HC10 := Lib.hid ((HBA.out.block cb (show cb < Be by rw [HBQe.out]; exact (Array.getElem?_eq_some_iff.1 HC6.out).1)).trans ((HBwb.out.block cb HCL.out).trans HC8.out))
                    have HY10 := Lib.hid (And.intro ((World.cell?_of_block (w := _) HGK.out).trans (Kc HBwb.out HG8.out y0)) ((World.cell?_of_block (w := _) HGK.out).trans (Kc HBwb.out HG8.out y1)))
                    refine hK.out _ _ ?_ (fun hHeld => ?_)
                    · ((try dsimp only); exact HY10.out)
                    clear hK K
                    try simp only [Act.put, Qa, Qb, Qc, Qd, Qe, Qf]
                    refine Qt 14 (fun _ => ?_)
                    have cf4 := free_of HC10.out 1
                    have e44 := (cells3 HC10.out).2.1
                    refine Qr 15 fun K hK => ?_
                    go_simp
                    have HC11 := Lib.hid (heap_setCell_same _ cb 1 _ _ (.slice va vn vk) HC10.out)
                    refine hK.out _ _ ?_ (fun hHeld => ?_)
                    · ((try dsimp only); exact ⟨(World.cell?_setCell_far _ _ _ _ HYB.out).trans HY10.out.1, (World.cell?_setCell_far _ _ _ _ HYB.out).trans HY10.out.2⟩)
                    clear hK K
                    try simp only [Act.put, Qa, Qb, Qc, Qd, Qe, Qf]
                    refine wpAnyH_done (by kernel_rfl) ?_ _
                    have HE11 := Lib.hid (((HE8.out.below HBwb.out).base (by rw [HBQe.out]; exact Nat.le_refl _) HBA.out).set 1 (.slice va vn vk))
                    have HB11 := Lib.hid ((((HB8.out.trans (HBwb.out.mono HB8.out.size))).trans (HBA.out.mono (by rw [HBQe.out]; exact HB6.out.size))).setCell (p := ⟨cb, 1, none⟩) HZC.out.2.2.1 (.slice va vn vk))
                    have HO11 := Lib.hid (show Gr.Own (w10.setCell ⟨cb, 1, none⟩ (.slice va vn vk)) Be 96 (.slice va vn vk) (L ++ [⟨intR a, intR b2, (t : Int)⟩]) by
                      unfold Gr.Own
                      rw [Gr.cellsL_snoc, List.length_append]
                      have hvn : L.length + [(⟨intR a, intR b2, (t : Int)⟩ : Gr.Ed)].length = vn := HVN.out
                      rw [hvn]
                      refine ownsRow_setCell_other HA.out (fun e => ?_) _
                      have h1 := (World.ownsRow.lt HA.out _ e).1
                      have h2 : cb < Be := by rw [HBQe.out]; exact (Array.getElem?_eq_some_iff.1 HC6.out).1
                      exact absurd h2 (Nat.not_lt.2 h1))
                    have HUS := Lib.hid (show unE (Xe.take (i + 1)) = some (L ++ [⟨intR a, intR b2, (t : Int)⟩]) by
                      rw [List.take_add_one, HQ.out]
                      exact unE_snoc HUN.out HXX.out)
                    clear e0 e1 e2 cf4 e44 y0 y1
                    have hN17 := HXMe.out
                    go_wp2_with fail
                    go_roundg (Ne - i)
                    case measure => have := HIK.out; omega
                    case rel => exact ⟨i + 1, _, _, by have := HIK.out; omega, by omega, by go_num, HUS.out, HC11, HO11.out, HE11.out, HB11.out⟩
                  · go_simp
                    have HBwb := Lib.hid (HBwa.out.alloc HBwa.out.size (.cells #[.int .i64 (intR a), .int .i64 (intR b2), .int .u64 (t : Int)] 96))
                    refine hK.out _ _ ?_ (fun hHeld => ?_)
                    · ((try dsimp only); exact ⟨Kc HBwb.out HG8.out y0, Kc HBwb.out HG8.out y1⟩)
                    clear hK K
                    try simp only [Act.put, Qa, Qb, Qc, Qd, Qe, Qf]
                    refine Qr 1 fun K hK => ?_
                    go_simp
                    have ek := Kc HBwb.out HCL.out e1
                    try go_simp
                    refine hK.out _ _ ?_ (fun hHeld => ?_)
                    · ((try dsimp only); exact ⟨Kc HBwb.out HG8.out y0, Kc HBwb.out HG8.out y1⟩)
                    clear hK K
                    try simp only [Act.put, Qa, Qb, Qc, Qd, Qe, Qf]
                    clear ek
                    have HOb := Lib.hid (HO8.out.below HBwb.out)
                    have HBB := Lib.hid (show Be ≤ w8.heap.size by rw [HBQe.out]; exact HE8.out.1)
                    refine Qr 13 fun K hK => ?_
                    refine app1 _ (by rfl) _ _ 41 (by rfl) Be 96 i0 _ 3 24 Tryz.underlying41 hi hy0 hy1 hy2 (by kernel_rfl) (by decide) v L.length (Gr.cellsL L) (by rfl) HOb.out wa.heap.size [.int .i64 (intR a), .int .i64 (intR b2), .int .u64 (t : Int)] 96 (by rfl) (heap_alloc_new wa _) rfl (by intro u hu; simp at hu; rcases hu with rfl | rfl | rfl <;> rfl) (by have h1 := unE_length HUN.out; rw [List.length_take] at h1; have := HXMe.out; unfold maxLen; omega) (by have h1 := unE_length HUN.out; rw [List.length_take] at h1; have := HXMe.out; omega) (Nat.le_trans HBB.out HBwb.out.size) ?_
                    intro v2 w10 hA hbA hkp
                    have hgk := hkp gy (Nat.lt_of_lt_of_le HG8.out HBwb.out.size) (fun e => by have h1 := (World.ownsRow.lt HOW.out gy e).2; have h2 := HGW.out; omega)
                    have HGK := Lib.hid hgk
                    obtain ⟨va, vk, rfl⟩ := row_form hA
                    generalize hvn : L.length + 1 = vn at *
                    have HA := Lib.hid hA
                    have HVN := Lib.hid hvn
                    have HBA := Lib.hid hbA
                    clear hA hbA hvn hgk hkp
                    have HC10 := Lib.hid ((HBA.out.block cb (show cb < Be by rw [HBQe.out]; exact (Array.getElem?_eq_some_iff.1 HC6.out).1)).trans ((HBwb.out.block cb HCL.out).trans HC8.out))
                    have HY10 := Lib.hid (And.intro ((World.cell?_of_block (w := _) HGK.out).trans (Kc HBwb.out HG8.out y0)) ((World.cell?_of_block (w := _) HGK.out).trans (Kc HBwb.out HG8.out y1)))
                    refine hK.out _ _ ?_ (fun hHeld => ?_)
                    · ((try dsimp only); exact HY10.out)
                    clear hK K
                    try simp only [Act.put, Qa, Qb, Qc, Qd, Qe, Qf]
                    refine Qt 14 (fun _ => ?_)
                    have cf4 := free_of HC10.out 1
                    have e44 := (cells3 HC10.out).2.1
                    refine Qr 15 fun K hK => ?_
                    go_simp
                    have HC11 := Lib.hid (heap_setCell_same _ cb 1 _ _ (.slice va vn vk) HC10.out)
                    refine hK.out _ _ ?_ (fun hHeld => ?_)
                    · ((try dsimp only); exact ⟨(World.cell?_setCell_far _ _ _ _ HYB.out).trans HY10.out.1, (World.cell?_setCell_far _ _ _ _ HYB.out).trans HY10.out.2⟩)
                    clear hK K
                    try simp only [Act.put, Qa, Qb, Qc, Qd, Qe, Qf]
                    refine wpAnyH_done (by kernel_rfl) ?_ _
                    have HE11 := Lib.hid (((HE8.out.below HBwb.out).base (by rw [HBQe.out]; exact Nat.le_refl _) HBA.out).set 1 (.slice va vn vk))
                    have HB11 := Lib.hid ((((HB8.out.trans (HBwb.out.mono HB8.out.size))).trans (HBA.out.mono (by rw [HBQe.out]; exact HB6.out.size))).setCell (p := ⟨cb, 1, none⟩) HZC.out.2.2.1 (.slice va vn vk))
                    have HO11 := Lib.hid (show Gr.Own (w10.setCell ⟨cb, 1, none⟩ (.slice va vn vk)) Be 96 (.slice va vn vk) (L ++ [⟨intR a, intR b2, (t : Int)⟩]) by
                      unfold Gr.Own
                      rw [Gr.cellsL_snoc, List.length_append]
                      have hvn : L.length + [(⟨intR a, intR b2, (t : Int)⟩ : Gr.Ed)].length = vn := HVN.out
                      rw [hvn]
                      refine ownsRow_setCell_other HA.out (fun e => ?_) _
                      have h1 := (World.ownsRow.lt HA.out _ e).1
                      have h2 : cb < Be := by rw [HBQe.out]; exact (Array.getElem?_eq_some_iff.1 HC6.out).1
                      exact absurd h2 (Nat.not_lt.2 h1))
                    have HUS := Lib.hid (show unE (Xe.take (i + 1)) = some (L ++ [⟨intR a, intR b2, (t : Int)⟩]) by
                      rw [List.take_add_one, HQ.out]
                      exact unE_snoc HUN.out HXX.out)
                    clear e0 e1 e2 cf4 e44 y0 y1
                    have hN17 := HXMe.out
                    go_wp2_with fail
                    go_roundg (Ne - i)
                    case measure => have := HIK.out; omega
                    case rel => exact ⟨i + 1, _, _, by have := HIK.out; omega, by omega, by go_num, HUS.out, HC11, HO11.out, HE11.out, HB11.out⟩
          · have HO := Lib.hid (show O = none by
              have h1 : unE Xe = none := by
                refine unE_none HQ.out ?_
                rw [HU1.out]
                rcases Y with _ | ⟨a, _ | ⟨b, _ | ⟨c, _ | ⟨d, r'⟩⟩⟩⟩
                · rfl
                · rfl
                · rfl
                · exact absurd rfl h3
                · rfl
              rw [HPR.out, HE0.out, h1]
              rfl)
            have h3' : ((Y.length : Int) == 3) = false := by rw [beq_eq_false_iff_ne]; omega
            clear h3 HU1
            generalize Y.length = ny at *
            obtain ⟨z0, z1, z2⟩ := cells3 HZ7.out
            have zf0 := free_of HZ7.out 0
            have zf1 := free_of HZ7.out 1
            have zf2 := free_of HZ7.out 2
            have HR5 := Lib.hid (cells3 (heap_setCell_same _ z 2 _ _ (.slice none 0 0) (heap_setCell_same _ z 1 _ _ (.slice none 0 0) (heap_setCell_same _ z 0 _ _ (.int .i64 0) HZ7.out))))
            go_wp2_with fail
            obtain ⟨r0, r1, r2⟩ := HR5.out
            have e := HO.out
            subst e
            exact bodyPost_ret (v := .tuple #[.agg #[.int .i64 0, .slice none 0 0, .slice none 0 0], .bool false]) (by simp [results, Tryz.results14, go_sem, r0, r1, r2]) rfl ⟨_, rfl, ⟨none, 0, none, 0, rfl, Gr.Rd.nil _, ⟨none, 0, rfl, by simp [g0], by simp, by simp [g0], .inl rfl⟩⟩, (((HB7.out).setCell (p := ⟨z, 0, none⟩) (Nat.le_of_eq HZZ.out.symm) _).setCell (p := ⟨z, 1, none⟩) (Nat.le_of_eq HZZ.out.symm) _).setCell (p := ⟨z, 2, none⟩) (Nat.le_of_eq HZZ.out.symm) _⟩
        · have hin : i = Ne := by omega
          subst hin
          have HUF := Lib.hid (show unE Xe = some L by rw [← HUN.out, HNe.out, List.take_length])
          have HE1 := Lib.hid (show GG = some ⟨n, L, (splR 44 c).map intR⟩ by rw [HE0.out, HUF.out]; rfl)
          have HOE := Lib.hid (show Gr.Own wr Be 96 v L from HOW.out)
          have HWE := Lib.hid (unE_wf HUF.out)
          have HLE := Lib.hid (show L.length ≤ 1000 by rw [unE_length HUF.out]; have := HXCe.out; omega)
          have HBb := Lib.hid (show w.heap.size ≤ Be ∧ z < Be ∧ cb < Be by rw [HBQe.out]; exact ⟨HB6.out.size, (Array.getElem?_eq_some_iff.1 HZ6.out).1, (Array.getElem?_eq_some_iff.1 HC6.out).1⟩)
          have HKCr := Lib.hid ((World.cell?_of_block (w := _) (HEX.out.2 gx HGL6.out (by have := HZC.out; omega))).trans HKC6.out)
          have HBr := HBR
          have HCr := HCI
          clear HIK HOW hi0 HEX hil hlt HE0 HUN
          obtain ⟨va, vk, rfl⟩ := row_form HOE.out
          generalize hne : L.length = ne at *
          have HNL := Lib.hid hne
          obtain ⟨c0, c1, c2⟩ := cells3 HCr.out
          have kc := HKCr.out
          have HSi := Lib.hid (fun w' => split_any c 44 (by have := HLA.out; omega) w')
          have hXL := splR_len 44 c
          have hXC := splR_count 44 c
          have hXN := splR_ne 44 c
          generalize splR 44 c = Xi at *
          have HXLi := Lib.hid (show ∀ x ∈ Xi, x.length ≤ 600 from fun x hx => by have := hXL x hx; have := HLA.out; omega)
          have HXCi := Lib.hid (show Xi.length ≤ 601 by have := HLA.out; omega)
          have HXNi := Lib.hid hXN
          clear hXL hXC hXN
          go_wp2_with fail
          go_at_call 25
          refine (HSi.out _).mono ?_
          rintro e wb6 ⟨vs, rfl, hown, hb⟩
          obtain ⟨hrd, gsi, ksi, rfl, hgs⟩ := hown.rd HXNi.out
          have HBb6 := Lib.hid (HBr.out.trans (hb.mono HBr.out.size))
          have HZb6 := Lib.hid ((hb.block z (Array.getElem?_eq_some_iff.1 HZr.out).1).trans HZr.out)
          have HCb6 := Lib.hid ((hb.block cb (Array.getElem?_eq_some_iff.1 HCr.out).1).trans HCr.out)
          have HBSi := Lib.hid hb
          have HNEi := Lib.hid (show gsi ≠ cb from fun e => by subst e; have h1 := (Array.getElem?_eq_some_iff.1 HCr.out).1; have h2 : wr.heap.size ≤ gsi := hgs; omega)
          have HRSi := Lib.hid hrd
          obtain ⟨Ni, hN⟩ : ∃ N, N = Xi.length := ⟨_, rfl⟩
          have HXMi := Lib.hid (show Ni ≤ 601 by rw [hN]; exact HXCi.out)
          rw [← hN]
          have HNi := Lib.hid hN
          obtain ⟨Bi, hBq⟩ : ∃ B, B = wb6.heap.size := ⟨_, rfl⟩
          have HBQi := Lib.hid hBq
          clear c0 c1 c2 kc hne hown hb hrd hgs hN hBq
          have HGSB := Lib.hid (show gsi < wb6.heap.size by obtain ⟨g9, o9, c9, e9, _, h9, _⟩ := HRSi.out; rw [← HNi.out] at e9; obtain ⟨rfl, rfl, rfl⟩ := slice_inj0 e9; exact h9)
          have HOE6 := Lib.hid (World.ownsRow.below0 HOE.out HBSi.out)
          go_wp2_with fail
          go_loopg [12] (Ni + 1) (fun k t wr => ∃ (i : Nat) (v : Value), i + k = Ni + 1 ∧ i ≤ Ni ∧ t = .int .i64 i ∧ Hid (wr.heap[cb]? = some (.cells #[.int .i64 n, .slice va ne vk, v] 44 (0, 0))) ∧ Gr.OwnI wr Bi 3 v ((Xi.take i).map intR) ∧ Ex cb wb6 wr ∧ Below w.heap.size w wr)
          case atStart => exact ⟨0, .slice none 0 0, by omega, by omega, rfl, HCb6, World.ownsRow_nil _ _ _ _, Ex.refl _ _, HBb6.out⟩
          case round =>
            obtain ⟨i, v, hik, hil, rfl, HCI, hown, hex, hbw⟩ := hrel
            have HIK := Lib.hid hik
            have HOW := Lib.hid hown
            have HEX := Lib.hid hex
            have HBR := Lib.hid hbw
            have hi0 : (0 : Int) ≤ (i : Int) := Int.natCast_nonneg _
            clear hik hown hex hbw
            by_cases hlt : i < Ni
            · have hi1 : (i : Int) < (Ni : Int) := by omega
              obtain ⟨q, hq⟩ : ∃ q, Xi[i]? = some q := ⟨_, List.getElem?_eq_getElem (by rw [← HNi.out]; exact hlt)⟩
              have HQ := Lib.hid hq
              have HQL := Lib.hid (HXLi.out q (List.mem_of_getElem? hq))
              obtain ⟨gs2, os2, ks2, e9, _, hg9, hcs⟩ := HEX.out.rd HRSi.out HNEi.out
              rw [← HNi.out] at e9
              obtain ⟨rfl, rfl, rfl⟩ := slice_inj0 e9
              have cq := hcs i q hq
              rw [Nat.zero_add] at cq
              clear hq hcs e9
              obtain ⟨c0, c1, c2⟩ := cells3 HCI.out
              have HGS := Lib.hid hg9
              have HCL := Lib.hid (Array.getElem?_eq_some_iff.1 HCI.out).1
              go_upto_region 21 with fail
              refine wp_region_held_drew (S := fun w' => w'.cell? ⟨gsi, i, none⟩ = some (.string (bs q))) (by kernel_rfl) ?_ (fun hHeld => ?_)
              · ((try dsimp only); exact cq)
              have HB07 := Lib.hid (show Below wr.heap.size wr wr.drew from below_drewN (Below.refl _ _) 1)
              refine Qt 0 (fun _ => ?_)
              refine Qt 2 (fun _ => ?_)
              refine Qt 3 (fun _ => ?_)
              refine Qt 4 (fun _ => ?_)
              refine Qt 5 (fun _ => ?_)
              refine wpAnyH_ready (rs := [1, 6]) (by kernel_rfl) (by simp) ?_
              refine AllReadyH.cons rfl (fun K hK => ?_) (AllReadyH.cons rfl (fun K hK => ?_) AllReadyH.nil)
              · go_simp
                have ek := Kc HB07.out HCL.out c2
                try go_simp
                refine hK.out _ _ ?_ (fun hHeld => ?_)
                · ((try dsimp only); exact Kc HB07.out HGS.out cq)
                clear hK K
                try simp only [Act.put, Qa, Qb, Qc, Qd, Qe, Qf]
                clear ek
                refine Qr 6 fun K hK => ?_
                go_simp
                go_at_call 26
                refine (int_any q (by have := HQL.out; omega) _).mono ?_
                rintro e wa ⟨rfl, hb⟩
                have HBwa := Lib.hid (HB07.out.trans (hb.mono HB07.out.size))
                clear hb
                try go_wp2_with fail
                refine hK.out _ _ ?_ (fun hHeld => ?_)
                · ((try dsimp only); exact Kc HBwa.out HGS.out cq)
                clear hK K
                try simp only [Act.put, Qa, Qb, Qc, Qd, Qe, Qf]
                refine Qr 7 fun K hK => ?_
                go_simp
                have HBwb := Lib.hid (HBwa.out.alloc HBwa.out.size (.cells #[.int .i64 (intR q)] 3))
                refine hK.out _ _ ?_ (fun hHeld => ?_)
                · ((try dsimp only); exact Kc HBwb.out HGS.out cq)
                clear hK K
                try simp only [Act.put, Qa, Qb, Qc, Qd, Qe, Qf]
                have HOb := Lib.hid (HOW.out.below HBwb.out)
                have HBB := Lib.hid (show Bi ≤ wr.heap.size by rw [HBQi.out]; exact HEX.out.1)
                refine Qr 8 fun K hK => ?_
                refine app1 _ (by rfl) _ _ 42 (by rfl) Bi 3 j0 _ 1 8 Tryz.underlying42 hj hu0 hu1 hu2 (by kernel_rfl) (by decide) v ((Xi.take i).map intR).length (Gr.intsL ((Xi.take i).map intR)) (by rfl) HOb.out wa.heap.size [.int .i64 (intR q)] 3 (by rfl) (heap_alloc_new wa _) rfl (by intro u hu; simp at hu; subst hu; rfl) (by have := HXMi.out; unfold maxLen; simp; omega) (by have := HXMi.out; simp; omega) (Nat.le_trans HBB.out HBwb.out.size) ?_
                intro v2 w10 hA hbA hkp
                have HGK := Lib.hid ((hbA.block gsi (show gsi < Bi by rw [HBQi.out]; exact HGSB.out)).trans (HBwb.out.block gsi HGS.out))
                obtain ⟨ua, uk, rfl⟩ := row_form hA
                generalize hvn : ((Xi.take i).map intR).length + 1 = vn at *
                have HA := Lib.hid hA
                have HVN := Lib.hid hvn
                have HBA := Lib.hid hbA
                clear hA hbA hvn hkp
                have HC10 := Lib.hid ((HBA.out.block cb (show cb < Bi by rw [HBQi.out]; exact (Array.getElem?_eq_some_iff.1 HCb6.out).1)).trans ((HBwb.out.block cb HCL.out).trans HCI.out))
                have HY10 := Lib.hid ((World.cell?_of_block (w := _) HGK.out).trans cq)
                refine hK.out _ _ ?_ (fun hHeld => ?_)
                · ((try dsimp only); exact HY10.out)
                clear hK K
                try simp only [Act.put, Qa, Qb, Qc, Qd, Qe, Qf]
                refine Qt 9 (fun _ => ?_)
                have cf4 := free_of HC10.out 2
                have e44 := (cells3 HC10.out).2.2
                refine Qr 10 fun K hK => ?_
                go_simp
                have HC11 := Lib.hid (heap_setCell_same _ cb 2 _ _ (.slice ua vn uk) HC10.out)
                refine hK.out _ _ ?_ (fun hHeld => ?_)
                · ((try dsimp only); exact (World.cell?_setCell_far _ _ _ _ (Ne.symm HNEi.out)).trans HY10.out)
                clear hK K
                try simp only [Act.put, Qa, Qb, Qc, Qd, Qe, Qf]
                refine wpAnyH_done (by kernel_rfl) ?_ _
                have HE11 := Lib.hid (((HEX.out.below HBwb.out).base (by rw [HBQi.out]; exact Nat.le_refl _) HBA.out).set 2 (.slice ua vn uk))
                have HB11 := Lib.hid ((((HBR.out.trans (HBwb.out.mono HBR.out.size))).trans (HBA.out.mono (by rw [HBQi.out]; exact HBb6.out.size))).setCell (p := ⟨cb, 2, none⟩) HZC.out.2.2.1 (.slice ua vn uk))
                have HO11 := Lib.hid (show Gr.OwnI (w10.setCell ⟨cb, 2, none⟩ (.slice ua vn uk)) Bi 3 (.slice ua vn uk) ((Xi.take (i + 1)).map intR) by
                  have e : (Xi.take (i + 1)).map intR = (Xi.take i).map intR ++ [intR q] := by rw [List.take_add_one, HQ.out, List.map_append]; rfl
                  unfold Gr.OwnI
                  have e2 : Gr.intsL ((Xi.take i).map intR ++ [intR q]) = Gr.intsL ((Xi.take i).map intR) ++ [.int .i64 (intR q)] := by unfold Gr.intsL; rw [List.map_append]; rfl
                  rw [e, e2, List.length_append]
                  have hvn : ((Xi.take i).map intR).length + [intR q].length = vn := HVN.out
                  rw [hvn]
                  refine ownsRow_setCell_other HA.out (fun e => ?_) _
                  have h1 := (World.ownsRow.lt HA.out _ e).1
                  have h2 : cb < Bi := by rw [HBQi.out]; exact (Array.getElem?_eq_some_iff.1 HCb6.out).1
                  exact absurd h2 (Nat.not_lt.2 h1))
                clear c0 c1 c2 cf4 e44 cq
                have hN17 := HXMi.out
                go_wp2_with fail
                go_roundg (Ni - i)
                case measure => have := HIK.out; omega
                case rel => exact ⟨i + 1, _, by have := HIK.out; omega, by omega, by go_num, HC11, HO11.out, HE11.out, HB11.out⟩
              · go_simp
                go_at_call 26
                refine (int_any q (by have := HQL.out; omega) _).mono ?_
                rintro e wa ⟨rfl, hb⟩
                have HBwa := Lib.hid (HB07.out.trans (hb.mono HB07.out.size))
                clear hb
                try go_wp2_with fail
                refine hK.out _ _ ?_ (fun hHeld => ?_)
                · ((try dsimp only); exact Kc HBwa.out HGS.out cq)
                clear hK K
                try simp only [Act.put, Qa, Qb, Qc, Qd, Qe, Qf]
                refine wpAnyH_ready (rs := [1, 7]) (by kernel_rfl) (by simp) ?_
                refine AllReadyH.cons rfl (fun K hK => ?_) (AllReadyH.cons rfl (fun K hK => ?_) AllReadyH.nil)
                · go_simp
                  have ek := Kc HBwa.out HCL.out c2
                  try go_simp
                  refine hK.out _ _ ?_ (fun hHeld => ?_)
                  · ((try dsimp only); exact Kc HBwa.out HGS.out cq)
                  clear hK K
                  try simp only [Act.put, Qa, Qb, Qc, Qd, Qe, Qf]
                  clear ek
                  refine Qr 7 fun K hK => ?_
                  go_simp
                  have HBwb := Lib.hid (HBwa.out.alloc HBwa.out.size (.cells #[.int .i64 (intR q)] 3))
                  refine hK.out _ _ ?_ (fun hHeld => ?_)
                  · ((try dsimp only); exact Kc HBwb.out HGS.out cq)
                  clear hK K
                  try simp only [Act.put, Qa, Qb, Qc, Qd, Qe, Qf]
                  have HOb := Lib.hid (HOW.out.below HBwb.out)
                  have HBB := Lib.hid (show Bi ≤ wr.heap.size by rw [HBQi.out]; exact HEX.out.1)
                  refine Qr 8 fun K hK => ?_
                  refine app1 _ (by rfl) _ _ 42 (by rfl) Bi 3 j0 _ 1 8 Tryz.underlying42 hj hu0 hu1 hu2 (by kernel_rfl) (by decide) v ((Xi.take i).map intR).length (Gr.intsL ((Xi.take i).map intR)) (by rfl) HOb.out wa.heap.size [.int .i64 (intR q)] 3 (by rfl) (heap_alloc_new wa _) rfl (by intro u hu; simp at hu; subst hu; rfl) (by have := HXMi.out; unfold maxLen; simp; omega) (by have := HXMi.out; simp; omega) (Nat.le_trans HBB.out HBwb.out.size) ?_
                  intro v2 w10 hA hbA hkp
                  have HGK := Lib.hid ((hbA.block gsi (show gsi < Bi by rw [HBQi.out]; exact HGSB.out)).trans (HBwb.out.block gsi HGS.out))
                  obtain ⟨ua, uk, rfl⟩ := row_form hA
                  generalize hvn : ((Xi.take i).map intR).length + 1 = vn at *
                  have HA := Lib.hid hA
                  have HVN := Lib.hid hvn
                  have HBA := Lib.hid hbA
                  clear hA hbA hvn hkp
                  have HC10 := Lib.hid ((HBA.out.block cb (show cb < Bi by rw [HBQi.out]; exact (Array.getElem?_eq_some_iff.1 HCb6.out).1)).trans ((HBwb.out.block cb HCL.out).trans HCI.out))
                  have HY10 := Lib.hid ((World.cell?_of_block (w := _) HGK.out).trans cq)
                  refine hK.out _ _ ?_ (fun hHeld => ?_)
                  · ((try dsimp only); exact HY10.out)
                  clear hK K
                  try simp only [Act.put, Qa, Qb, Qc, Qd, Qe, Qf]
                  refine Qt 9 (fun _ => ?_)
                  have cf4 := free_of HC10.out 2
                  have e44 := (cells3 HC10.out).2.2
                  refine Qr 10 fun K hK => ?_
                  go_simp
                  have HC11 := Lib.hid (heap_setCell_same _ cb 2 _ _ (.slice ua vn uk) HC10.out)
                  refine hK.out _ _ ?_ (fun hHeld => ?_)
                  · ((try dsimp only); exact (World.cell?_setCell_far _ _ _ _ (Ne.symm HNEi.out)).trans HY10.out)
                  clear hK K
                  try simp only [Act.put, Qa, Qb, Qc, Qd, Qe, Qf]
                  refine wpAnyH_done (by kernel_rfl) ?_ _
                  have HE11 := Lib.hid (((HEX.out.below HBwb.out).base (by rw [HBQi.out]; exact Nat.le_refl _) HBA.out).set 2 (.slice ua vn uk))
                  have HB11 := Lib.hid ((((HBR.out.trans (HBwb.out.mono HBR.out.size))).trans (HBA.out.mono (by rw [HBQi.out]; exact HBb6.out.size))).setCell (p := ⟨cb, 2, none⟩) HZC.out.2.2.1 (.slice ua vn uk))
                  have HO11 := Lib.hid (show Gr.OwnI (w10.setCell ⟨cb, 2, none⟩ (.slice ua vn uk)) Bi 3 (.slice ua vn uk) ((Xi.take (i + 1)).map intR) by
                    have e : (Xi.take (i + 1)).map intR = (Xi.take i).map intR ++ [intR q] := by rw [List.take_add_one, HQ.out, List.map_append]; rfl
                    unfold Gr.OwnI
                    have e2 : Gr.intsL ((Xi.take i).map intR ++ [intR q]) = Gr.intsL ((Xi.take i).map intR) ++ [.int .i64 (intR q)] := by unfold Gr.intsL; rw [List.map_append]; rfl
                    rw [e, e2, List.length_append]
                    have hvn : ((Xi.take i).map intR).length + [intR q].length = vn := HVN.out
                    rw [hvn]
                    refine ownsRow_setCell_other HA.out (fun e => ?_) _
                    have h1 := (World.ownsRow.lt HA.out _ e).1
                    have h2 : cb < Bi := by rw [HBQi.out]; exact (Array.getElem?_eq_some_iff.1 HCb6.out).1
                    exact absurd h2 (Nat.not_lt.2 h1))
                  clear c0 c1 c2 cf4 e44 cq
                  have hN17 := HXMi.out
                  go_wp2_with fail
                  go_roundg (Ni - i)
                  case measure => have := HIK.out; omega
                  case rel => exact ⟨i + 1, _, by have := HIK.out; omega, by omega, by go_num, HC11, HO11.out, HE11.out, HB11.out⟩
                · go_simp
                  have HBwb := Lib.hid (HBwa.out.alloc HBwa.out.size (.cells #[.int .i64 (intR q)] 3))
                  refine hK.out _ _ ?_ (fun hHeld => ?_)
                  · ((try dsimp only); exact Kc HBwb.out HGS.out cq)
                  clear hK K
                  try simp only [Act.put, Qa, Qb, Qc, Qd, Qe, Qf]
                  refine Qr 1 fun K hK => ?_
                  go_simp
                  have ek := Kc HBwb.out HCL.out c2
                  try go_simp
                  refine hK.out _ _ ?_ (fun hHeld => ?_)
                  · ((try dsimp only); exact Kc HBwb.out HGS.out cq)
                  clear hK K
                  try simp only [Act.put, Qa, Qb, Qc, Qd, Qe, Qf]
                  clear ek
                  have HOb := Lib.hid (HOW.out.below HBwb.out)
                  have HBB := Lib.hid (show Bi ≤ wr.heap.size by rw [HBQi.out]; exact HEX.out.1)
                  refine Qr 8 fun K hK => ?_
                  refine app1 _ (by rfl) _ _ 42 (by rfl) Bi 3 j0 _ 1 8 Tryz.underlying42 hj hu0 hu1 hu2 (by kernel_rfl) (by decide) v ((Xi.take i).map intR).length (Gr.intsL ((Xi.take i).map intR)) (by rfl) HOb.out wa.heap.size [.int .i64 (intR q)] 3 (by rfl) (heap_alloc_new wa _) rfl (by intro u hu; simp at hu; subst hu; rfl) (by have := HXMi.out; unfold maxLen; simp; omega) (by have := HXMi.out; simp; omega) (Nat.le_trans HBB.out HBwb.out.size) ?_
                  intro v2 w10 hA hbA hkp
                  have HGK := Lib.hid ((hbA.block gsi (show gsi < Bi by rw [HBQi.out]; exact HGSB.out)).trans (HBwb.out.block gsi HGS.out))
                  obtain ⟨ua, uk, rfl⟩ := row_form hA
                  generalize hvn : ((Xi.take i).map intR).length + 1 = vn at *
                  have HA := Lib.hid hA
                  have HVN := Lib.hid hvn
                  have HBA := Lib.hid hbA
                  clear hA hbA hvn hkp
                  have HC10 := Lib.hid ((HBA.out.block cb (show cb < Bi by rw [HBQi.out]; exact (Array.getElem?_eq_some_iff.1 HCb6.out).1)).trans ((HBwb.out.block cb HCL.out).trans HCI.out))
                  have HY10 := Lib.hid ((World.cell?_of_block (w := _) HGK.out).trans cq)
                  refine hK.out _ _ ?_ (fun hHeld => ?_)
                  · ((try dsimp only); exact HY10.out)
                  clear hK K
                  try simp only [Act.put, Qa, Qb, Qc, Qd, Qe, Qf]
                  refine Qt 9 (fun _ => ?_)
                  have cf4 := free_of HC10.out 2
                  have e44 := (cells3 HC10.out).2.2
                  refine Qr 10 fun K hK => ?_
                  go_simp
                  have HC11 := Lib.hid (heap_setCell_same _ cb 2 _ _ (.slice ua vn uk) HC10.out)
                  refine hK.out _ _ ?_ (fun hHeld => ?_)
                  · ((try dsimp only); exact (World.cell?_setCell_far _ _ _ _ (Ne.symm HNEi.out)).trans HY10.out)
                  clear hK K
                  try simp only [Act.put, Qa, Qb, Qc, Qd, Qe, Qf]
                  refine wpAnyH_done (by kernel_rfl) ?_ _
                  have HE11 := Lib.hid (((HEX.out.below HBwb.out).base (by rw [HBQi.out]; exact Nat.le_refl _) HBA.out).set 2 (.slice ua vn uk))
                  have HB11 := Lib.hid ((((HBR.out.trans (HBwb.out.mono HBR.out.size))).trans (HBA.out.mono (by rw [HBQi.out]; exact HBb6.out.size))).setCell (p := ⟨cb, 2, none⟩) HZC.out.2.2.1 (.slice ua vn uk))
                  have HO11 := Lib.hid (show Gr.OwnI (w10.setCell ⟨cb, 2, none⟩ (.slice ua vn uk)) Bi 3 (.slice ua vn uk) ((Xi.take (i + 1)).map intR) by
                    have e : (Xi.take (i + 1)).map intR = (Xi.take i).map intR ++ [intR q] := by rw [List.take_add_one, HQ.out, List.map_append]; rfl
                    unfold Gr.OwnI
                    have e2 : Gr.intsL ((Xi.take i).map intR ++ [intR q]) = Gr.intsL ((Xi.take i).map intR) ++ [.int .i64 (intR q)] := by unfold Gr.intsL; rw [List.map_append]; rfl
                    rw [e, e2, List.length_append]
                    have hvn : ((Xi.take i).map intR).length + [intR q].length = vn := HVN.out
                    rw [hvn]
                    refine ownsRow_setCell_other HA.out (fun e => ?_) _
                    have h1 := (World.ownsRow.lt HA.out _ e).1
                    have h2 : cb < Bi := by rw [HBQi.out]; exact (Array.getElem?_eq_some_iff.1 HCb6.out).1
                    exact absurd h2 (Nat.not_lt.2 h1))
                  clear c0 c1 c2 cf4 e44 cq
                  have hN17 := HXMi.out
                  go_wp2_with fail
                  go_roundg (Ni - i)
                  case measure => have := HIK.out; omega
                  case rel => exact ⟨i + 1, _, by have := HIK.out; omega, by omega, by go_num, HC11, HO11.out, HE11.out, HB11.out⟩
            · have hin : i = Ni := by omega
              subst hin
              have e : (Xi.take i).map intR = Xi.map intR := by rw [List.take_of_length_le (by rw [← HNi.out]; exact Nat.le_refl _)]
              have HOI := Lib.hid (e ▸ HOW.out)
              have HOEI := Lib.hid (row_ex HOE6.out HEX.out (fun e => by have h1 := (World.ownsRow.lt HOE.out _ e).1; have h2 := HBb.out; omega))
              have HZI := Lib.hid ((HEX.out.2 z (Array.getElem?_eq_some_iff.1 HZb6.out).1 (by have := HZC.out; omega)).trans HZb6.out)
              have HBI := Lib.hid (show z < Bi ∧ w.heap.size ≤ Bi by rw [HBQi.out]; exact ⟨(Array.getElem?_eq_some_iff.1 HZb6.out).1, HBb6.out.size⟩)
              have HWI := Lib.hid (show ∀ x ∈ Xi.map intR, -9223372036854775808 ≤ x ∧ x ≤ 9223372036854775807 by intro x hx; obtain ⟨q, _, rfl⟩ := List.mem_map.1 hx; exact intR_bd q)
              have HLI := Lib.hid (show (Xi.map intR).length ≤ 1000 by rw [List.length_map]; have := HXCi.out; omega)
              clear e
              generalize Xi.map intR = I at *
              obtain ⟨ua, uk, rfl⟩ := row_form HOI.out
              have hne := HNL.out
              subst hne
              have HRD := Lib.hid (And.intro (Gr.Own.rd (T := 96) HOEI.out HWE.out) (Gr.OwnI.rd (T := 3) HOI.out HWI.out))
              have HNW := Lib.hid (And.intro (row_new HOE.out HBb.out.1) (row_new HOI.out HBI.out.2))
              have HCG := Lib.hid (refGraph_any n HRD.out.1 HRD.out.2 HNB.out HLE.out HLI.out)
              obtain ⟨d0, d1, d2⟩ := cells3 HCI.out
              go_wp2_with fail
              go_at_call 19
              refine HCG.out.mono ?_
              rintro e wk ⟨rfl, hb⟩
              have HBk := Lib.hid (HBR.out.trans (hb.mono HBR.out.size))
              have HZk := Lib.hid ((hb.block z (Array.getElem?_eq_some_iff.1 HZI.out).1).trans HZI.out)
              have HCk := Lib.hid ((hb.block cb (Array.getElem?_eq_some_iff.1 HCI.out).1).trans HCI.out)
              have HRk := Lib.hid (And.intro (HRD.out.1.below hb) (HRD.out.2.below hb))
              have HZL := Lib.hid (show z < Be ∧ z < Bi from ⟨HBb.out.2.1, HBI.out.1⟩)
              clear hb d0 d1 d2
              by_cases h1 : graphL okG ⟨n, L, I⟩ = s
              · by_cases h0 : s = []
                · have HO := Lib.hid (show O = none by rw [HPR.out, HE1.out]; exact if_neg (fun e => e.1 h0))
                  have eT : ((bs (graphL okG ⟨n, L, I⟩)).toList == (bs s).toList) = true := by rw [bs_beq]; exact decide_eq_true h1
                  have eE : ((bs s).toList == []) = true := by rw [Lib.toList_data, bs_data, h0]; rfl
                  clear h0 h1
                  generalize graphL okG ⟨n, L, I⟩ = ll at *
                  obtain ⟨z0, z1, z2⟩ := cells3 HZk.out
                  have zf0 := free_of HZk.out 0
                  have zf1 := free_of HZk.out 1
                  have zf2 := free_of HZk.out 2
                  have HR5 := Lib.hid (cells3 (heap_setCell_same _ z 2 _ _ (.slice none 0 0) (heap_setCell_same _ z 1 _ _ (.slice none 0 0) (heap_setCell_same _ z 0 _ _ (.int .i64 0) HZk.out))))
                  go_wp2_with fail
                  obtain ⟨r0, r1, r2⟩ := HR5.out
                  have e := HO.out
                  subst e
                  exact bodyPost_ret (v := .tuple #[.agg #[.int .i64 0, .slice none 0 0, .slice none 0 0], .bool false]) (by simp [results, Tryz.results14, go_sem, r0, r1, r2]) rfl ⟨_, rfl, ⟨none, 0, none, 0, rfl, Gr.Rd.nil _, ⟨none, 0, rfl, by simp [g0], by simp, by simp [g0], .inl rfl⟩⟩, (((HBk.out).setCell (p := ⟨z, 0, none⟩) (Nat.le_of_eq HZZ.out.symm) _).setCell (p := ⟨z, 1, none⟩) (Nat.le_of_eq HZZ.out.symm) _).setCell (p := ⟨z, 2, none⟩) (Nat.le_of_eq HZZ.out.symm) _⟩
                · have HO := Lib.hid (show O = some ⟨n, L, I⟩ by rw [HPR.out, HE1.out]; exact if_pos ⟨h0, h1⟩)
                  have eT : ((bs (graphL okG ⟨n, L, I⟩)).toList == (bs s).toList) = true := by rw [bs_beq]; exact decide_eq_true h1
                  have eE : ((bs s).toList == []) = false := by rw [Lib.toList_data, bs_data, beq_eq_false_iff_ne]; exact h0
                  clear h0 h1
                  generalize graphL okG ⟨n, L, I⟩ = ll at *
                  obtain ⟨d0, d1, d2⟩ := cells3 HCk.out
                  obtain ⟨z0, z1, z2⟩ := cells3 HZk.out
                  have zf0 := free_of HZk.out 0
                  have zf1 := free_of HZk.out 1
                  have zf2 := free_of HZk.out 2
                  have HR5 := Lib.hid (cells3 (heap_setCell_same _ z 2 _ _ (.slice ua I.length uk) (heap_setCell_same _ z 1 _ _ (.slice va L.length vk) (heap_setCell_same _ z 0 _ _ (.int .i64 n) HZk.out))))
                  go_wp2_with fail
                  obtain ⟨r0, r1, r2⟩ := HR5.out
                  have e := HO.out
                  subst e
                  exact bodyPost_ret (v := .tuple #[.agg #[.int .i64 n, .slice va L.length vk, .slice ua I.length uk], .bool true]) (by simp [results, Tryz.results14, go_sem, r0, r1, r2]) rfl ⟨_, rfl, ⟨va, vk, ua, uk, rfl, rd_set3 HRk.out.1 (fun g n k e => by have h1 := (World.ownsRow.lt HOE.out g.block (by rw [e]; rfl)).1; have h2 := HZL.out; omega) _ _ _, rdi_set3 HRk.out.2 (fun g n k e => by have h1 := (World.ownsRow.lt HOI.out g.block (by rw [e]; rfl)).1; have h2 := HZL.out; omega) _ _ _⟩, (((HBk.out).setCell (p := ⟨z, 0, none⟩) (Nat.le_of_eq HZZ.out.symm) _).setCell (p := ⟨z, 1, none⟩) (Nat.le_of_eq HZZ.out.symm) _).setCell (p := ⟨z, 2, none⟩) (Nat.le_of_eq HZZ.out.symm) _⟩
              · have HO := Lib.hid (show O = none by rw [HPR.out, HE1.out]; exact if_neg (fun e => h1 e.2))
                have eT : ((bs (graphL okG ⟨n, L, I⟩)).toList == (bs s).toList) = false := by rw [bs_beq]; exact decide_eq_false h1
                clear h1
                generalize graphL okG ⟨n, L, I⟩ = ll at *
                obtain ⟨z0, z1, z2⟩ := cells3 HZk.out
                have zf0 := free_of HZk.out 0
                have zf1 := free_of HZk.out 1
                have zf2 := free_of HZk.out 2
                have HR5 := Lib.hid (cells3 (heap_setCell_same _ z 2 _ _ (.slice none 0 0) (heap_setCell_same _ z 1 _ _ (.slice none 0 0) (heap_setCell_same _ z 0 _ _ (.int .i64 0) HZk.out))))
                go_wp2_with fail
                obtain ⟨r0, r1, r2⟩ := HR5.out
                have e := HO.out
                subst e
                exact bodyPost_ret (v := .tuple #[.agg #[.int .i64 0, .slice none 0 0, .slice none 0 0], .bool false]) (by simp [results, Tryz.results14, go_sem, r0, r1, r2]) rfl ⟨_, rfl, ⟨none, 0, none, 0, rfl, Gr.Rd.nil _, ⟨none, 0, rfl, by simp [g0], by simp, by simp [g0], .inl rfl⟩⟩, (((HBk.out).setCell (p := ⟨z, 0, none⟩) (Nat.le_of_eq HZZ.out.symm) _).setCell (p := ⟨z, 1, none⟩) (Nat.le_of_eq HZZ.out.symm) _).setCell (p := ⟨z, 2, none⟩) (Nat.le_of_eq HZZ.out.symm) _⟩
  · have HO := Lib.hid (show O = none by
      rw [HPR.out, HGE.out]
      rcases X with _ | ⟨a, _ | ⟨b, _ | ⟨c, _ | ⟨d, r'⟩⟩⟩⟩
      · rfl
      · rfl
      · rfl
      · exact absurd rfl h3
      · rfl)
    have h3' : ((X.length : Int) == 3) = false := by rw [beq_eq_false_iff_ne]; omega
    clear h3 HGE hrd
    generalize X.length = nx at *
    obtain ⟨z0, z1, z2⟩ := cells3 HZ2.out
    have zf0 := free_of HZ2.out 0
    have zf1 := free_of HZ2.out 1
    have zf2 := free_of HZ2.out 2
    have HR5 := Lib.hid (cells3 (heap_setCell_same _ z 2 _ _ (.slice none 0 0) (heap_setCell_same _ z 1 _ _ (.slice none 0 0) (heap_setCell_same _ z 0 _ _ (.int .i64 0) HZ2.out))))
    go_wp2_with fail
    obtain ⟨r0, r1, r2⟩ := HR5.out
    have e := HO.out
    subst e
    exact bodyPost_ret (v := .tuple #[.agg #[.int .i64 0, .slice none 0 0, .slice none 0 0], .bool false]) (by simp [results, Tryz.results14, go_sem, r0, r1, r2]) rfl ⟨_, rfl, ⟨none, 0, none, 0, rfl, Gr.Rd.nil _, ⟨none, 0, rfl, by simp [g0], by simp, by simp [g0], .inl rfl⟩⟩, (((HB2.out).setCell (p := ⟨z, 0, none⟩) (Nat.le_of_eq HZZ.out.symm) _).setCell (p := ⟨z, 1, none⟩) (Nat.le_of_eq HZZ.out.symm) _).setCell (p := ⟨z, 2, none⟩) (Nat.le_of_eq HZZ.out.symm) _⟩
end Go.Proofs.YtdbaacalfbbdiaaGreatDoor.Sc
