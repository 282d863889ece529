/-
  marchlandref18: changes.
-/
import Derived.Test.YtdbaacalfbbdiaaGreatDoorScUn
import Derived.Test.YtdbaacalfbbdiaaGreatDoorJoined14
import Derived.BigQuiet
namespace Go.Proofs.YtdbaacalfbbdiaaGreatDoor.Sc
open Go.RowKit
set_option linter.unusedVariables false
set_option linter.unusedSimpArgs false
theorem join_snoc {c : UInt8} : ∀ {L : List Bs} (x : Bs), L ≠ [] → Lib.join (L ++ [x]) [c] = Lib.join L [c] ++ c :: x
  | [], _, h => absurd rfl h
  | [y], x, _ => by rw [List.singleton_append, join_two, Lib.join_one, Lib.join_one]
  | y :: z :: r, x, _ => by
    have ih := join_snoc (c := c) (L := z :: r) x (by simp)
    rw [List.cons_append, List.cons_append, join_two, join_two, ← List.cons_append, ih]
    simp
theorem itoaS_bs (n : Int) : Fault.itoaS n = bs (Lib.itoa n) := rfl
theorem numR_any (n : Int) (h0 : -9223372036854775808 ≤ n) (h1 : n ≤ 9223372036854775807) (w : World) :
    Calls Tryz.prog 38 #[.int .i64 n] w fun e w' => e = .returned (.string (bs (Lib.itoa n))) ∧ ∃ m, w' = w.drewN m := Fault.num_any n h0 h1 w
theorem timeR_any (t : Int) (ht : Stamp.U t) (w : World) :
    Calls Tryz.prog 39 #[.int .u64 t] w fun e w' => e = .returned (.string (bs (timeL t))) ∧ ∃ m, w' = w.drewN m := by
  have h := Stamp.refText_any t ht w
  rw [bs_time] at h
  exact h
theorem chL_len {x : Batch.Ch} (h : FitC x) (ht : Stamp.U x.t) : (chL x).length ≤ 66 := by
  have h1 := chJ_len ht
  rw [chJ_eq, if_pos h] at h1
  exact h1
theorem bs_app (a b : Bs) : bs a ++ bs b = bs (a ++ b) := by
  apply ByteArray.ext
  simp [bs]
set_option maxRecDepth 1000000 in
set_option maxHeartbeats 16000000 in
theorem refChs_any {w : World} {v : Value} {l : List Batch.Ch} (hv : Batch.Rd w v l) (hl : l.length ≤ 100000) :
    Calls Tryz.prog 40 #[v] w fun e w' => e = .returned (.string (bs (chsL l))) ∧ Below w.heap.size w w' := by
  obtain ⟨ao, cap, rfl, hlc, hcm, hwf, hcell⟩ := hv
  have HC := Lib.hid hcell
  have HW := Lib.hid hwf
  clear hcell hwf
  by_cases h0 : l = []
  · have HR := Lib.hid (show chsL l = [] from if_pos (.inl h0))
    have q : (l.length : Int) < 1 := by rw [h0]; simp
    clear h0
    generalize l.length = n at *
    go_enter Tryz.func40, Tryz.ntmps40
    go_wp2_with fail
    go_ret
    exact ⟨by rw [HR.out]; rfl, Below.refl _ _⟩
  have hpos : 0 < l.length := List.length_pos_iff.2 h0
  by_cases h16 : 16 < l.length
  · have HR := Lib.hid (show chsL l = [] from if_pos (.inr (.inl h16)))
    have q : ¬ (l.length : Int) < 1 := by omega
    have q2 : (16 : Int) < (l.length : Int) := by omega
    go_enter Tryz.func40, Tryz.ntmps40
    go_wp2_with fail
    go_ret
    exact ⟨by rw [HR.out]; rfl, Below.refl _ _⟩
  have HH := Lib.hid (And.intro h0 h16)
  have q : ¬ (l.length : Int) < 1 := by omega
  have q2 : ¬ (16 : Int) < (l.length : Int) := by omega
  obtain ⟨n, hn⟩ : ∃ n, n = l.length := ⟨_, rfl⟩
  rw [← hn] at q q2 ⊢
  have HN := Lib.hid hn
  have hn16 : n ≤ 16 := by omega
  clear h0 h16 hpos hn
  go_enter Tryz.func40, Tryz.ntmps40
  go_wp2_with fail
  go_loopg [3, 4] (n + 1) (fun k o t wr => ∃ (i : Nat) (A : Bs), i + k = n + 1 ∧ i ≤ n ∧ o = .string (bs A) ∧ t = .int .i64 i ∧ A = Lib.join ((l.take i).map chL) [44] ∧ (∀ x ∈ l.take i, FitC x) ∧ Below w.heap.size w wr)
  case atStart => exact ⟨0, [], by omega, by omega, rfl, rfl, rfl, by simp, Below.refl _ _⟩
  case round =>
    obtain ⟨i, A, hik, hil, rfl, rfl, hA, hfit, hbw⟩ := hrel
    have HIK := Lib.hid hik
    have HA := Lib.hid hA
    have HFT := Lib.hid hfit
    have HBW := Lib.hid hbw
    have hAz : (bs A).size ≤ 1100 := by
      rw [bs_size, hA]
      have h1 := join_bound (sep := [44]) (M := 66) ((l.take i).map chL) (by
        intro y hy
        obtain ⟨x, hx, rfl⟩ := List.mem_map.1 hy
        have hwx := HW.out x (List.mem_of_mem_take hx)
        exact chL_len (hfit x hx) ⟨hwx.t0, hwx.t1⟩) (by simp)
      rw [List.length_map, List.length_take] at h1
      have h2 : min i l.length ≤ 16 := by omega
      omega
    have hi0 : (0 : Int) ≤ (i : Int) := Int.natCast_nonneg _
    clear hik hA hfit hbw
    by_cases hlt : i < n
    · obtain ⟨x, hx⟩ : ∃ x, l[i]? = some x := ⟨_, List.getElem?_eq_getElem (by rw [← HN.out]; exact hlt)⟩
      have hwx := HW.out x (List.mem_of_getElem? hx)
      have hne : l ≠ [] := HH.out.1
      obtain ⟨b, off, hao, hcc⟩ := HC.out.resolve_left hne
      subst hao
      have qc := hcc i x hx
      have hbl := qc.lt
      obtain ⟨k0, k1, k2⟩ := qc.below HBW.out hbl
      have HU := Lib.hid (show Stamp.U x.t from ⟨hwx.t0, hwx.t1⟩)
      have HWX := Lib.hid hwx
      have HX := Lib.hid hx
      have HMX := Lib.hid (List.mem_of_getElem? hx)
      obtain ⟨p, t, d⟩ := x
      simp only at k0 k1 k2
      have hi1 : (i : Int) < (n : Int) := by omega
      clear hx hne hcc qc hbl hwx HC
      go_upto_region 8 with fail
      obtain ⟨w6, hw6⟩ : ∃ w6, w6 = wr.alloc (.cells #[.int .i64 p, .int .u64 t, .int .i64 d] 117) := ⟨_, rfl⟩
      have hx6 : w6.heap[wr.heap.size]? = some (.cells #[.int .i64 p, .int .u64 t, .int .i64 d] 117 (0, 0)) := by rw [hw6]; exact heap_alloc_new wr _
      have hb6 : Below wr.heap.size wr w6 := by rw [hw6]; exact (Below.refl _ _).alloc (Nat.le_refl _) _
      rw [← hw6]
      clear hw6 k0 k1 k2
      obtain ⟨s, hs⟩ : ∃ s, s = wr.heap.size := ⟨_, rfl⟩
      rw [← hs] at hx6 ⊢
      have a0 : w6.cell? ⟨s, 0, none⟩ = some (.int .i64 p) := by simp [World.cell?, hx6]
      have a1 : w6.cell? ⟨s, 1, none⟩ = some (.int .u64 t) := by simp [World.cell?, hx6]
      have a2 : w6.cell? ⟨s, 2, none⟩ = some (.int .i64 d) := by simp [World.cell?, hx6]
      have HB6 := Lib.hid (HBW.out.trans (hb6.mono HBW.out.size))
      clear hx6 hb6 hs
      by_cases hf : FitC ⟨p, t, d⟩
      · have hf' := hf
        unfold FitC FitN at hf'
        dsimp only at hf'
        have HFP := Lib.hid (decide_eq_true hf.1)
        have d1 : ¬ d < -1000000 := by omega
        have d2 : ¬ (1000000 : Int) < d := by omega
        have HND := Lib.hid (fun W => numR_any d (by omega) (by omega) W)
        have HNP := Lib.hid (fun W => numR_any p (by omega) (by omega) W)
        have HNT := Lib.hid (fun W => timeR_any t HU.out W)
        have sp : (bs (Lib.itoa p)).size ≤ 21 := by rw [bs_size]; exact itoa_len (by omega) (by omega)
        have sd : (bs (Lib.itoa d)).size ≤ 21 := by rw [bs_size]; exact itoa_len (by omega) (by omega)
        have st : (bs (timeL t)).size ≤ 20 := by rw [bs_size]; exact timeL_len HU.out
        have HFX := Lib.hid hf
        have HCH := Lib.hid (show chL ⟨p, t, d⟩ = Lib.itoa p ++ 47 :: (timeL t ++ 47 :: Lib.itoa d) from rfl)
        have h44 := Lib.hid (show ({ data := #[44] } : ByteArray) = bs [44] from rfl)
        have h47 := Lib.hid (show ({ data := #[47] } : ByteArray) = bs [47] from rfl)
        clear hf hf'
        obtain ⟨SP, hSP⟩ : ∃ S, S = bs (Lib.itoa p) := ⟨_, rfl⟩
        obtain ⟨SD, hSD⟩ : ∃ S, S = bs (Lib.itoa d) := ⟨_, rfl⟩
        obtain ⟨ST, hST⟩ : ∃ S, S = bs (timeL t) := ⟨_, rfl⟩
        obtain ⟨SA, hSA⟩ : ∃ S, S = bs A := ⟨_, rfl⟩
        rw [← hSP] at sp HNP
        rw [← hSD] at sd HND
        rw [← hST] at st HNT
        rw [← hSA] at hAz ⊢
        have HQ := Lib.hid (And.intro hSP (And.intro hSD (And.intro hST hSA)))
        clear hSP hSD hST hSA
        go_wp2_with fail
        go_at_call 37
        refine (fits_any p _).mono ?_
        rintro e w7 ⟨rfl, rfl⟩
        rw [HFP.out]
        by_cases hz : i = 0
        · subst hz
          go_upto_region 12 with fail
          go_quiet (first
            | (go_at_call 38; first | with_reducible exact Calls.quiet_of (HNP.out _) | with_reducible exact Calls.quiet_of (HND.out _))
            | (go_at_call 39; exact Calls.quiet_of (HNT.out _)))
          go_wp2_with fail
          go_roundg (n - 0)
          case measure => have := HIK.out; omega
          case rel =>
            refine ⟨1, chL ⟨p, t, d⟩, by have := HIK.out; omega, by omega, ?_, by go_num, ?_, ?_, below_drewN HB6.out _⟩
            · have hA0 : A = [] := HA.out
              rw [HCH.out, h47.out, HQ.out.1, HQ.out.2.1, HQ.out.2.2.1, HQ.out.2.2.2, hA0, bs_app, bs_app, bs_app, bs_app, bs_app]
              simp
            · have e : l.take 1 = [⟨p, t, d⟩] := by rw [List.take_add_one, HX.out]; rfl
              rw [e, List.map_singleton, Lib.join_one]
            · have e : l.take 1 = [⟨p, t, d⟩] := by rw [List.take_add_one, HX.out]; rfl
              rw [e]
              intro x hx
              obtain rfl := List.mem_singleton.1 hx
              exact HFX.out
        · have hz1 : (0 : Int) < (i : Int) := by omega
          go_upto_region 12 with fail
          go_quiet (first
            | (go_at_call 38; first | with_reducible exact Calls.quiet_of (HNP.out _) | with_reducible exact Calls.quiet_of (HND.out _))
            | (go_at_call 39; exact Calls.quiet_of (HNT.out _)))
          go_wp2_with fail
          go_roundg (n - i)
          case measure => have := HIK.out; omega
          case rel =>
            refine ⟨i + 1, A ++ 44 :: chL ⟨p, t, d⟩, by have := HIK.out; omega, by omega, ?_, by go_num, ?_, ?_, below_drewN HB6.out _⟩
            · rw [HCH.out, h44.out, h47.out, HQ.out.1, HQ.out.2.1, HQ.out.2.2.1, HQ.out.2.2.2, bs_app, bs_app, bs_app, bs_app, bs_app, bs_app]
              simp
            · have e : l.take (i + 1) = l.take i ++ [⟨p, t, d⟩] := by rw [List.take_add_one, HX.out]; rfl
              have hne : (l.take i).map chL ≠ [] := by
                intro h
                have h1 := congrArg List.length h
                rw [List.length_map, List.length_take] at h1
                have h2 := HN.out
                rw [List.length_nil] at h1
                omega
              rw [e, List.map_append, List.map_singleton, join_snoc _ hne, ← HA.out]
            · have e : l.take (i + 1) = l.take i ++ [⟨p, t, d⟩] := by rw [List.take_add_one, HX.out]; rfl
              rw [e]
              intro x hx
              rcases List.mem_append.1 hx with hx | hx
              · exact HFT.out x hx
              · obtain rfl := List.mem_singleton.1 hx
                exact HFX.out
      · have HR := Lib.hid (show chsL l = [] from if_pos (.inr (.inr fun h => hf (h _ HMX.out))))
        by_cases hp : FitN p
        · have HFP := Lib.hid (decide_eq_true hp)
          by_cases hd1 : d < -1000000
          · go_wp2_with fail
            go_at_call 37
            refine (fits_any p _).mono ?_
            rintro e w7 ⟨rfl, rfl⟩
            rw [HFP.out]
            go_wp2_with fail
            go_ret
            exact ⟨by rw [HR.out]; rfl, HB6.out⟩
          · have hd2 : (1000000 : Int) < d := Int.not_le.1 fun h => hf ⟨hp, by dsimp only; omega, h⟩
            go_wp2_with fail
            go_at_call 37
            refine (fits_any p _).mono ?_
            rintro e w7 ⟨rfl, rfl⟩
            rw [HFP.out]
            go_wp2_with fail
            go_ret
            exact ⟨by rw [HR.out]; rfl, HB6.out⟩
        · have HFP := Lib.hid (decide_eq_false hp)
          clear hf hp
          go_wp2_with fail
          go_at_call 37
          refine (fits_any p _).mono ?_
          rintro e w7 ⟨rfl, rfl⟩
          rw [HFP.out]
          go_wp2_with fail
          go_ret
          exact ⟨by rw [HR.out]; rfl, HB6.out⟩
    · have hin : i = n := by omega
      have HR := Lib.hid (show chsL l = A by
        have e : l.take i = l := List.take_of_length_le (by rw [hin, HN.out]; exact Nat.le_refl _)
        have h1 := HA.out
        have h2 := HFT.out
        rw [e] at h1 h2
        rw [h1]
        exact if_neg (by rintro (h | h | h); exact HH.out.1 h; exact HH.out.2 h; exact h h2))
      subst hin
      go_wp2_with fail
      go_ret
      exact ⟨by rw [HR.out]; rfl, HBW.out⟩
end Go.Proofs.YtdbaacalfbbdiaaGreatDoor.Sc
