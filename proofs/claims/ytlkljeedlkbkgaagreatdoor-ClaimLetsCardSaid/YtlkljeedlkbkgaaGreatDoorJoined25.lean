/-
  FOR ClaimLets, PLAIN MATHEMATICS: what Fix leaves held is little; a stamp may be where the front of its port is not behind it; one change.
  PACKAGE marchlandref04: Of (marchlandref03), Right, Least, Apply, Fix.
-/
import Derived.Test.YtlkljeedlkbkgaaGreatDoorClTo
import Derived.Test.YtlkljeedlkbkgaaGreatDoorClTold
import Derived.Test.YtlkljeedlkbkgaaGreatDoorJoined23
import Derived.Test.YtlkljeedlkbkgaaGreatDoorJoined24
import Derived.Test.YtlkljeedlkbkgaaGreatDoorJoined7
namespace Go.Proofs.YtlkljeedlkbkgaaGreatDoor.Cl
open Go.RowKit Gr
set_option linter.unusedVariables false
theorem bagFix_tot {l : List Batch.Ch} (h : ∀ x ∈ l, x.Wf) (p t : Int) : 0 ≤ Batch.tot (Batch.bagFixL l) p t ∧ Batch.tot (Batch.bagFixL l) p t ≤ 60 := by
  unfold Batch.bagFixL Batch.fixL Batch.sumsR
  split
  · exact ⟨Int.le_refl _, show (0 : Int) ≤ 60 by decide⟩
  · have hd : ∀ x ∈ (((l.take 12).map Batch.fixB).take 12).map Batch.fixC, 1 ≤ x.d ∧ x.d ≤ 5 := by
      intro x hx
      obtain ⟨y, hy, rfl⟩ := List.mem_map.1 hx
      obtain ⟨q, hq, rfl⟩ := List.mem_map.1 (List.mem_of_mem_take hy)
      have := Batch.fixB_d q
      unfold Batch.fixC
      simp only
      rw [Int.tmod_eq_emod_of_nonneg (by omega)]
      omega
    have hl : ((((l.take 12).map Batch.fixB).take 12).map Batch.fixC).length ≤ 12 := by simp; omega
    have hwf : ∀ x ∈ (((l.take 12).map Batch.fixB).take 12).map Batch.fixC, x.Wf := by
      intro x hx
      obtain ⟨y, hy, rfl⟩ := List.mem_map.1 hx
      exact Batch.fixC_wf (Batch.bagFix_wf h y (List.mem_of_mem_take hy))
    generalize (((l.take 12).map Batch.fixB).take 12).map Batch.fixC = L at hd hl hwf
    have h1 := Batch.tot_pos (fun x hx => by have := hd x hx; omega) p t (l := L)
    have h2 := Batch.tot_bound (B := 5) (fun x hx => by have := hd x hx; omega) (by decide) p t (l := L)
    rw [(Batch.sumL_is hwf).tot, Batch.wr_id (by omega) (by omega)]
    exact ⟨h1, by omega⟩
theorem fixBL_wf0 {B : List Batch.Ch} {m : Nat} (hm : 1 ≤ m ∧ m ≤ 64) (hB : ∀ x ∈ B, x.Wf) : ∀ x ∈ B.map (fixP m), x.Wf := fun x hx => by
  obtain ⟨y, hy, rfl⟩ := List.mem_map.1 hx
  exact fixP_wf hm (hB y hy)
theorem fixBL_nice {B : List Batch.Ch} {m : Nat} (hm : 1 ≤ m ∧ m ≤ 64) (hB : ∀ x ∈ B, x.Wf) : Batch.Nice (fixBL B m) := Batch.bagFix_nice (fixBL_wf0 hm hB)
theorem fixBL_tot {B : List Batch.Ch} {m : Nat} (hm : 1 ≤ m ∧ m ≤ 64) (hB : ∀ x ∈ B, x.Wf) (p t : Int) : 0 ≤ Batch.tot (fixBL B m) p t ∧ Batch.tot (fixBL B m) p t ≤ 60 := bagFix_tot (fixBL_wf0 hm hB) p t
theorem fixBL_hold {B : List Batch.Ch} {m : Nat} (hm : 1 ≤ m ∧ m ≤ 64) (hB : ∀ x ∈ B, x.Wf) : HoldP (fixBL B m) := by
  refine ⟨Batch.bagFix_bag (fixBL_wf0 hm hB), fun z hz => ?_⟩
  have e := Batch.tot_one (fixBL_nice hm hB).right.2 hz
  have := (fixBL_tot hm hB z.p z.t).2
  omega
theorem plus_same (a b : Int) : Stamp.plusF a b = plusN a b := rfl
/-- Something that is held lets a stamp be: the front of its port is not behind it. -/
theorem lets_front {A : List Batch.Ch} {M : Nat → Nat → Int} {m p : Nat} {v t : Int} (d : Int) (hp : p < m) (hf : Fr.FrontU A M m p v) (ht : t < 18446744073709551615) : letsB M m A ⟨(p : Int), t, d⟩ = true ↔ v ≤ t := by
  rw [letsB_iff]
  constructor
  · rintro ⟨x, hx, hl⟩
    unfold letB at hl
    obtain ⟨h0, h1, h2⟩ := of_decide_eq_true hl
    unfold Stamp.reachB at h2
    obtain ⟨h3, h4⟩ := of_decide_eq_true h2
    have h5 := hf.2.1 x hx h0 h1
    rw [plus_same] at h4
    simp only [Int.toNat_natCast] at h4
    exact Int.le_trans h5 h4
  · intro hv
    rcases hf.2.2 with e | ⟨x, hx, h0, h1, e⟩
    · omega
    · refine ⟨x, hx, ?_⟩
      unfold letB
      refine decide_eq_true ⟨h0, h1, ?_⟩
      unfold Stamp.reachB
      simp only [Int.toNat_natCast]
      have e' : Stamp.plusF x.t (M x.p.toNat p) = v := by rw [plus_same]; exact e.symm
      exact decide_eq_true ⟨by rw [e']; omega, by rw [e']; exact hv⟩
theorem one_pack {p : Nat} {t d : Int} (hp : p < 64) (ht : t < 18446744073709551615) (hd : d = 1 ∨ d = -1) : Batch.packE [⟨(p : Int), t, d⟩] = 0 ∧ Batch.packR [⟨(p : Int), t, d⟩] = [⟨(p : Int), t, d⟩] := by
  have ho : Batch.overB d = false := by rcases hd with rfl | rfl <;> decide
  have hw : Batch.firstWrong [⟨(p : Int), t, d⟩] = 0 := by
    refine Batch.firstWrong_none fun x hx => ?_
    simp at hx
    subst hx
    unfold Batch.wrongN
    rw [if_neg (by dsimp only; omega), if_neg (by dsimp only; omega)]
    simp [ho]
  have hk : Batch.overK [⟨(p : Int), t, d⟩] = false := by
    simp [Batch.overK, Batch.tab, Batch.add, ho]
  have hs := Batch.sums_ok hk
  have hl : Batch.sumL [⟨(p : Int), t, d⟩] = [⟨(p : Int), t, d⟩] := by
    have : Batch.nzB ⟨(p : Int), t, d⟩ = true := by rcases hd with rfl | rfl <;> rfl
    simp [Batch.sumL, Batch.tab, Batch.add, this]
  constructor
  · unfold Batch.packE
    rw [if_neg (by simp), hw, if_neg (by simp)]
    exact hs.1
  · unfold Batch.packR
    rw [hw, if_neg (by simp), hs.2, hl]
theorem up_plus {A B : List Batch.Ch} {M : Nat → Nat → Int} {m p : Nat} {v t : Int} (hp : p < m) (hf : Fr.FrontU A M m p v) (ht : t < 18446744073709551615) (hT : 0 ≤ Batch.tot B p t ∧ Batch.tot B p t ≤ 60) : upE B A M m ⟨(p : Int), t, 1⟩ = if v ≤ t then 0 else 5 := by
  have hi := lets_front 1 hp hf ht
  by_cases h : v ≤ t
  · rw [if_pos h]
    exact upE_ok (by dsimp only; omega) (fun _ => hi.2 h) (by dsimp only; omega) (by dsimp only; omega)
  · rw [if_neg h]
    refine upE_lets (by dsimp only; omega) (by dsimp only; omega) ?_
    cases e : letsB M m A ⟨(p : Int), t, 1⟩
    · rfl
    · exact absurd (hi.1 e) h
theorem up_minus {A B : List Batch.Ch} {M : Nat → Nat → Int} {m p : Nat} {t : Int} (hp : p < m) (hT : 0 ≤ Batch.tot B p t ∧ Batch.tot B p t ≤ 60) : upE B A M m ⟨(p : Int), t, -1⟩ = if 0 < Batch.tot B p t then 0 else 5 := by
  by_cases h : 0 < Batch.tot B p t
  · rw [if_pos h]
    exact upE_ok (by dsimp only; omega) (fun e => absurd e (by dsimp only; omega)) (by dsimp only; omega) (by dsimp only; omega)
  · rw [if_neg h]
    exact upE_few (by dsimp only; omega) (by dsimp only; omega)
/-- Update of one change: what it says, how many changes it answers. -/
theorem update_one {w : World} {vh vb vp vl : Value} {H : List Ed} {B : List Batch.Ch} {m base p : Nat} {t d : Int} {M : Nat → Nat → Int} (good : Prop) [Decidable good] (ho : OwnAt w vh vb H B) (hl : H.length ≤ 10000) (hlb : B.length ≤ 10000) (hB : HoldP B) (hv : Batch.Sl w vl [⟨(p : Int), t, d⟩]) (hM : Mat w base vp m M) (hMU : MU M m) (hm : m ≤ 64) (hp : p < m) (ht : t < 18446744073709551615) (hd : d = 1 ∨ d = -1)
    (hup : upE B (allL H B) M m ⟨(p : Int), t, d⟩ = if good then 0 else 5) :
    Calls Tryz.prog 20 #[.agg #[vh, vb], vp, vl] w fun e w' => ∃ a1 n1 c1 a2 n2 c2 ao cap n er, e = .returned (.tuple #[.agg #[.slice a1 n1 c1, .slice a2 n2 c2], .slice ao n cap, er]) ∧ ((good ∧ n = 1 ∧ er = .nilIface) ∨ (¬ good ∧ n = 0 ∧ ∃ u z, er = .iface u z)) ∧ Below w.heap.size w w' := by
  obtain ⟨h1, h2⟩ := one_pack (p := p) (t := t) (d := d) (by omega) ht hd
  by_cases hg : good
  · rw [if_pos hg] at hup
    refine (update_ok ho hl hlb hB hv h1 hM hMU hm (by rw [h2]; intro c hc; simp at hc; subst hc; exact hup)).mono ?_
    rintro e w' ⟨x, y, v, rfl, hox, hoy, hov, hb⟩
    rw [h2] at hov
    obtain ⟨a1, c1, rfl⟩ := Fr.formE hox
    obtain ⟨a2, n2, c2, rfl⟩ : ∃ a2 n2 c2, y = .slice a2 n2 c2 := by
      rcases hoy.form with ⟨h, h3⟩ | ⟨g, cap, hv, _⟩
      · exact ⟨_, _, _, h3⟩
      · exact ⟨_, _, _, hv⟩
    rcases hov.form with ⟨h, h3⟩ | ⟨g, cap, hv, _⟩
    · simp at h
    · exact ⟨a1, _, c1, a2, n2, c2, some ⟨g, 0, none⟩, cap, 1, .nilIface, by rw [hv]; rfl, .inl ⟨hg, rfl, rfl⟩, hb⟩
  · rw [if_neg hg] at hup
    refine (update_bad (n0 := 0) (k := 5) (c0 := ⟨(p : Int), t, d⟩) ho hl hlb hB hv h1 hM hMU hm (by rw [h2]; rfl) hup (by decide) (fun j c hj => absurd hj (Nat.not_lt_zero _))).mono ?_
    obtain ⟨a1, c1, e1, _⟩ := ho.hands
    obtain ⟨a2, c2, e2, _⟩ := ho.held
    subst e1 e2
    rintro e w' ⟨ve, rfl, her, hb⟩
    rcases her with ⟨h, _⟩ | ⟨_, _, u, z, rfl⟩
    · exact absurd h (by decide)
    · exact ⟨_, _, _, _, _, _, _, _, _, _, rfl, .inr ⟨hg, rfl, u, z, rfl⟩, hb⟩
end Go.Proofs.YtlkljeedlkbkgaaGreatDoor.Cl
namespace Go.Proofs.YtlkljeedlkbkgaaGreatDoor.Batch
open Go.RowKit Go.Lib
set_option linter.unusedVariables false

set_option maxRecDepth 1000000 in
set_option maxHeartbeats 4000000 in
theorem refof_any {w : World} {v : Value} {l : List Ch} (p t : Int) (hv : Rd w v l) (hr : l.Pairwise Lt) :
    Calls Tryz.prog 21 #[v, .int .i64 p, .int .u64 t] w fun e w' => e = .returned (.int .i64 (tot l p t)) ∧ Below w.heap.size w w' := by
  obtain ⟨ao, cap, rfl, hlc, hcm, _, hcell⟩ := hv
  have HC := Lib.hid hcell
  have HR := Lib.hid hr
  have hlen : l.length ≤ 9223372036854775807 := by omega
  clear hcell hlc hcm hr
  go_enter Tryz.func21, Tryz.ntmps21
  go_wp2
  go_loopg [7] l.length (fun k s wr => ∃ i : Nat, i + k = l.length ∧ s = .int .i64 i ∧ (∀ y ∈ l.take i, ¬ (y.p = p ∧ y.t = t)) ∧ wr = w)
  case atStart => exact ⟨0, by omega, rfl, by simp, rfl⟩
  case round =>
    obtain ⟨i, hik, rfl, hok, hwr⟩ := hrel
    subst wr
    have HIK := Lib.hid hik
    have HOK := Lib.hid hok
    clear hok hik
    by_cases hlt1 : i < l.length
    · obtain ⟨x, hx, hxm⟩ := at_of hlt1
      obtain ⟨b, off, hao, hcc⟩ := HC.out.resolve_left (by intro e; rw [e] at hlt1; simp at hlt1)
      subst hao
      obtain ⟨c0, c1, c2⟩ := hcc i x hx
      have HX := Lib.hid hx
      have HXM := Lib.hid hxm
      have hi0' : (0 : Int) ≤ (i : Int) := Int.natCast_nonneg _
      have hi1 : (i : Int) < (l.length : Int) := by omega
      have HLT := Lib.hid hlt1
      clear hx hxm hcc HC
      have HSTEP := Lib.hid (show ¬ (x.p = p ∧ x.t = t) → ∀ y ∈ l.take (i + 1), ¬ (y.p = p ∧ y.t = t) by
        intro hn y hy
        rw [take_succ' HX.out] at hy
        rcases List.mem_append.1 hy with hy | hy
        · exact HOK.out y hy
        · simp at hy; subst hy; exact hn)
      by_cases hp : x.p = p
      · have hpb : (x.p == p) = true := by rw [beq_iff_eq]; exact hp
        by_cases ht : x.t = t
        · have htb : (x.t == t) = true := by rw [beq_iff_eq]; exact ht
          have HT := Lib.hid (show tot l p t = x.d from tot_key HR.out HXM.out hp ht)
          obtain ⟨xp, xt, xd⟩ := x
          simp only at c0 c1 c2 hpb htb
          clear hp ht
          go_wp2_with fail
          try (go_quiet (fail))
          try (go_wp2_with fail)
          go_ret
          exact ⟨by rw [HT.out]; rfl, by first | exact Below.refl _ _ | exact below_drewN (Below.refl _ _) _⟩
        · have htb : (x.t == t) = false := by rw [beq_eq_false_iff_ne]; exact ht
          have HS := Lib.hid (HSTEP.out (fun h => ht h.2))
          obtain ⟨xp, xt, xd⟩ := x
          simp only at c0 c1 c2 hpb htb
          clear hp ht
          go_wp2_with fail
          go_roundg (gk - 1)
          case measure => have := HIK.out; have := HLT.out; omega
          case rel => exact ⟨i + 1, by have := HIK.out; have := HLT.out; omega, by go_num, HS.out, rfl⟩
      · have hpb : (x.p == p) = false := by rw [beq_eq_false_iff_ne]; exact hp
        have HS := Lib.hid (HSTEP.out (fun h => hp h.1))
        obtain ⟨xp, xt, xd⟩ := x
        simp only at c0 c1 c2 hpb
        clear hp
        go_wp2_with fail
        go_roundg (gk - 1)
        case measure => have := HIK.out; have := HLT.out; omega
        case rel => exact ⟨i + 1, by have := HIK.out; have := HLT.out; omega, by go_num, HS.out, rfl⟩
    · have HT := Lib.hid (show tot l p t = 0 from tot_none fun y hy => HOK.out y (by rw [take_all (by omega)]; exact hy))
      go_wp2_with fail
      go_ret
      exact ⟨by rw [HT.out]; rfl, Below.refl _ _⟩

end Go.Proofs.YtlkljeedlkbkgaaGreatDoor.Batch
