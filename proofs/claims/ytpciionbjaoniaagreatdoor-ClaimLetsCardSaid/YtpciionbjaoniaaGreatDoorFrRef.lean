/-
  PACKAGE marchlandref06: Of and Same.
-/
import Derived.Test.YtpciionbjaoniaaGreatDoorJoined7
import Derived.Test.YtpciionbjaoniaaGreatDoorGClosed
import Derived.Test.YtpciionbjaoniaaGreatDoorGTo
import Derived.Deep.QuietTactic
import Derived.BigQuiet
namespace Go.Proofs.YtpciionbjaoniaaGreatDoor.Fr
open Go.RowKit Go.Deep Gr
set_option linter.unusedVariables false
set_option linter.unusedSimpArgs false

def ul (l : List Int) : List Value := l.map fun x => .int .u64 x
theorem ul_one (l : List Int) : ∀ u ∈ ul l, u.oneCell' = true := by
  intro u hu
  unfold ul at hu
  obtain ⟨x, _, rfl⟩ := List.mem_map.1 hu
  rfl
theorem ul_at {l : List Int} {i : Nat} {x : Int} (h : l[i]? = some x) : (ul l)[i]? = some (.int .u64 x) := by unfold ul; rw [List.getElem?_map, h]; rfl
theorem ul_snoc (l : List Int) (x : Int) : ul (l ++ [x]) = ul l ++ [.int .u64 x] := by unfold ul; simp
/-- Times in memory, as they read. -/
def RdU (w : World) (v : Value) (l : List Int) : Prop := ∃ (ao : Option Addr) (cap : Nat), v = .slice ao l.length cap ∧ l.length ≤ 9223372036854775807 ∧ (l = [] ∨ ∃ b off, ao = some ⟨b, off, none⟩ ∧ ∀ (i : Nat) (x : Int), l[i]? = some x → w.cell? ⟨b, off + i, none⟩ = some (.int .u64 x))
theorem RdU.below {w w' : World} {v : Value} {l : List Int} (h : RdU w v l) (hw : Below w.heap.size w w') : RdU w' v l := by
  obtain ⟨ao, cap, rfl, h1, h4⟩ := h
  refine ⟨ao, cap, rfl, h1, ?_⟩
  rcases h4 with h4 | ⟨b, off, ha, h4⟩
  · exact .inl h4
  · exact .inr ⟨b, off, ha, fun i x hx => (hw.cell (p := ⟨b, off + i, none⟩) (Lib.lt_of_cell (h4 i x hx))).trans (h4 i x hx)⟩
/-- .. of the call's own. -/
def OwnU (w : World) (base : Nat) (T : TypeId) (v : Value) (l : List Int) : Prop := w.ownsRow base T 1 v l.length (ul l)
theorem OwnU.rd {w : World} {base : Nat} {T : TypeId} {v : Value} {l : List Int} (h : OwnU w base T v l) : RdU w v l := by
  have h0 := h
  rcases h.2 with ⟨rfl, hn⟩ | ⟨g, cap, cur, rfl, hb, hg, hc, hm, _⟩
  · obtain rfl := List.length_eq_zero_iff.1 hn
    exact ⟨none, 0, rfl, by simp, .inl rfl⟩
  · refine ⟨some ⟨g, 0, none⟩, cap, rfl, by unfold maxLen at hm; omega, .inr ⟨g, 0, rfl, fun i x hx => ?_⟩⟩
    have := World.ownsRow.cells h0 (g := g) rfl i _ (ul_at hx)
    rw [show ((⟨g, 0, none⟩ : Addr).add i) = ⟨g, 0 + i, none⟩ by unfold Addr.add; split <;> simp_all] at this
    exact this
theorem OwnU.form {w : World} {base : Nat} {T : TypeId} {v : Value} {l : List Int} (h : OwnU w base T v l) : ∃ ao cap, v = .slice ao l.length cap := by
  rcases h.2 with ⟨rfl, hn⟩ | ⟨g, cap, cur, rfl, _⟩
  · exact ⟨none, 0, by rw [hn]⟩
  · exact ⟨_, _, rfl⟩
theorem OwnU.below {w w' : World} {base : Nat} {T : TypeId} {v : Value} {l : List Int} (h : OwnU w base T v l) (hw : Below w.heap.size w w') : OwnU w' base T v l := by
  refine ⟨h.1, ?_⟩
  rcases h.2 with h2 | ⟨g, cap, cur, rfl, hb, hg, rest⟩
  · exact .inl h2
  · exact .inr ⟨g, cap, cur, rfl, hb, (hw.block g (Array.getElem?_eq_some_iff.1 hg).1).trans hg, rest⟩
/-- A row as it reads. -/
theorem rdu_row {w : World} {g n : Nat} {F : Nat → Int} (h : w.rowIs g 36 n (fun p => .int .u64 (F p))) (hn : n ≤ 1000) : RdU w (.slice (some ⟨g, 0, none⟩) n n) ((List.range n).map F) := by
  refine ⟨some ⟨g, 0, none⟩, n, by simp, by simp; omega, .inr ⟨g, 0, rfl, fun i x hx => ?_⟩⟩
  have hi : i < n := by have := (List.getElem?_eq_some_iff.1 hx).1; simpa using this
  rw [List.getElem?_map, List.getElem?_range hi] at hx
  obtain rfl := Option.some.inj hx
  rw [Nat.zero_add]
  exact h.cell hi
def Mk' (p : Prop) : Prop := p
theorem mk_of' {p : Prop} (h : Mk' p) : p := h
theorem quiet_pastF {P : Program} {f : Nat} {args : Array Value} {v : Value} {w : World} {a n : Nat} (h : Calls P f args (w.drewN (a + n)) fun e w' => e = .returned v ∧ w' = w.drewN (a + n)) :
    Calls P f args (w.drewN (a + n)) fun e w'' => e = .returned v ∧ ∃ m, w'' = w.drewN (a + m) := h.mono fun _ _ ⟨he, hm⟩ => ⟨he, n, hm⟩
theorem infoU64 : (Tryz.prog.info? 36).map (fun i => (i.zero, i.size, i.bytes)) = some (some (.int .u64 0), 1, 8) := by kernel_rfl
set_option maxRecDepth 1000000 in
set_option maxHeartbeats 8000000 in
theorem frsame_any {w : World} {v1 v2 : Value} {l : List Int} (h1 : RdU w v1 l) (h2 : RdU w v2 l) :
    Calls Tryz.prog 99 #[v1, v2] w fun e w' => e = .returned (.bool true) ∧ Below w.heap.size w w' := by
  obtain ⟨a1, c1, rfl, hl, h1⟩ := h1
  obtain ⟨a2, c2, rfl, _, h2⟩ := h2
  have H1 := Lib.hid h1
  have H2 := Lib.hid h2
  clear h1 h2
  go_enter Tryz.func99, Tryz.ntmps99
  go_wp2_with fail
  go_loopg [5] l.length (fun m t wr => ∃ i : Nat, i + m = l.length ∧ t = .int .i64 (i : Int) ∧ Below w.heap.size w wr)
  case atStart => exact ⟨0, by omega, rfl, Below.refl _ _⟩
  case round =>
    obtain ⟨i, him, rfl, hbw⟩ := hrel
    have HIM := Lib.hid him
    have HBW := Lib.hid hbw
    clear him hbw
    by_cases hi : i < l.length
    · obtain ⟨x, hx, _⟩ := at_ofI hi
      have hne : l ≠ [] := by intro e; rw [e] at hi; simp at hi
      obtain ⟨b1, o1, rfl, hc1⟩ := H1.out.resolve_left hne
      obtain ⟨b2, o2, rfl, hc2⟩ := H2.out.resolve_left hne
      have q1 := (HBW.out.cell (p := ⟨b1, o1 + i, none⟩) (Lib.lt_of_cell (hc1 i x hx))).trans (hc1 i x hx)
      have q2 := (HBW.out.cell (p := ⟨b2, o2 + i, none⟩) (Lib.lt_of_cell (hc2 i x hx))).trans (hc2 i x hx)
      have hi0 : (0 : Int) ≤ (i : Int) := Int.natCast_nonneg _
      have hi1 : (i : Int) < (l.length : Int) := by omega
      have HI := Lib.hid hi
      clear hx hne hc1 hc2 H1 H2 hi
      go_wp2_with fail
      go_quiet (fail)
      go_wp2_with fail
      go_roundg (l.length - (i + 1))
      case measure => have := HIM.out; have := HI.out; omega
      case rel => exact ⟨i + 1, by have := HIM.out; have := HI.out; omega, by go_num, below_drewN HBW.out _⟩
    · go_wp2_with fail
      go_ret
      exact ⟨rfl, HBW.out⟩
set_option maxRecDepth 1000000 in
set_option maxHeartbeats 16000000 in
theorem frrefof_any {w : World} {vp vb : Value} {n base : Nat} {M : Nat → Nat → Int} {B : List Batch.Ch} (hp : Mat w base vp n M) (hm : ∀ i j, i < n → j < n → 0 ≤ M i j ∧ M i j ≤ 18446744073709551615) (hb : Batch.Rd w vb B) (hl : B.length ≤ 100000) (h0 : 1 ≤ n) (h1 : n ≤ 64) :
    Calls Tryz.prog 53 #[vp, vb] w fun e w' => ∃ (v : Value) (l : List Int), e = .returned v ∧ OwnU w' w.heap.size 36 v l ∧ l.length = n ∧ (∀ p x, l[p]? = some x → FrontU B M n p x) ∧ Below w.heap.size w w' := by
  obtain ⟨gm, r, rfl, hmat⟩ := hp
  obtain ⟨ao, cap, hv⟩ : ∃ ao cap, vb = .slice ao B.length cap := by obtain ⟨ao, cap, h, _⟩ := hb; exact ⟨ao, cap, h⟩
  subst hv
  obtain ⟨i0, hi, hz0, hz1, hz2⟩ := info_parts infoU64
  have HMAT := Lib.hid hmat
  have HM := Lib.hid hm
  have HSB := Lib.hid hb
  have HBL := Lib.hid hl
  have hn1 : (1 : Int) ≤ (n : Int) := by omega
  have hn2 : (n : Int) ≤ 64 := by omega
  clear hmat hm hb hl
  go_enter Tryz.func53, Tryz.ntmps53
  go_wp2_with fail
  go_loopg [5, 6] (n + 1) (fun k s5 s6 wr => ∃ (p : Nat) (l : List Int), p + k = n + 1 ∧ p ≤ n ∧ l.length = p ∧ s6 = .int .i64 (p : Int) ∧ OwnU wr w.heap.size 36 s5 l ∧ (∀ q x, l[q]? = some x → FrontU B M n q x) ∧ Below w.heap.size w wr)
  case atStart => exact ⟨0, [], by omega, by omega, rfl, rfl, World.ownsRow_nil _ _ _ _, fun q x h => by simp at h, Below.refl _ _⟩
  case round =>
    obtain ⟨p, l, hpk, hpn, hlen, rfl, hown, hfr, hbw⟩ := hrel
    have HPK := Lib.hid (And.intro hpk (And.intro hpn hlen))
    have HOWN := Lib.hid hown
    have HFR := Lib.hid hfr
    have HBW := Lib.hid hbw
    clear hpk hpn hown hfr hbw
    by_cases hp : p < n
    · have hp0 : (0 : Int) ≤ (p : Int) := Int.natCast_nonneg _
      have hp1 : (p : Int) < (n : Int) := by omega
      have HP := Lib.hid hp
      clear hp hlen
      go_wp2_with fail
      obtain ⟨wo, rfl⟩ : ∃ wo : World, wo = wr := ⟨_, rfl⟩
      go_loopg [7, 8] B.length (fun m s7 s8 wq => ∃ (i : Nat) (v : Int), i + m = B.length ∧ s8 = .int .i64 (i : Int) ∧ s7 = .int .u64 v ∧ FrontU (B.take i) M n p v ∧ ∃ q, wq = wo.drewN q)
      case atStart => exact ⟨0, _, by omega, rfl, rfl, FrontU.nil M n p, 0, rfl⟩
      case round =>
        obtain ⟨i, v, him, rfl, rfl, hfu, q, rfl⟩ := hrel
        have HIM := Lib.hid him
        have HFU := Lib.hid hfu
        clear him hfu
        by_cases hi2 : i < B.length
        · obtain ⟨x, hx, hxm⟩ := Batch.at_of hi2
          obtain ⟨b, off, rfl, hcc⟩ := (HSB.out.below HBW.out).at hx
          obtain ⟨c0, c1, c2⟩ := hcc
          have hi0 : (0 : Int) ≤ (i : Int) := Int.natCast_nonneg _
          have hi1 : (i : Int) < (B.length : Int) := by omega
          have hbl' : (B.length : Int) ≤ 100000 := by have := HBL.out; omega
          have HI := Lib.hid hi2
          have hwx := HSB.out.wf x hxm
          have HXT := Lib.hid (show 0 ≤ x.t ∧ x.t ≤ 18446744073709551615 from ⟨hwx.t0, hwx.t1⟩)
          by_cases hq0 : 0 ≤ x.p
          · obtain ⟨f, hf⟩ : ∃ f : Nat, x.p = f := ⟨x.p.toNat, by omega⟩
            by_cases hq1 : f < n
            · have hf0 : (0 : Int) ≤ (f : Int) := Int.natCast_nonneg _
              have hf1 : (f : Int) < (n : Int) := by omega
              have g0 := (HMAT.out.below HBW.out).top.cell hq1
              have r0 := ((HMAT.out.below HBW.out).row f hq1).cell HP.out
              have HU := Lib.hid (HM.out f p hq1 HP.out)
              have hlo := plusN_lo HXT.out.1 HU.out.1
              have HN := Lib.hid (FrontU.elem (n := n) hx hq0 (by omega) (by rw [hf, Int.toNat_natCast]; exact hlo) HFU.out)
              rw [hf, Int.toNat_natCast] at HN
              rw [hf] at c0
              obtain ⟨m1, hm1⟩ : ∃ z, z = M f p := ⟨_, rfl⟩
              rw [← hm1] at r0 HN HU
              obtain ⟨t, ht⟩ : ∃ z, z = x.t := ⟨_, rfl⟩
              rw [← ht] at c1 HN HXT
              obtain ⟨ps, hps⟩ : ∃ z, z = plusN t m1 := ⟨_, rfl⟩
              have HPS := Lib.hid (fun W => refplus_still t m1 HXT.out HU.out W)
              rw [← hps] at HPS HN
              clear hx hxm hi2 hwx hq0 hf hq1 hlo hm1 ht hps c2
              go_wp2_with fail
              go_quiet ((go_at_call 127; exact quiet_pastF (HPS.out _)))
              go_wp2_with fail
              go_roundg (B.length - (i + 1))
              case measure => have := HIM.out; have := HI.out; omega
              case rel => exact ⟨i + 1, _, by have := HIM.out; have := HI.out; omega, by go_num, rfl, HN.out, _, rfl⟩
            · have HN := Lib.hid (FrontU.skip (n := n) hx (by omega) HFU.out)
              rw [hf] at c0
              have hq2 : ¬ ((f : Int) < (n : Int)) := by omega
              have hf0 : (0 : Int) ≤ (f : Int) := Int.natCast_nonneg _
              clear hx hxm hi2 hwx hq0 hf hq1 c1 c2
              go_wp2_with fail
              go_roundg (B.length - (i + 1))
              case measure => have := HIM.out; have := HI.out; omega
              case rel => exact ⟨i + 1, v, by have := HIM.out; have := HI.out; omega, by go_num, rfl, HN.out, _, rfl⟩
          · have HN := Lib.hid (FrontU.skip (n := n) hx (by omega) HFU.out)
            obtain ⟨xp, hxp⟩ : ∃ z, z = x.p := ⟨_, rfl⟩
            rw [← hxp] at c0 hq0
            clear hx hxm hi2 hwx hxp c1 c2
            go_wp2_with fail
            go_roundg (B.length - (i + 1))
            case measure => have := HIM.out; have := HI.out; omega
            case rel => exact ⟨i + 1, v, by have := HIM.out; have := HI.out; omega, by go_num, rfl, HN.out, _, rfl⟩
        · have hfu := HFU.out
          rw [take_all (by omega)] at hfu
          have HN := Lib.hid hfu
          have hbq := below_drewN HBW.out q
          have hown := HOWN.out.below (below_drewN (Below.refl wo.heap.size wo) q)
          obtain ⟨W, hW⟩ : ∃ W, W = wo.drewN q := ⟨_, rfl⟩
          rw [← hW] at hbq hown ⊢
          clear hW
          have hnew := heap_alloc_new W (.cells #[.int .u64 v] 36)
          have hbs := hbq.size
          clear hfu
          go_wp2_with (at_builtin; refine mk_of' ?_)
          unfold Mk'
          refine (wpList_append_own_at _ rfl _ _ 59 rfl w.heap.size 36 i0 _ 1 8 Tryz.underlying59 hi hz0 hz1 hz2 rfl (by decide) u5 l.length (ul l) rfl (World.ownsRow.alloc hown _) ⟨W.heap.size, 0, none⟩ 1 1 [.int .u64 v] rfl rfl (World.news_of_block (cs := #[.int .u64 v]) hnew) ?c2 ?c3 ?c4 ?c5 ?_)
          case c2 => intro u hu; simp at hu; subst hu; rfl
          case c3 => unfold maxLen; have := HPK.out; omega
          case c4 => have := HPK.out; omega
          case c5 => simp; omega
          intro v2 w3 hown3 hgrow _ hvb
          have HO3 := Lib.hid hown3
          have HB3 := Lib.hid ((hbq.alloc hbs _).grown hgrow (by simp; omega) (fun j e => (World.ownsRow.lt hown j e).1))
          clear hown3 hgrow hvb hown hbq hnew
          go_wp2_with fail
          go_roundg (n - p)
          case measure => have := HPK.out; have := HP.out; omega
          case rel =>
            refine ⟨p + 1, l ++ [v], by have := HPK.out; have := HP.out; omega, by have := HP.out; omega, by rw [List.length_append, HPK.out.2.2]; rfl, by go_num, ?_, fun q x hx => ?_, HB3.out⟩
            · unfold OwnU
              rw [ul_snoc, List.length_append]
              exact HO3.out
            · by_cases hq : q < l.length
              · rw [List.getElem?_append_left hq] at hx
                exact HFR.out q x hx
              · have hql : q < (l ++ [v]).length := (List.getElem?_eq_some_iff.1 hx).1
                rw [List.length_append] at hql
                have e : q = p := by have := HPK.out; simp at hql; omega
                subst e
                rw [List.getElem?_append_right (by omega), show q - l.length = 0 by have := HPK.out; omega] at hx
                obtain rfl : v = x := by simpa using hx
                exact HN.out
    · have hpe : p = n := by have := HPK.out; omega
      subst hpe
      go_wp2_with fail
      go_ret
      exact ⟨_, l, rfl, HOWN.out, HPK.out.2.2, HFR.out, HBW.out⟩
end Go.Proofs.YtpciionbjaoniaaGreatDoor.Fr
