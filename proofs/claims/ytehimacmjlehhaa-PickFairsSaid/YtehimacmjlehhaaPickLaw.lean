/-
  THE WALKS OF THE LAWS PickWhos AND PickFairs.
-/
import Derived.Test.YtehimacmjlehhaaPickFair
import Derived.Test.YtehimacmjlehhaaAppendAny
import Derived.Deep.CutBlock
import Derived.Deep.CutRange
namespace Go.Proofs.Ytehimacmjlehhaa.Pk
open Go.RowKit Rw
set_option linter.unusedVariables false

def turnsS (m c : Int) : List Int := if m < 1 ∨ c < 1 then [] else turnsL m c.toNat
theorem turnsS_len (m c : Int) (h : c ≤ 500) : (turnsS m c).length ≤ 500 := by unfold turnsS; split <;> simp [turnsL_length]; omega
theorem turnsS_wf {m c : Int} (h2 : m ≤ 9223372036854775807) : ∀ x ∈ turnsS m c, intK.wf x := by
  unfold turnsS
  split
  · intro x hx; simp at hx
  · exact turnsL_wf _ (by omega) h2
theorem turnsS_any (m c : Int) (h2 : m ≤ 9223372036854775807) (h4 : c ≤ 500) (w : World) :
    Calls Try.prog 45 #[.int .i64 m, .int .i64 c] w fun e w' => ∃ v, e = .returned v ∧ Own intK w' w.heap.size 3 v (turnsS m c) ∧ Below w.heap.size w w' := by
  by_cases h : m < 1 ∨ c < 1
  · have e : turnsS m c = [] := if_pos h
    exact (turns_no m c h w).mono fun _ _ ⟨h1, h2⟩ => ⟨_, h1, by rw [e]; exact Own.nil _ _ _, h2⟩
  · have e : turnsS m c = turnsL m c.toNat := if_neg h
    rw [e]
    have := turns_any m c.toNat (by omega) h2 (by omega) (by omega) w
    rwa [show ((c.toNat : Nat) : Int) = c by omega] at this
theorem refturnsS_any (m c : Int) (h2 : m ≤ 9223372036854775807) (h4 : c ≤ 500) (w : World) :
    Calls Try.prog 46 #[.int .i64 m, .int .i64 c] w fun e w' => ∃ v, e = .returned v ∧ Own intK w' w.heap.size 3 v (turnsS m c) ∧ Below w.heap.size w w' := by
  by_cases h : m < 1 ∨ c < 1
  · have e : turnsS m c = [] := if_pos h
    exact (refturns_no m c h w).mono fun _ _ ⟨h1, h2⟩ => ⟨_, h1, by rw [e]; exact Own.nil _ _ _, h2⟩
  · have e : turnsS m c = turnsL m c.toNat := if_neg h
    rw [e]
    have := refturns_any m c.toNat (by omega) h2 (by omega) w
    rwa [show ((c.toNat : Nat) : Int) = c by omega] at this

theorem ints_same {w : World} {va vb : Value} {a : List Int} (ha : Rr intK w va a) (hb : Rr intK w vb a) :
    Calls Try.prog 44 #[va, vb] w fun e w' => e = .returned (.bool true) ∧ Below w.heap.size w w' :=
  (ints_any ha hb).mono fun _ _ ⟨h1, h2⟩ => ⟨by rw [h1]; exact pbool (decide_eq_true rfl), h2⟩
/-! ### told -/
def tL : List Int := [0, 1, 0, 2, 1]
theorem tL_fair : FairS tL 3 4 := by
  refine ⟨by decide, .inr ?_⟩
  show FairW (whoAt tL 3) 5 3 4
  intro a ha v hv
  have ha' : a = 0 ∨ a = 1 := by omega
  have hv' : v = 0 ∨ v = 1 ∨ v = 2 := by omega
  rcases ha' with rfl | rfl <;> rcases hv' with rfl | rfl | rfl
  · exact ⟨0, by omega, by omega, by decide +kernel⟩
  · exact ⟨1, by omega, by omega, by decide +kernel⟩
  · exact ⟨3, by omega, by omega, by decide +kernel⟩
  · exact ⟨2, by omega, by omega, by decide +kernel⟩
  · exact ⟨1, by omega, by omega, by decide +kernel⟩
  · exact ⟨3, by omega, by omega, by decide +kernel⟩
theorem tL_not : ¬ FairS tL 3 3 := by
  intro h
  rcases h.2 with h | h
  · exact absurd h (by decide)
  · have h' : FairW (whoAt tL 3) 5 3 3 := h
    obtain ⟨k, _, h2, h3⟩ := h' 0 (by omega) 2 (by omega)
    have hk : k = 0 ∨ k = 1 ∨ k = 2 := by omega
    rcases hk with rfl | rfl | rfl
    · exact absurd h3 (by decide +kernel)
    · exact absurd h3 (by decide +kernel)
    · exact absurd h3 (by decide +kernel)
theorem who_a (w : World) : Calls Try.prog 42 #[.int .i64 (-1), .int .i64 3] w fun e w' => e = .returned (.int .i64 0) ∧ w = w' :=
  (who_any (-1) 3 (by decide) w).mono fun _ _ ⟨h1, h2⟩ => ⟨by rw [h1]; exact pint (by decide +kernel), h2⟩
theorem who_b (w : World) : Calls Try.prog 42 #[.int .i64 5, .int .i64 0] w fun e w' => e = .returned (.int .i64 (-1)) ∧ w = w' :=
  (who_any 5 0 (by decide) w).mono fun _ _ ⟨h1, h2⟩ => ⟨by rw [h1]; exact pint (by decide +kernel), h2⟩
theorem sl_of_block {w : World} {b n : Nat} {T : TypeId} {l : List Int} (h : w.heap[b]? = some (.cells (l.map (Value.int .i64)).toArray T (0, 0))) (hn : n = l.length) (hw : ∀ x ∈ l, intK.wf x) (hl : l.length ≤ 1000) : Rr intK w (.slice (some ⟨b, 0, none⟩) n n) l := by
  subst hn
  refine ⟨_, _, rfl, .inr ⟨b, 0, (Array.getElem?_eq_some_iff.1 h).1, rfl, fun i x hx => ?_⟩, Nat.le_refl _, by omega, hw⟩
  intro c u hc hu
  obtain rfl : c = 0 := by have : c < 1 := hc; omega
  have hu' : u = .int .i64 x := by
    have : [Value.int IntKind.i64 x][0]? = some u := hu
    simpa using this.symm
  subst hu'
  rw [Nat.zero_add, show i * intK.k + 0 = i from Nat.mul_one i]
  simp [World.cell?, h, hx]

set_option maxRecDepth 1000000 in
set_option maxHeartbeats 8000000 in
theorem ptold_any (w : World) : Calls Try.prog 41 #[] w fun e w' => e = .returned (.bool true) ∧ Below w.heap.size w w' := by
  obtain ⟨w0, hw0⟩ : ∃ w0, w0 = w.alloc (.cells #[.int .i64 0, .int .i64 1, .int .i64 0, .int .i64 2, .int .i64 1] 3) := ⟨_, rfl⟩
  have hb0 : Below w.heap.size w w0 := by rw [hw0]; exact (Below.refl _ _).alloc (Nat.le_refl _) _
  have hs0 : Rr intK w0 (.slice (some ⟨w.heap.size, 0, none⟩) 5 5) tL := by
    rw [hw0]; exact sl_of_block (l := tL) (T := 3) (heap_alloc_new w _) rfl (by intro x hx; simp [tL] at hx; rcases hx with rfl | rfl | rfl | rfl | rfl <;> exact ⟨by decide, by decide⟩) (by decide)
  have HB0 := Lib.hid hb0
  have HS0 := Lib.hid hs0
  have HW0 := Lib.hid hw0
  have HLT : Hid (w0.heap.size = w.heap.size + 1) := Lib.hid (by rw [hw0]; simp)
  clear hb0 hs0
  go_enter Try.func41, Try.ntmps41
  go_wp2_with fail
  go_at_call 42
  refine (who_a _).mono ?_
  rintro e w1 ⟨rfl, rfl⟩
  go_wp2_with fail
  go_at_call 42
  refine (who_b _).mono ?_
  rintro e w1 ⟨rfl, rfl⟩
  go_wp2_with fail
  go_at_call 45
  rw [← hw0]
  clear hw0
  refine (turns_any 2 3 (by decide) (by decide) (by decide) (by decide) _).mono ?_
  rintro e w1 ⟨v1, rfl, ho1, hb1⟩
  obtain ⟨w2, hw2⟩ : ∃ w2, w2 = w1.alloc (.cells #[.int .i64 0, .int .i64 1, .int .i64 0] 3) := ⟨_, rfl⟩
  have hs1 : Rr intK w1 v1 (turnsL 2 3) := (ho1.sl (turnsL_wf 3 (by decide) (by decide))).rr
  have hb2 : Below w1.heap.size w1 w2 := by rw [hw2]; exact (Below.refl _ _).alloc (Nat.le_refl _) _
  have hs2 : Rr intK w2 (.slice (some ⟨w1.heap.size, 0, none⟩) 3 3) (turnsL 2 3) := by
    rw [hw2]; exact sl_of_block (l := turnsL 2 3) (T := 3) (heap_alloc_new w1 _) rfl (turnsL_wf 3 (by decide) (by decide)) (by decide)
  have HI := Lib.hid (ints_same (hs1.below hb2) hs2)
  have HB2 := Lib.hid (hb1.trans (hb2.mono hb1.size))
  clear ho1 hb1 hs1 hb2 hs2
  go_wp2_with fail
  go_at_call 44
  rw [← hw2]
  clear hw2
  refine HI.out.mono ?_
  rintro e w3 ⟨rfl, hb3⟩
  have HB3 := Lib.hid (HB2.out.trans (hb3.mono HB2.out.size))
  clear hb3
  go_wp2_with fail
  go_at_call 47
  refine (fair_any (HS0.out.below HB3.out) (by decide) 3 (by decide) 4 (by decide)).mono ?_
  rintro e w4 ⟨b, rfl, hb, hb4⟩
  obtain rfl : b = true := hb.2 tL_fair
  have HB4 := Lib.hid (HB3.out.trans (hb4.mono HB3.out.size))
  clear hb hb4
  go_wp2_with fail
  go_at_call 47
  refine (fair_any (HS0.out.below HB4.out) (by decide) 3 (by decide) 3 (by decide)).mono ?_
  rintro e w5 ⟨b, rfl, hb, hb5⟩
  obtain rfl : b = false := by
    cases b
    · rfl
    · exact absurd (hb.1 rfl) tL_not
  have HB5 := Lib.hid (HB0.out.trans ((HB4.out.trans (hb5.mono HB4.out.size)).mono HB0.out.size))
  clear hb hb5
  go_wp2_with fail
  go_ret
  exact ⟨rfl, HB5.out⟩

/-! ### the laws -/
set_option maxRecDepth 1000000 in
set_option maxHeartbeats 8000000 in
theorem pickWhos_any (n many count : Int) (hm : many ≤ 9223372036854775807) (hc : count ≤ 9223372036854775807) (w : World) :
    Calls Try.prog 10 #[.int .i64 n, .int .i64 many, .int .i64 count] w fun e w' => e = .returned (.bool true) ∧ Below w.heap.size w w' := by
  by_cases h : 500 < count
  · have h0 : 0 ≤ count := by omega
    go_enter Try.func10, Try.ntmps10
    go_wp2_with fail
    go_at_call 41
    refine (ptold_any _).mono ?_
    rintro e w1 ⟨rfl, hb1⟩
    have HB1 := Lib.hid hb1
    clear hb1
    go_wp2_with fail
    go_at_call 42
    refine (who_any n many hm _).mono ?_
    rintro e w2 ⟨rfl, rfl⟩
    go_wp2_with fail
    go_at_call 43
    refine (refwho_any n many hm _).mono ?_
    rintro e w2 ⟨rfl, rfl⟩
    go_wp2_with fail
    go_at_call 45
    refine (turnsS_any _ (count % 500) hm (by omega) _).mono ?_
    rintro e w2 ⟨v1, rfl, ho1, hb2⟩
    have hs1 := (ho1.sl (turnsS_wf hm)).rr
    have HS1 := Lib.hid hs1
    have HB2 := Lib.hid (HB1.out.trans (hb2.mono HB1.out.size))
    clear ho1 hb2 hs1
    go_wp2_with fail
    go_at_call 46
    refine (refturnsS_any _ (count % 500) hm (by omega) _).mono ?_
    rintro e w3 ⟨v2, rfl, ho2, hb3⟩
    have HI := Lib.hid (ints_same (HS1.out.below hb3) (ho2.sl (turnsS_wf hm)).rr)
    have HB3 := Lib.hid (HB2.out.trans (hb3.mono HB2.out.size))
    clear ho2 hb3
    go_wp2_with fail
    go_at_call 44
    refine HI.out.mono ?_
    rintro e w4 ⟨rfl, hb4⟩
    have HB4 := Lib.hid (HB3.out.trans (hb4.mono HB3.out.size))
    clear hb4
    go_wp2_with fail
    go_ret
    exact ⟨rfl, HB4.out⟩
  · have h0 : decide (500 < count) = false := decide_eq_false h
    have h1 : count ≤ 500 := by omega
    go_enter Try.func10, Try.ntmps10
    go_wp2_with fail
    go_at_call 41
    refine (ptold_any _).mono ?_
    rintro e w1 ⟨rfl, hb1⟩
    have HB1 := Lib.hid hb1
    clear hb1
    go_wp2_with fail
    go_at_call 42
    refine (who_any n many hm _).mono ?_
    rintro e w2 ⟨rfl, rfl⟩
    go_wp2_with fail
    go_at_call 43
    refine (refwho_any n many hm _).mono ?_
    rintro e w2 ⟨rfl, rfl⟩
    go_wp2_with fail
    go_at_call 45
    refine (turnsS_any _ count hm (by omega) _).mono ?_
    rintro e w2 ⟨v1, rfl, ho1, hb2⟩
    have hs1 := (ho1.sl (turnsS_wf hm)).rr
    have HS1 := Lib.hid hs1
    have HB2 := Lib.hid (HB1.out.trans (hb2.mono HB1.out.size))
    clear ho1 hb2 hs1
    go_wp2_with fail
    go_at_call 46
    refine (refturnsS_any _ count hm (by omega) _).mono ?_
    rintro e w3 ⟨v2, rfl, ho2, hb3⟩
    have HI := Lib.hid (ints_same (HS1.out.below hb3) (ho2.sl (turnsS_wf hm)).rr)
    have HB3 := Lib.hid (HB2.out.trans (hb3.mono HB2.out.size))
    clear ho2 hb3
    go_wp2_with fail
    go_at_call 44
    refine HI.out.mono ?_
    rintro e w4 ⟨rfl, hb4⟩
    have HB4 := Lib.hid (HB3.out.trans (hb4.mono HB3.out.size))
    clear hb4
    go_wp2_with fail
    go_ret
    exact ⟨rfl, HB4.out⟩

def MkP (p : Prop) : Prop := p
theorem mk_ofP {p : Prop} (h : MkP p) : p := h
theorem own_nil_at (w : World) (T : TypeId) {n : Nat} (hn : w.heap.size = n) : (w.alloc (.cells #[] T)).ownsRow 0 T 1 (.slice (some ⟨n, 0, none⟩) 0 0) 0 [] := by
  subst hn
  exact ⟨by simp, .inr ⟨w.heap.size, 0, #[], rfl, by omega, heap_alloc_new w _, Nat.le_refl _, by unfold maxLen; omega, by simp, by simp⟩⟩
set_option maxRecDepth 1000000 in
set_option maxHeartbeats 8000000 in
theorem pickFairs_any {w : World} {v : Value} {L0 : List Int} (many wd more : Int) (hv : Rr intK w v L0) (hwd : -9223372036854775808 ≤ wd ∧ wd ≤ 9223372036854775807) :
    Calls Try.prog 11 #[v, .agg #[.int .i64 many, .int .i64 wd], .int .i64 more] w fun e w' => e = .returned (.bool true) ∧ Below w.heap.size w w' := by
  obtain ⟨i0, hi, hz0, hz1, hz2⟩ := info_partsP infoIn
  obtain ⟨ao, cap, rfl, hc1, hc2⟩ := hv.form
  have hlen : L0.length ≤ 9223372036854775807 := by omega
  obtain ⟨k, hk⟩ : ∃ k, k = min L0.length 60 := ⟨_, rfl⟩
  have hk60 : k ≤ 60 := by omega
  have hkl : k ≤ L0.length := by omega
  have hkc : (k : Int) ≤ (cap : Int) := by omega
  have hk0 : (0 : Int) ≤ (k : Int) := by omega
  have hmn : min (L0.length : Int) 60 = (k : Int) := by omega
  have HL := Lib.hid (hv.take hkl)
  have HK := Lib.hid hk
  obtain ⟨L, hL⟩ : ∃ L, L = L0.take k := ⟨_, rfl⟩
  rw [← hL] at HL
  have hLk : L.length = k := by rw [hL, List.length_take]; omega
  have HLK := Lib.hid hLk
  have hm9 : whoF many 9 = ((whoF many 9).toNat : Int) := by have := (whoF_in (p := many) (m := 9) (by decide)).1; omega
  have hm8 : (whoF many 9).toNat ≤ 8 := by have := (whoF_in (p := many) (m := 9) (by decide)).2; omega
  obtain ⟨m, hm⟩ : ∃ m, m = (whoF many 9).toNat := ⟨_, rfl⟩
  rw [← hm] at hm9 hm8
  have hme : wrap64 ((IntKind.u64.wrap many).tmod 9) = (m : Int) := by rw [← hm9]; exact whoF_of (by decide) (by decide)
  have hre : wrap64 ((IntKind.u64.wrap more).tmod 20) = whoF more 20 := whoF_of (by decide) (by decide)
  have hr1 := (whoF_in (p := more) (m := 20) (by decide)).1
  have hr2 := (whoF_in (p := more) (m := 20) (by decide)).2
  obtain ⟨r, hrr⟩ : ∃ r, r = whoF more 20 := ⟨_, rfl⟩
  rw [← hrr] at hre hr1 hr2
  obtain ⟨wd1, wd2⟩ := hwd
  clear hv hm hrr hm9 hk hL hLk
  go_enter Try.func11, Try.ntmps11
  go_wp2_with fail
  go_quiet (fail)
  go_wp2_with (at_builtin; refine mk_ofP ?_)
  show wpList _ _ _ _ _ _
  refine (Batch.wpList_append_any _ rfl _ _ 46 46 rfl 0 3 3 i0 (.int .i64 0) 1 8 Try.underlying46 Try.underlying46 hi hz0 hz1 hz2 rfl (by decide) (.slice (some ⟨w.heap.size + 1, 0, none⟩) 0 0) 0 [] rfl (own_nil_at _ _ (by simp)) ao k _ (intK.flat L) rfl ?c1 ?c2 ?c3 ?c4 ?c5 ?c6 ?_)
  case c1 => rw [flat_length, HLK.out]; rfl
  case c2 =>
    refine Rr.src (cap := cap) (by decide) (HL.out.below ?_)
    exact (below_drewN ((Below.refl _ _).alloc (Nat.le_refl _) _) _).alloc (by simp) _
  case c3 => exact flat_one L
  case c4 => unfold maxLen; omega
  case c5 => omega
  case c6 => exact Nat.zero_le _
  intro v' w1 hown1 hgrow hblk
  have hb1 : Below w.heap.size w w1 := ((below_drewN ((Below.refl _ _).alloc (Nat.le_refl _) _) _).alloc (by simp) _).grown hgrow (by simp; omega) (fun j e => by simp [Value.ownBlock] at e; omega)
  rw [List.nil_append, Nat.zero_add] at hown1
  have hwfL := HL.out.wf
  have HO : Hid (Own intK w1 0 3 v' L) := Lib.hid (by unfold Own; rw [HLK.out]; exact hown1)
  have HS1 := Lib.hid (HO.out.sl hwfL).rr
  have HB1 := Lib.hid hb1
  have hkL : L.length ≤ 60 := by rw [HLK.out]; exact hk60
  clear hown1 hgrow hblk hb1 hwfL HO
  go_wp2_with fail
  try simp only [hme]
  go_at_call 47
  refine (fair_any HS1.out hkL m hm8 wd ⟨wd1, wd2⟩).mono ?_
  rintro e w2 ⟨b, rfl, hb, hb2⟩
  have HBB := Lib.hid hb
  have HB2 := Lib.hid (HB1.out.trans (hb2.mono HB1.out.size))
  have HS2 := Lib.hid (HS1.out.below hb2)
  clear hb hb2 HS1
  go_wp2_with fail
  go_at_call 41
  refine (ptold_any _).mono ?_
  rintro e w3 ⟨rfl, hb3⟩
  have HB3 := Lib.hid (HB2.out.trans (hb3.mono HB2.out.size))
  have HS3 := Lib.hid (HS2.out.below hb3)
  clear hb3 HS2
  go_wp2_with fail
  go_at_call 48
  refine (reffair_any (HL.out.below HB3.out) hkL m hm8 wd ⟨wd1, wd2⟩).mono ?_
  rintro e w4 ⟨b', rfl, hb', hb4⟩
  obtain rfl : b' = b := by
    have := HBB.out
    cases b <;> cases b' <;> simp_all
  have HB4 := Lib.hid (HB3.out.trans (hb4.mono HB3.out.size))
  have HS4 := Lib.hid (HS3.out.below hb4)
  clear hb' hb4 HS3
  have hbb : (b' != b') = false := by cases b' <;> rfl
  go_wp2_with fail
  go_at_call 44
  refine (ints_same HS4.out (HL.out.below HB4.out)).mono ?_
  rintro e w5 ⟨rfl, hb5⟩
  have HB5 := Lib.hid (HB4.out.trans (hb5.mono HB4.out.size))
  clear hb5 HS4 hbb
  go_upto_region 9 with fail
  try simp only [hre]
  have hm0 : (0 : Int) ≤ (m : Int) := Int.natCast_nonneg _
  have hmn8 : (m : Int) ≤ 8 := by omega
  have hF : b' = true → FairS L m wd := fun h => HBB.out.1 h
  have HF := Lib.hid hF
  clear hF HBB
  have HT : 1 ≤ m → Hid (∀ wx, Calls Try.prog 45 #[.int .i64 (m : Int), .int .i64 40] wx fun e w' => ∃ v, e = .returned v ∧ Own intK w' wx.heap.size 3 v (turnsL m 40) ∧ Below wx.heap.size wx w') :=
    fun h => Lib.hid (fun wx => turns_any (m : Int) 40 (by omega) (by omega) (by decide) (by decide) wx)
  cases b'
  case' false =>
    have HB6 := HB5
    clear HB5 HF
    go_upto_region 11 with fail
  case' true =>
    have hfs := HF.out rfl
    have hw1 : 1 ≤ wd := hfs.1
    have HFS := Lib.hid hfs
    clear hfs HF
    by_cases hlt : wd < 1000
    case' pos =>
      have hmin : min wd 1000 = wd := by omega
      have hmin2 : wrap64 (wd + r) = wd + r := by unfold wrap64; omega
      go_wp2_with fail
      go_at_call 47
      refine (fair_any (HL.out.below HB5.out) hkL m hm8 (wd + r) ⟨by omega, by omega⟩).mono ?_
      rintro e w6 ⟨b2, rfl, hb2, hb6⟩
      obtain rfl : b2 = true := hb2.2 (fairS_grow (by omega) HFS.out)
      have HB6 := Lib.hid (HB5.out.trans (hb6.mono HB5.out.size))
      clear hb2 hb6 hmin hmin2 HFS HB5
      go_upto_region 11 with fail
    case' neg =>
      have HB6 := HB5
      clear HB5 HFS
      go_upto_region 11 with fail
  all_goals
    clear hme hre
    by_cases hm1 : m < 1
    · have hm2 : (m : Int) < 1 := by omega
      go_wp2_with fail
      go_ret
      exact ⟨rfl, HB6.out⟩
    · have hm2 : decide ((m : Int) < 1) = false := decide_eq_false (by omega)
      have HTT := HT (by omega)
      have HFM := Lib.hid (fairS_turns (m := m) (by omega) hm8)
      have HWF := Lib.hid (turnsL_wf (m := m) 40 (by omega) (by omega))
      clear hm1 HT
      go_wp2_with fail
      go_at_call 45
      refine (HTT.out _).mono ?_
      rintro e w7 ⟨v7, rfl, ho7, hb7⟩
      have HB7 := Lib.hid (HB6.out.trans (hb7.mono HB6.out.size))
      have HFA := Lib.hid (fair_any ((ho7.sl HWF.out).rr) (by rw [turnsL_length]; decide) m hm8 (m : Int) ⟨by omega, by omega⟩)
      clear hb7 ho7
      go_wp2_with fail
      go_at_call 47
      refine HFA.out.mono ?_
      rintro e w8 ⟨b8, rfl, hb8, hbb8⟩
      obtain rfl : b8 = true := hb8.2 HFM.out
      have HB8 := Lib.hid (HB7.out.trans (hbb8.mono HB7.out.size))
      clear hb8 hbb8
      go_wp2_with fail
      go_ret
      exact ⟨rfl, HB8.out⟩
end Go.Proofs.Ytehimacmjlehhaa.Pk
