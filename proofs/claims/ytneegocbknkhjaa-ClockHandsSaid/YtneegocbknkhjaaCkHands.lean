/-
  THE WALK OF THE LAW ClockHands.
-/
import Derived.Test.YtneegocbknkhjaaCkTold
import Derived.Test.YtneegocbknkhjaaMemZ
import Derived.Test.YtneegocbknkhjaaCkOpen
import Derived.Test.YtneegocbknkhjaaCkAhMem
namespace Go.Proofs.Ytneegocbknkhjaa.Ck
open Go.RowKit Rw Mm Go.Maps Pk
set_option linter.unusedVariables false

/-- So many Sets by 0, a Store by 0; then Loads and Gets by others. -/
structure Hand (k i : Nat) (bare : Bool) (lg : List Ev) : Prop where
  k1 : 1 ≤ k
  kl : k < lg.length
  set : ∀ x, x < k → lg[x]? = some ⟨0, 3, 0, true⟩
  st : lg[k]? = some ⟨0, 1, 0, true⟩
  rest : ∀ x e, k < x → lg[x]? = some e → 1 ≤ e.w ∧ e.w ≤ (i : Int) ∧ (e.k = 0 ∨ e.k = 2) ∧ e.a = 0 ∧ e.ok = true
  no : bare = false → ∀ x e, k < x → lg[x]? = some e → e.k = 2 → ∃ y c, k < y ∧ y < x ∧ lg[y]? = some c ∧ c.k = 0 ∧ c.w = e.w ∧ c.a = 0 ∧ c.ok = true
  yes : bare = true → ∃ x e, k < x ∧ lg[x]? = some e ∧ e.k = 2 ∧ ∀ y c, y < x → lg[y]? = some c → c.w ≠ e.w
theorem get_snoc {lg : List Ev} {e : Ev} {x : Nat} {c : Ev} (h : (lg ++ [e])[x]? = some c) : (x < lg.length ∧ lg[x]? = some c) ∨ (x = lg.length ∧ c = e) := by
  by_cases hx : x < lg.length
  · rw [List.getElem?_append_left hx] at h; exact .inl ⟨hx, h⟩
  · have hl := (List.getElem?_eq_some_iff.1 h).1
    simp at hl
    have : x = lg.length := by omega
    subst this
    rw [List.getElem?_append_right (Nat.le_refl _)] at h
    simp at h
    exact .inr ⟨rfl, h.symm⟩
theorem snoc_left {lg : List Ev} {e c : Ev} {x : Nat} (h : lg[x]? = some c) : (lg ++ [e])[x]? = some c := by
  rw [List.getElem?_append_left (List.getElem?_eq_some_iff.1 h).1]; exact h
theorem hand_start {k : Nat} (hk : 1 ≤ k) {lg : List Ev} (hl : lg = List.replicate k ⟨0, 3, 0, true⟩ ++ [⟨0, 1, 0, true⟩]) : Hand k 0 false lg := by
  subst hl
  refine ⟨hk, by simp, fun x hx => ?_, ?_, fun x e hx he => ?_, fun _ x e hx he => ?_, fun h => by cases h⟩
  · rw [List.getElem?_append_left (by simpa using hx), List.getElem?_replicate, if_pos hx]
  · rw [List.getElem?_append_right (by simp)]; simp
  · have := (List.getElem?_eq_some_iff.1 he).1
    simp at this; omega
  · have := (List.getElem?_eq_some_iff.1 he).1
    simp at this; omega
/-- One who looks at the word, and then at the box. -/
theorem hand_look {k i : Nat} {b : Bool} {lg : List Ev} (h : Hand k i b lg) : Hand k (i + 1) b ((lg ++ [⟨(i : Int) + 1, 0, 0, true⟩]) ++ [⟨(i : Int) + 1, 2, 0, true⟩]) := by
  have hkl := h.kl
  refine ⟨h.k1, by simp; omega, fun x hx => snoc_left (snoc_left (h.set x hx)), snoc_left (snoc_left h.st), fun x e hx he => ?_, fun hb x e hx he hk => ?_, fun hb => ?_⟩
  · rcases get_snoc he with ⟨_, he⟩ | ⟨_, rfl⟩
    · rcases get_snoc he with ⟨_, he⟩ | ⟨_, rfl⟩
      · obtain ⟨h1, h2, h3⟩ := h.rest x e hx he
        exact ⟨h1, by omega, h3⟩
      · exact ⟨by simp only; omega, by simp, .inl rfl, rfl, rfl⟩
    · exact ⟨by simp only; omega, by simp, .inr rfl, rfl, rfl⟩
  · rcases get_snoc he with ⟨_, he⟩ | ⟨hxl, rfl⟩
    · rcases get_snoc he with ⟨_, he⟩ | ⟨_, rfl⟩
      · obtain ⟨y, c, q1, q2, q3, q4⟩ := h.no hb x e hx he hk
        exact ⟨y, c, q1, q2, snoc_left (snoc_left q3), q4⟩
      · simp at hk
    · refine ⟨lg.length, ⟨(i : Int) + 1, 0, 0, true⟩, hkl, by simp at hxl; omega, snoc_left ?_, rfl, rfl, rfl, rfl⟩
      rw [List.getElem?_append_right (Nat.le_refl _)]; simp
  · obtain ⟨x, e, q1, q2, q3, q4⟩ := h.yes hb
    have hxl := (List.getElem?_eq_some_iff.1 q2).1
    refine ⟨x, e, q1, snoc_left (snoc_left q2), q3, fun y c hy hc => ?_⟩
    rcases get_snoc hc with ⟨_, hc⟩ | ⟨hy2, _⟩
    · rcases get_snoc hc with ⟨_, hc⟩ | ⟨hy2, _⟩
      · exact q4 y c hy hc
      · omega
    · simp at hy2; omega
/-- One who doesn't. -/
theorem hand_bare {k i : Nat} {b : Bool} {lg : List Ev} (h : Hand k i b lg) : Hand k (i + 1) true (lg ++ [⟨(i : Int) + 1, 2, 0, true⟩]) := by
  have hkl := h.kl
  refine ⟨h.k1, by simp; omega, fun x hx => snoc_left (h.set x hx), snoc_left h.st, fun x e hx he => ?_, (fun hb => by cases hb), fun _ => ?_⟩
  · rcases get_snoc he with ⟨_, he⟩ | ⟨_, rfl⟩
    · obtain ⟨h1, h2, h3⟩ := h.rest x e hx he
      exact ⟨h1, by omega, h3⟩
    · exact ⟨by simp only; omega, by simp, .inr rfl, rfl, rfl⟩
  · refine ⟨lg.length, ⟨(i : Int) + 1, 2, 0, true⟩, hkl, ?_, rfl, fun y c hy hc => ?_⟩
    · rw [List.getElem?_append_right (Nat.le_refl _)]; simp
    · rcases get_snoc hc with ⟨hyl, hc⟩ | ⟨hy2, _⟩
      · by_cases h1 : y < k
        · rw [h.set y h1] at hc; cases hc; simp; omega
        · by_cases h2 : y = k
          · subst h2; rw [h.st] at hc; cases hc; simp; omega
          · have := (h.rest y c (by omega) hc).2.1
            simp only
            omega
      · omega
theorem hand_at {k i : Nat} {b : Bool} {lg : List Ev} (h : Hand k i b lg) {x : Nat} {c : Ev} (hc : lg[x]? = some c) : (x < k ∧ c = ⟨0, 3, 0, true⟩) ∨ (x = k ∧ c = ⟨0, 1, 0, true⟩) ∨ k < x := by
  by_cases h1 : x < k
  · rw [h.set x h1] at hc; exact .inl ⟨h1, (Option.some.inj hc).symm⟩
  · by_cases h2 : x = k
    · subst h2; rw [h.st] at hc; exact .inr (.inl ⟨rfl, (Option.some.inj hc).symm⟩)
    · exact .inr (.inr (by omega))
theorem hand_none {k i : Nat} {lg : List Ev} (h : Hand k i false lg) : IsFirst lg (-1) (-1) := by
  refine .inl ⟨rfl, rfl, fun x y hm => ?_⟩
  obtain ⟨hxy, a, e, ha, he, p1, p2, p3, p4, p5, p6⟩ := hm
  -- the second one is a Get of another one's
  have hky : k < y := by
    rcases hand_at h he with ⟨hy, rfl⟩ | ⟨hy, rfl⟩ | hy
    · have := h.set x (by omega)
      rw [ha] at this; cases this; exact absurd rfl p4
    · simp at p2
    · exact hy
  obtain ⟨r1, r2, r3, r4, r5⟩ := h.rest y e hky he
  have hek : e.k = 2 := by omega
  have hxk : x < k := by
    rcases hand_at h ha with ⟨hx, _⟩ | ⟨hx, rfl⟩ | hx
    · exact hx
    · simp at p1
    · have := h.rest x a hx ha
      omega
  have hax := h.set x hxk
  rw [ha] at hax; cases hax
  obtain ⟨z, c, q1, q2, q3, q4, q5, q6, q7⟩ := h.no rfl y e hky he hek
  refine p6 (.more (m := z) (.more (m := k) (.one ?_) ?_) ?_)
  · exact step_who hxk ha h.st (by unfold Th; simp) (by unfold Th; simp) rfl
  · refine ⟨q1, _, _, h.st, q3, by unfold Th; simp, by unfold Th; omega, .inr ⟨q6.symm, .inl ⟨rfl, q4, fun m d h1 h2 hd hh => ?_⟩⟩⟩
    have := h.rest m d h1 hd
    omega
  · exact step_who q2 q3 he (by unfold Th; omega) (by unfold Th; omega) q5
theorem hand_some {k i : Nat} {lg : List Ev} (h : Hand k i true lg) {x y : Int} (hf : IsFirst lg x y) : 0 ≤ x ∧ x < y := by
  rcases hf with ⟨_, _, hn⟩ | ⟨a, b, rfl, rfl, hm, _⟩
  · exfalso
    obtain ⟨z, e, q1, q2, q3, q4⟩ := h.yes rfl
    obtain ⟨r1, r2, r3, r4, r5⟩ := h.rest z e q1 q2
    have h0 := h.set 0 (by have := h.k1; omega)
    refine hn 0 z ⟨by omega, _, e, h0, q2, .inr rfl, .inl q3, r4.symm, ?_, .inl rfl, fun hb => ?_⟩
    · exact q4 0 _ (by omega) h0
    · obtain ⟨m, ⟨hmz, c, d, hc, hd, _, _, hs⟩, _⟩ := HB.last.1 hb
      rw [q2] at hd; cases hd
      rcases hs with hs | ⟨_, hs⟩
      · exact q4 m c hmz hc hs
      · rcases hs with hs | hs
        · omega
        · omega
  · have := hm.1
    omega
/-- The Mem's state. -/
structure HdM (q : Nat) (M : St) (lg : List Ev) : Prop where
  g : Mm.Good 1 1 0 q M
  sp : ∀ i, M.sp i = false
  lg : M.lg = lg
theorem hd_may {q : Nat} {M : St} {lg : List Ev} (h : HdM q M lg) {who k : Int} (hw : 0 ≤ who) (hk : 0 ≤ k ∧ k ≤ 3) : mayB M who k 0 = true := by
  unfold mayB thB
  have hc : cnt M k = 1 := by
    unfold cnt
    by_cases h1 : k = 0 ∨ k = 1
    · rw [if_pos h1]; exact h.g.a
    · rw [if_neg h1, if_pos (by omega)]; exact h.g.b
  rw [h.sp, hc, decide_eq_true (show (0 : Int) ≤ 0 by decide), decide_eq_true (show (0 : Int) < ((1 : Nat) : Int) by decide), decide_eq_true hw]; rfl
theorem hd_look {q : Nat} {M : St} {lg : List Ev} (h : HdM q M lg) {who k : Int} (hw : 0 ≤ who ∧ who ≤ 1000) (hk : 0 ≤ k ∧ k ≤ 3) : HdM (q + 1) (lookS M who k 0) (lg ++ [⟨who, k, 0, true⟩]) := by
  have hm := hd_may h hw.1 hk
  refine ⟨h.g.look ⟨by omega, by omega⟩ ⟨hk.1, by omega⟩ ⟨by decide, by decide⟩, fun i => ?_, ?_⟩
  · unfold lookS; rw [if_pos hm]; exact h.sp i
  · unfold lookS; rw [if_pos hm]; show M.lg ++ _ = _; rw [h.lg]
theorem hd_set {q : Nat} {M : St} {lg : List Ev} (h : HdM q M lg) : HdM (q + 1) (setS M 0 0 []) (lg ++ [⟨0, 3, 0, true⟩]) := by
  have hm := hd_may (k := 3) h (who := 0) (by decide) (by decide)
  refine ⟨h.g.set ⟨by decide, by decide⟩ ⟨by decide, by decide⟩ ⟨by simp, by simp⟩, fun i => ?_, ?_⟩
  · unfold setS; rw [if_pos hm]; exact h.sp i
  · unfold setS; rw [if_pos hm]; show M.lg ++ _ = _; rw [h.lg]
theorem hd_store {q : Nat} {M : St} {lg : List Ev} (h : HdM q M lg) (v : Int) : HdM (q + 1) (storeS M 0 0 v) (lg ++ [⟨0, 1, 0, true⟩]) := by
  have hm := hd_may (k := 1) h (who := 0) (by decide) (by decide)
  refine ⟨h.g.store ⟨by decide, by decide⟩ ⟨by decide, by decide⟩, fun i => ?_, ?_⟩
  · unfold storeS; rw [if_pos hm]; exact h.sp i
  · unfold storeS; rw [if_pos hm]; show M.lg ++ _ = _; rw [h.lg]
def HdZ (n : Nat) (w0 : World) (p q : Nat) (lg : List Ev) (w : World) : Prop := ∃ M, MemZ n w0 [] p M w ∧ HdM q M lg
theorem HdZ.below {n p q : Nat} {w0 w w' : World} {lg : List Ev} (h : HdZ n w0 p q lg w) (hb : Below w.heap.size w w') : HdZ n w0 p q lg w' := by
  obtain ⟨M, h1, h2⟩ := h; exact ⟨M, h1.below hb, h2⟩
theorem HdZ.kept {n p q : Nat} {w0 w : World} {lg : List Ev} (h : HdZ n w0 p q lg w) : Below n w0 w := by
  obtain ⟨M, h1, h2⟩ := h; exact h1.kept
theorem hd_more {n p q q' : Nat} {w0 w : World} {lg : List Ev} (h : HdZ n w0 p q lg w) (hq : q ≤ q') : HdZ n w0 p q' lg w := by
  obtain ⟨M, h1, h2⟩ := h
  exact ⟨M, h1, h2.g.more hq, h2.sp, h2.lg⟩
theorem hz_load {n p q : Nat} {w0 w : World} {lg : List Ev} (h : HdZ n w0 p q lg w) (hq : q ≤ 100000) {who : Int} (hw : 0 ≤ who ∧ who ≤ 1000) :
    Calls Try.prog 39 #[.pointer (some ⟨p, 0, none⟩), .int .i64 who, .int .i64 0] w fun e w' => (∃ x, e = .returned (.int .u64 x)) ∧ HdZ n w0 p (q + 1) (lg ++ [⟨who, 0, 0, true⟩]) w' := by
  obtain ⟨M, h1, h2⟩ := h
  exact (mz_load h1 h2.g (by decide) (by decide) (by decide) hq who 0 ⟨by omega, by omega⟩ ⟨by decide, by decide⟩).mono fun e w' ⟨he, hz, _⟩ => ⟨⟨_, he⟩, _, hz, hd_look h2 hw (by decide)⟩
theorem hz_get {n p q : Nat} {w0 w : World} {lg : List Ev} (h : HdZ n w0 p q lg w) (hq : q ≤ 100000) {who : Int} (hw : 0 ≤ who ∧ who ≤ 1000) :
    Calls Try.prog 36 #[.pointer (some ⟨p, 0, none⟩), .int .i64 who, .int .i64 0] w fun e w' => (∃ x, e = .returned x) ∧ HdZ n w0 p (q + 1) (lg ++ [⟨who, 2, 0, true⟩]) w' := by
  obtain ⟨M, h1, h2⟩ := h
  exact (mz_get h1 h2.g (by decide) (by decide) (by decide) hq who 0 ⟨by omega, by omega⟩ ⟨by decide, by decide⟩).mono fun e w' ⟨v, he, _, hz, _⟩ => ⟨⟨v, he⟩, _, hz, hd_look h2 hw (by decide)⟩
theorem hz_set {n p q : Nat} {w0 w : World} {lg : List Ev} (h : HdZ n w0 p q lg w) (hq : q ≤ 100000) :
    Calls Try.prog 35 #[.pointer (some ⟨p, 0, none⟩), .int .i64 0, .int .i64 0, .slice none 0 0] w fun e w' => e = .returned (.tuple #[]) ∧ HdZ n w0 p (q + 1) (lg ++ [⟨0, 3, 0, true⟩]) w' := by
  obtain ⟨M, h1, h2⟩ := h
  exact (mz_set h1 h2.g (by decide) (by decide) (by decide) hq 0 0 ⟨by decide, by decide⟩ ⟨by decide, by decide⟩ (Batch.Sl.nil _) (by simp) (fun g hg => by simp [Value.ownBlock] at hg)).mono fun e w' ⟨he, hz, _⟩ => ⟨he, _, hz, hd_set h2⟩
theorem hz_store {n p q : Nat} {w0 w : World} {lg : List Ev} (h : HdZ n w0 p q lg w) (hq : q ≤ 100000) (v : Int) :
    Calls Try.prog 38 #[.pointer (some ⟨p, 0, none⟩), .int .i64 0, .int .i64 0, .int .u64 v] w fun e w' => e = .returned (.tuple #[]) ∧ HdZ n w0 p (q + 1) (lg ++ [⟨0, 1, 0, true⟩]) w' := by
  obtain ⟨M, h1, h2⟩ := h
  exact (mz_store h1 h2.g (by decide) (by decide) (by decide) hq 0 0 v ⟨by decide, by decide⟩ ⟨by decide, by decide⟩).mono fun e w' ⟨he, hz, _⟩ => ⟨he, _, hz, hd_store h2 v⟩
theorem hz_log {n p q : Nat} {w0 w : World} {lg : List Ev} (h : HdZ n w0 p q lg w) (hq : q ≤ 1000) :
    lg.length ≤ 1000 ∧ Calls Try.prog 27 #[.pointer (some ⟨p, 0, none⟩)] w fun e w' => ∃ v, e = .returned v ∧ Rr evK w' v lg ∧ Below w.heap.size w w' ∧ n ≤ w'.heap.size := by
  obtain ⟨M, h1, h2⟩ := h
  refine ⟨by have := h2.g.l; rw [h2.lg] at this; omega, (mz_log h1 h2.g (by decide) (by decide) (by decide) (by omega)).mono fun e w' ⟨v, he, hr, hb⟩ => ⟨v, he, by rw [← h2.lg]; exact hr, hb, Nat.le_trans h1.nl hb.size⟩⟩
set_option maxRecDepth 1000000 in
set_option maxHeartbeats 16000000 in
theorem clockHands_any {w : World} (m : Int) {v : Value} {l : List Bool} (hv : Rr boolK w v l) :
    Calls Try.prog 7 #[.int .i64 m, v] w fun e w' => e = .returned (.bool true) ∧ Below w.heap.size w w' := by
  have HV := Lib.hid hv
  obtain ⟨ao, cap, rfl, hv1, hv2⟩ := hv.form
  have hlm : l.length ≤ 9223372036854775807 := by omega
  have hm5 := whoF_in (p := m) (m := 5) (by decide)
  obtain ⟨k0, hk0⟩ : ∃ k0 : Nat, whoF m 5 = (k0 : Int) := ⟨(whoF m 5).toNat, by omega⟩
  have HKE : Hid (wrap64 ((IntKind.u64.wrap m).tmod 5) = (k0 : Int)) := Lib.hid (by rw [← hk0]; exact whoF_of (by decide) (by decide))
  have hk4 : k0 ≤ 4 := by omega
  obtain ⟨K, hK⟩ : ∃ K : Nat, K = k0 + 1 := ⟨_, rfl⟩
  have HK2 : Hid (wrap64 (1 + (k0 : Int)) = (K : Int)) := Lib.hid (by unfold wrap64; omega)
  have hK1 : 1 ≤ K := by omega
  have hK5 : K ≤ 5 := by omega
  clear hk4 hK
  clear hv hv1 hm5 hk0
  go_enter Try.func7, Try.ntmps7
  go_wp2_with fail
  go_at_call 14
  refine (memNew_any 1 1 0 (by decide) (by decide) (by decide) _).mono ?_
  rintro e w1 ⟨p, τ, rfl, hm, ht, hb⟩
  have HZ := Lib.hid (memz_start (a := 0) (b := 0) (c := 0) hm ht hb)
  clear hm ht hb
  go_wp2_with fail
  go_at_call 30
  refine (cktold_any _).mono ?_
  rintro e w2 ⟨rfl, hb⟩
  have H0 : Hid (HdZ w.heap.size w p 0 [] w2) := Lib.hid ⟨_, HZ.out.below hb, good_init 1 1 0, fun _ => rfl, rfl⟩
  clear hb HZ
  go_upto_region 5 with fail
  rw [HKE.out, HK2.out]
  clear HKE HK2
  go_wp2_with fail
  go_loopg [8] 5 (fun k t wr => ∃ (i : Nat), i + k = 5 ∧ i ≤ K ∧ t = .int .i64 (i : Int) ∧ Hid (HdZ w.heap.size w p i (List.replicate i ⟨0, 3, 0, true⟩) wr))
  case atStart => exact ⟨0, rfl, by omega, rfl, H0⟩
  case round =>
    obtain ⟨i, hik, hi1, rfl, HD⟩ := hrel
    clear H0
    have hi0 : (0 : Int) ≤ (i : Int) := Int.natCast_nonneg _
    by_cases hlt : i < K
    · have hc : (i : Int) < (K : Int) := by omega
      go_wp2_with fail
      go_at_call 35
      refine (hz_set HD.out (by omega)).mono ?_
      rintro e w3 ⟨rfl, hz⟩
      have HN : Hid (HdZ w.heap.size w p (i + 1) (List.replicate (i + 1) ⟨0, 3, 0, true⟩) w3) := Lib.hid (by rw [List.replicate_succ']; exact hz)
      clear hz
      go_wp2_with fail
      go_roundg (gk - 1)
      case measure => omega
      case rel => exact ⟨i + 1, by omega, by omega, by go_num, HN⟩
    · have hie : i = K := by omega
      have hc : ¬ (i : Int) < (K : Int) := by omega
      replace HD : Hid (HdZ w.heap.size w p K (List.replicate K ⟨0, 3, 0, true⟩) wr) := Lib.hid (by rw [← hie]; exact HD.out)
      clear hlt hik hi1 hi0 hie
      go_wp2_with fail
      go_at_call 38
      refine (hz_store HD.out (by omega) 1).mono ?_
      rintro e w3 ⟨rfl, hz⟩
      have HD3 := Lib.hid hz
      have HH0 := Lib.hid (hand_start (k := K) (by omega) (lg := List.replicate K ⟨0, 3, 0, true⟩ ++ [⟨0, 1, 0, true⟩]) rfl)
      clear hz HD
      go_wp2_with fail
      go_loopg [9, 10] 20 (fun k s t wr => ∃ (i : Nat) (br : Bool) (lg : List Ev), i + k = 20 ∧ s = .bool br ∧ t = .int .i64 (i : Int) ∧ Hid (HdZ w.heap.size w p (K + 1 + 2 * i) lg wr) ∧ Hid (Hand K i br lg))
      case atStart => exact ⟨0, false, _, rfl, rfl, rfl, HD3, HH0⟩
      case round =>
        obtain ⟨i, br, lg, hik, rfl, rfl, HD, HH⟩ := hrel
        clear HD3 HH0
        have HIK := Lib.hid hik
        have hi0 : (0 : Int) ≤ (i : Int) := Int.natCast_nonneg _
        have hi9 : (i : Int) ≤ 20 := by omega
        by_cases hend : i < l.length ∧ i < 20
        · obtain ⟨h1, h2⟩ := hend
          have h1' : (i : Int) < (l.length : Int) := by omega
          have h2' : (i : Int) < 20 := by omega
          have HE2 := Lib.hid h2
          obtain ⟨bx, hx⟩ : ∃ x, l[i]? = some x := ⟨_, List.getElem?_eq_getElem h1⟩
          obtain ⟨b, off, rfl, hbl, qx⟩ := HV.out.at hx
          have HC : Hid (∀ wx, Below w.heap.size w wx → wx.cell? ⟨b, off + i, none⟩ = some (.bool bx)) := Lib.hid (fun wx hb => by
            have := (qx.below hb hbl) 0 _ (by decide) rfl
            simpa [show boolK.k = 1 from rfl] using this)
          have c0 := HC.out _ HD.out.kept
          have hw1 : Hid (0 ≤ (i : Int) + 1 ∧ (i : Int) + 1 ≤ 1000) := Lib.hid (by omega)
          clear hx qx hbl hik h1 h2
          cases bx
          · skip
            cases br
            · go_wp2_with fail
              go_at_call 36
              refine (hz_get HD.out (by omega) hw1.out).mono ?_
              rintro e w7 ⟨⟨xb, rfl⟩, hz⟩
              have HN := Lib.hid (hd_more hz (show K + 1 + 2 * i + 1 ≤ K + 1 + 2 * (i + 1) by omega))
              have HHN := Lib.hid (hand_bare HH.out)
              clear hz
              go_wp2_with fail
              go_roundg (gk - 1)
              case measure => have := HIK.out; have := HE2.out; omega
              case rel => exact ⟨i + 1, true, _, by have := HIK.out; have := HE2.out; omega, rfl, by go_num, HN, HHN⟩
            · go_wp2_with fail
              go_at_call 36
              refine (hz_get HD.out (by omega) hw1.out).mono ?_
              rintro e w7 ⟨⟨xb, rfl⟩, hz⟩
              have HN := Lib.hid (hd_more hz (show K + 1 + 2 * i + 1 ≤ K + 1 + 2 * (i + 1) by omega))
              have HHN := Lib.hid (hand_bare HH.out)
              clear hz
              go_wp2_with fail
              go_roundg (gk - 1)
              case measure => have := HIK.out; have := HE2.out; omega
              case rel => exact ⟨i + 1, true, _, by have := HIK.out; have := HE2.out; omega, rfl, by go_num, HN, HHN⟩
          · go_wp2_with fail
            go_at_call 39
            refine (hz_load HD.out (by omega) hw1.out).mono ?_
            rintro e w4 ⟨⟨xv, rfl⟩, hz⟩
            have HD4 := Lib.hid hz
            have c1 := HC.out _ hz.kept
            clear hz c0
            cases br
            · go_wp2_with fail
              go_at_call 36
              refine (hz_get HD4.out (by omega) hw1.out).mono ?_
              rintro e w7 ⟨⟨xb, rfl⟩, hz⟩
              have HN := Lib.hid (hd_more hz (show K + 1 + 2 * i + 1 + 1 ≤ K + 1 + 2 * (i + 1) by omega))
              have HHN := Lib.hid (hand_look HH.out)
              clear hz
              go_wp2_with fail
              go_roundg (gk - 1)
              case measure => have := HIK.out; have := HE2.out; omega
              case rel => exact ⟨i + 1, false, _, by have := HIK.out; have := HE2.out; omega, rfl, by go_num, HN, HHN⟩
            · go_wp2_with fail
              go_at_call 36
              refine (hz_get HD4.out (by omega) hw1.out).mono ?_
              rintro e w7 ⟨⟨xb, rfl⟩, hz⟩
              have HN := Lib.hid (hd_more hz (show K + 1 + 2 * i + 1 + 1 ≤ K + 1 + 2 * (i + 1) by omega))
              have HHN := Lib.hid (hand_look HH.out)
              clear hz
              go_wp2_with fail
              go_roundg (gk - 1)
              case measure => have := HIK.out; have := HE2.out; omega
              case rel => exact ⟨i + 1, true, _, by have := HIK.out; have := HE2.out; omega, rfl, by go_num, HN, HHN⟩
        · have hqk : K + 1 + 2 * i ≤ 1000 := by omega
          obtain ⟨hll, hlc⟩ := hz_log HD.out hqk
          have HLL := Lib.hid hll
          have HLC := Lib.hid hlc
          have HK := Lib.hid HD.out.kept
          clear hll hlc hqk
          by_cases hlt : i < l.length
          case' pos =>
            have hj0 : (i : Int) < (l.length : Int) := by omega
            have hj1 : ¬ ((i : Int) < 20) := by omega
          case' neg => have hj0 : ¬ ((i : Int) < (l.length : Int)) := by omega
          all_goals
            clear hend hlt hik
            go_wp2_with fail
            go_at_call 27
            refine HLC.out.mono ?_
            rintro e w5 ⟨vl, rfl, hrl, hbl, hns⟩
            have HRL := Lib.hid hrl
            have HNS := Lib.hid hns
            have HB5 := Lib.hid (HK.out.trans (hbl.mono (by obtain ⟨M, h1, _⟩ := HD.out; exact h1.nl)))
            clear hrl hbl hns
            go_wp2_with fail
            go_at_call 32
            refine (race_any HRL.out HLL.out).mono ?_
            rintro e w6 ⟨x, y, rfl, hf, hb6⟩
            have HB6 := Lib.hid (HB5.out.trans (hb6.mono HNS.out))
            have HFF := Lib.hid hf
            clear hf hb6
            cases br
            · obtain ⟨rfl, rfl⟩ := isFirst_one HFF.out (hand_none HH.out)
              go_wp2_with fail
              go_ret
              exact ⟨rfl, HB6.out⟩
            · obtain ⟨z1, z2⟩ := hand_some HH.out HFF.out
              go_wp2_with fail
              go_ret
              exact ⟨rfl, HB6.out⟩
end Go.Proofs.Ytneegocbknkhjaa.Ck
