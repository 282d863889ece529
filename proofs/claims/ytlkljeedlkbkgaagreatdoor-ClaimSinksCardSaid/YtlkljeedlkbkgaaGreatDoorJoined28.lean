/-
  YtlkljeedlkbkgaaGreatDoorClBoth
  YtlkljeedlkbkgaaGreatDoorClDoK
  YtlkljeedlkbkgaaGreatDoorClDoB
-/
import Derived.Test.YtlkljeedlkbkgaaGreatDoorClDoM
import Derived.Test.YtlkljeedlkbkgaaGreatDoorClOpenOk
import Derived.Test.YtlkljeedlkbkgaaGreatDoorClRefOpen
import Derived.Test.YtlkljeedlkbkgaaGreatDoorJoined24
import Derived.Test.YtlkljeedlkbkgaaGreatDoorClRefClo
import Derived.Test.YtlkljeedlkbkgaaGreatDoorJoined25
import Derived.Test.YtlkljeedlkbkgaaGreatDoorClRefUp
import Derived.Test.YtlkljeedlkbkgaaGreatDoorJoined27
import Derived.Test.YtlkljeedlkbkgaaGreatDoorClTo
namespace Go.Proofs.YtlkljeedlkbkgaaGreatDoor.Cl
open Go.RowKit Gr Go.Proofs.YtlkljeedlkbkgaaGreatDoor.Fault
set_option linter.unusedVariables false
structure Res where
  hs : List Ed
  bs : List Batch.Ch
  ch : List Batch.Ch
  pl : List Pl
  k : Int
structure ResP (m : Nat) (M : Nat → Nat → Int) (H : List Ed) (B : List Batch.Ch) (R : Res) : Prop where
  own : OwnP m R.hs R.bs
  chg : Chg m M H B R.hs R.bs R.ch
  hl : R.hs.length ≤ H.length + 1
  bl : R.bs.length ≤ B.length + 20
  small : (∀ x ∈ R.pl, Small x) ∧ R.pl.length ≤ 2
  kr : 0 ≤ R.k ∧ R.k ≤ 14
def CQ (R : Res) (w : World) (e : Ending) (w' : World) : Prop := ∃ a1 n1 c1 a2 n2 c2 a3 n3 c3 ve, e = .returned (.tuple #[.agg #[.slice a1 n1 c1, .slice a2 n2 c2], .slice a3 n3 c3, ve]) ∧ Sl w' (.slice a1 n1 c1) R.hs ∧ Batch.Sl w' (.slice a2 n2 c2) R.bs ∧ Batch.Sl w' (.slice a3 n3 c3) R.ch ∧ ErrIs w' ve (R.pl, R.k) ∧ Below w.heap.size w w'
def RQ (R : Res) (w : World) (e : Ending) (w' : World) : Prop := ∃ a1 n1 c1 a2 n2 c2 a3 n3 c3 a4 n4 c4, e = .returned (.tuple #[.agg #[.slice a1 n1 c1, .slice a2 n2 c2], .slice a3 n3 c3, .slice a4 n4 c4, .int .i64 R.k]) ∧ Sl w' (.slice a1 n1 c1) R.hs ∧ Batch.Sl w' (.slice a2 n2 c2) R.bs ∧ Batch.Sl w' (.slice a3 n3 c3) R.ch ∧ RdP w' (.slice a4 n4 c4) R.pl ∧ Below w.heap.size w w'
theorem cq_of {R : Res} {w w' : World} {vh vb v ve : Value} (h1 : Sl w' vh R.hs) (h2 : Batch.Sl w' vb R.bs) (h3 : Batch.Sl w' v R.ch) (h4 : ErrIs w' ve (R.pl, R.k)) (h5 : Below w.heap.size w w') : CQ R w (.returned (.tuple #[.agg #[vh, vb], v, ve])) w' := by
  obtain ⟨a1, c1, e1, _⟩ := id h1
  obtain ⟨a2, c2, e2, _⟩ := id h2
  obtain ⟨a3, c3, e3, _⟩ := id h3
  subst e1 e2 e3
  exact ⟨_, _, _, _, _, _, _, _, _, _, rfl, h1, h2, h3, h4, h5⟩
theorem rq_of {R : Res} {w w' : World} {vh vb v vp : Value} (h1 : Sl w' vh R.hs) (h2 : Batch.Sl w' vb R.bs) (h3 : Batch.Sl w' v R.ch) (h4 : RdP w' vp R.pl) (h5 : Below w.heap.size w w') : RQ R w (.returned (.tuple #[.agg #[vh, vb], v, vp, .int .i64 R.k])) w' := by
  obtain ⟨a1, c1, e1, _⟩ := id h1
  obtain ⟨a2, c2, e2, _⟩ := id h2
  obtain ⟨a3, c3, e3, _⟩ := id h3
  obtain ⟨a4, c4, e4, _⟩ := id h4
  subst e1 e2 e3 e4
  exact ⟨_, _, _, _, _, _, _, _, _, _, _, _, rfl, h1, h2, h3, h4, h5⟩
theorem errno_is (w : World) (k : Int) (h : k ≠ 0) : ErrIs w (Fault.errnoV k) ([], k) := ErrIs.some h rfl
theorem small_nil : (∀ x ∈ ([] : List Pl), Small x) ∧ ([] : List Pl).length ≤ 2 := ⟨by simp, by simp⟩
theorem small_one {s : ByteArray} {n : Int} (hs : s.size ≤ 20) (h : -9223372036854775808 ≤ n ∧ n ≤ 9223372036854775807) : (∀ x ∈ ([(s, n)] : List Pl), Small x) ∧ ([(s, n)] : List Pl).length ≤ 2 :=
  ⟨fun x hx => by simp at hx; subst hx; exact small_of hs h.1 h.2, by simp⟩
section
variable {m : Nat} {M : Nat → Nat → Int} {H : List Ed} {B : List Batch.Ch}
theorem ResP.err (hM : MT M m) (hP : OwnP m H B) {pl : List Pl} {k : Int} (hs : (∀ x ∈ pl, Small x) ∧ pl.length ≤ 2) (hk : 0 ≤ k ∧ k ≤ 14) : ResP m M H B ⟨H, B, [], pl, k⟩ :=
  ⟨hP, Chg.none hM hP, Nat.le_succ _, Nat.le_add_right _ _, hs, hk⟩
theorem open_both (hm : m ≤ 64) (hM : MT M m) (hP : OwnP m H B) (hl : H.length ≤ 1000) (hlb : B.length ≤ 1000) {h id : Int} (hh : -9223372036854775808 ≤ h ∧ h ≤ 9223372036854775807) (hid : id ≤ 9223372036854775807) :
    ∃ R, ResP m M H B R ∧ (∀ W vh vb, OwnAt W vh vb H B → Calls Tryz.prog 31 #[.agg #[vh, vb], .int .i64 h, .int .i64 id] W (CQ R W)) ∧ (∀ W vh vb, OwnAt W vh vb H B → Calls Tryz.prog 32 #[.agg #[vh, vb], .int .i64 h, .int .i64 id] W (RQ R W)) := by
  cases hb : hasB H h with
  | false =>
    refine ⟨⟨H, B, [], [(handleS, h)], 7⟩, ResP.err hM hP (small_one (by decide) hh) (by decide), fun W vh vb ho => (open_stale h id ho hP.rise (by omega) hb).mono ?_, fun W vh vb ho => (refopen_stale h id ho.hands ho.held hP.rise hb).mono ?_⟩
    · rintro e w' ⟨ve, rfl, he, hbl⟩
      exact cq_of (ho.hands.below hbl) (ho.held.below hbl) (Batch.Sl.nil _) he hbl
    · rintro e w' ⟨v, rfl, he, hbl⟩
      exact rq_of (R := ⟨H, B, [], [(handleS, h)], 7⟩) (ho.hands.below hbl) (ho.held.below hbl) (Batch.Sl.nil _) he hbl
  | true =>
    obtain ⟨x, hx, hxm, hxf⟩ := at_has hP.rise hb
    by_cases ha : hasB H id = true ∨ id < 0
    · refine ⟨⟨H, B, [], [], 1⟩, ResP.err hM hP small_nil (by decide), fun W vh vb ho => (open_arg h id ho hP.rise (by omega) hb hx ha).mono ?_, fun W vh vb ho => ?_⟩
      · rintro e w' ⟨rfl, hbl⟩
        exact cq_of (ho.hands.below hbl) (ho.held.below hbl) (Batch.Sl.nil _) (errno_is _ 1 (by decide)) hbl
      · by_cases hn : id < 0
        · refine (refopen_neg h id ho.hands ho.held hP.rise hb hn).mono ?_
          rintro e w' ⟨rfl, hbl⟩
          exact rq_of (R := ⟨H, B, [], [], 1⟩) (ho.hands.below hbl) (ho.held.below hbl) (Batch.Sl.nil _) (RdP.nil _) hbl
        · refine (refopen_has h id ho.hands ho.held hP.rise hb hn (ha.resolve_right hn)).mono ?_
          rintro e w' ⟨rfl, hbl⟩
          exact rq_of (R := ⟨H, B, [], [], 1⟩) (ho.hands.below hbl) (ho.held.below hbl) (Batch.Sl.nil _) (RdP.nil _) hbl
    · have h2 : hasB H id = false := by cases e : hasB H id with | false => rfl | true => exact absurd (.inl e) ha
      have h3 : ¬ id < 0 := fun e => ha (.inr e)
      obtain ⟨hP', hC⟩ := Chg.open hm hM hP hxm h2 (by omega) hid
      refine ⟨⟨withL H ⟨id, x.t, x.a⟩, B, [⟨x.t, x.a, 1⟩], [], 0⟩, ⟨hP', hC, with_length _, Nat.le_add_right _ _, small_nil, by dsimp only; decide⟩, fun W vh vb ho => (open_ok h id ho hP.rise (by omega) (by omega) hb hx h2 h3).mono ?_, fun W vh vb ho => (refopen_ok h id ho.hands ho.held hP.rise (by omega) hb hx h3 h2).mono ?_⟩
      · rintro e w' ⟨vh', vb', v, rfl, h4, h5, h6, hbl⟩
        rw [List.append_nil, sums_one (c := ⟨x.t, x.a, 1⟩) (.inl rfl)] at h6
        exact cq_of (h4.sl hP'.wfH) (h5.sl hP.wfB) (h6.sl hC.wf) (ErrIs.none _) hbl
      · rintro e w' ⟨vh', v, rfl, h4, h6, hbl⟩
        exact rq_of (R := ⟨withL H ⟨id, x.t, x.a⟩, B, [⟨x.t, x.a, 1⟩], [], 0⟩) (h4.sl hP'.wfH) (ho.held.below hbl) (h6.sl hC.wf) (RdP.nil _) hbl
theorem close_both (hm : m ≤ 64) (hM : MT M m) (hP : OwnP m H B) (hl : H.length ≤ 1000) (hlb : B.length ≤ 1000) {h : Int} (hh : -9223372036854775808 ≤ h ∧ h ≤ 9223372036854775807) :
    ∃ R, ResP m M H B R ∧ (∀ W vh vb, OwnAt W vh vb H B → Calls Tryz.prog 25 #[.agg #[vh, vb], .int .i64 h] W (CQ R W)) ∧ (∀ W vh vb, OwnAt W vh vb H B → Calls Tryz.prog 34 #[.agg #[vh, vb], .int .i64 h] W (RQ R W)) := by
  cases hb : hasB H h with
  | false =>
    refine ⟨⟨H, B, [], [(handleS, h)], 7⟩, ResP.err hM hP (small_one (by decide) hh) (by decide), fun W vh vb ho => (close_stale h ho hP.rise (by omega) hb).mono ?_, fun W vh vb ho => (refclose_stale h ho.hands ho.held hP.rise hb).mono ?_⟩
    · rintro e w' ⟨ve, rfl, he, hbl⟩
      exact cq_of (ho.hands.below hbl) (ho.held.below hbl) (Batch.Sl.nil _) he hbl
    · rintro e w' ⟨v, rfl, he, hbl⟩
      exact rq_of (R := ⟨H, B, [], [(handleS, h)], 7⟩) (ho.hands.below hbl) (ho.held.below hbl) (Batch.Sl.nil _) he hbl
  | true =>
    obtain ⟨x, hx, hxm, hxf⟩ := at_has hP.rise hb
    obtain ⟨hP', hC⟩ := Chg.close hm hM hP hx
    have hle : (H.eraseIdx (idx H h)).length ≤ H.length + 1 := by have := List.length_eraseIdx_le H (idx H h); omega
    refine ⟨⟨H.eraseIdx (idx H h), B, [⟨x.t, x.a, -1⟩], [], 0⟩, ⟨hP', hC, hle, Nat.le_add_right _ _, small_nil, by dsimp only; decide⟩, fun W vh vb ho => (close_ok h ho hP.rise (by omega) (by omega) hb hx (by omega)).mono ?_, fun W vh vb ho => (refclose_ok h ho.hands ho.held hP.rise (by omega) hb hx).mono ?_⟩
    · rintro e w' ⟨vh', vb', v, rfl, h4, h5, h6, hbl⟩
      rw [List.nil_append, sums_one (c := ⟨x.t, x.a, -1⟩) (.inr rfl)] at h6
      exact cq_of (h4.sl hP'.wfH) (h5.sl hP.wfB) (h6.sl hC.wf) (ErrIs.none _) hbl
    · rintro e w' ⟨vh', v, rfl, h4, h6, hbl⟩
      exact rq_of (R := ⟨H.eraseIdx (idx H h), B, [⟨x.t, x.a, -1⟩], [], 0⟩) (h4.sl hP'.wfH) (ho.held.below hbl) (h6.sl hC.wf) (RdP.nil _) hbl
theorem pack_adv {x : Ed} {t : Int} (hm : m ≤ 64) (hw : x.Wf) (hf : 0 ≤ x.t ∧ x.t < m ∧ x.a ≠ 18446744073709551615) (h0 : 0 ≤ t) (h1 : t ≤ 18446744073709551615) (ht : t ≠ 18446744073709551615) :
    Batch.packR [⟨x.t, x.a, -1⟩, ⟨x.t, t, 1⟩] = Batch.sumsR ([⟨x.t, t, 1⟩] ++ [⟨x.t, x.a, -1⟩]) := by
  have wa : ∀ y ∈ ([⟨x.t, t, 1⟩] ++ [⟨x.t, x.a, -1⟩] : List Batch.Ch), y.Wf := fun y hy => by
    simp at hy
    rcases hy with rfl | rfl
    · exact ⟨hw.t0, hw.t1, h0, h1, by dsimp only; decide, by dsimp only; decide⟩
    · exact one_wf hw (.inr rfl)
  have hp : ([⟨x.t, x.a, -1⟩, ⟨x.t, t, 1⟩] : List Batch.Ch).Perm ([⟨x.t, t, 1⟩] ++ [⟨x.t, x.a, -1⟩]) := List.Perm.swap _ _ _
  have wb : ∀ y ∈ ([⟨x.t, x.a, -1⟩, ⟨x.t, t, 1⟩] : List Batch.Ch), y.Wf := fun y hy => wa y (hp.mem_iff.1 hy)
  have hfw : Batch.firstWrong [⟨x.t, x.a, -1⟩, ⟨x.t, t, 1⟩] = 0 := Batch.firstWrong_none fun y hy => by
    simp at hy
    rcases hy with rfl | rfl
    · exact Batch.wrong_of_fit ⟨hf.1, by dsimp only; omega, hf.2.2⟩ (one_over (.inr rfl))
    · exact Batch.wrong_of_fit ⟨hf.1, by dsimp only; omega, ht⟩ (one_over (.inl rfl))
  have hb := two_bound (x := x) t
  obtain ⟨_, s2, _⟩ := Batch.sum_tot wa hb
  obtain ⟨_, s4, _⟩ := Batch.sum_tot wb (fun p q => by rw [Batch.tot_perm hp]; exact hb p q)
  unfold Batch.packR
  rw [if_neg (fun h => h.elim (fun h => by simp at h) (fun h => h hfw)), s4, s2]
  exact Batch.sumL_same wb wa fun p q => by rw [Batch.tot_perm hp]
theorem advance_both (hm : m ≤ 64) (hM : MT M m) (hP : OwnP m H B) (hl : H.length ≤ 1000) (hlb : B.length ≤ 1000) {h t : Int} (hh : -9223372036854775808 ≤ h ∧ h ≤ 9223372036854775807) (ht0 : 0 ≤ t) (ht1 : t ≤ 18446744073709551615) :
    ∃ R, ResP m M H B R ∧ (∀ W vh vb, OwnAt W vh vb H B → Calls Tryz.prog 24 #[.agg #[vh, vb], .int .i64 h, .int .u64 t] W (CQ R W)) ∧ (∀ W vh vb, OwnAt W vh vb H B → Calls Tryz.prog 33 #[.agg #[vh, vb], .int .i64 h, .int .u64 t] W (RQ R W)) := by
  cases hb : hasB H h with
  | false =>
    refine ⟨⟨H, B, [], [(handleS, h)], 7⟩, ResP.err hM hP (small_one (by decide) hh) (by decide), fun W vh vb ho => (advance_stale h t ho hP.rise (by omega) hb).mono ?_, fun W vh vb ho => (refadvance_stale h t ho.hands ho.held hP.rise hb).mono ?_⟩
    · rintro e w' ⟨ve, rfl, he, hbl⟩
      exact cq_of (ho.hands.below hbl) (ho.held.below hbl) (Batch.Sl.nil _) he hbl
    · rintro e w' ⟨v, rfl, he, hbl⟩
      exact rq_of (R := ⟨H, B, [], [(handleS, h)], 7⟩) (ho.hands.below hbl) (ho.held.below hbl) (Batch.Sl.nil _) he hbl
  | true =>
    obtain ⟨x, hx, hxm, hxf⟩ := at_has hP.rise hb
    by_cases hn : t = 18446744073709551615
    · subst hn
      refine ⟨⟨H, B, [], [], 1⟩, ResP.err hM hP small_nil (by decide), fun W vh vb ho => (advance_arg h 18446744073709551615 ho hP.rise (by omega) (by omega) hb hx rfl).mono ?_, fun W vh vb ho => (refadvance_never h ho.hands ho.held hP.rise hb).mono ?_⟩
      · rintro e w' ⟨rfl, hbl⟩
        exact cq_of (ho.hands.below hbl) (ho.held.below hbl) (Batch.Sl.nil _) (errno_is _ 1 (by decide)) hbl
      · rintro e w' ⟨rfl, hbl⟩
        exact rq_of (R := ⟨H, B, [], [], 1⟩) (ho.hands.below hbl) (ho.held.below hbl) (Batch.Sl.nil _) (RdP.nil _) hbl
    · by_cases hlt : t < x.a
      · refine ⟨⟨H, B, [], [], 6⟩, ResP.err hM hP small_nil (by decide), fun W vh vb ho => (advance_back h t ho hP.rise (by omega) (by omega) hb hx hn hlt).mono ?_, fun W vh vb ho => (refadvance_back h t ho.hands ho.held hP.rise hb hx hn hlt).mono ?_⟩
        · rintro e w' ⟨rfl, hbl⟩
          exact cq_of (ho.hands.below hbl) (ho.held.below hbl) (Batch.Sl.nil _) (errno_is _ 6 (by decide)) hbl
        · rintro e w' ⟨rfl, hbl⟩
          exact rq_of (R := ⟨H, B, [], [], 6⟩) (ho.hands.below hbl) (ho.held.below hbl) (Batch.Sl.nil _) (RdP.nil _) hbl
      · obtain ⟨hP', hC⟩ := Chg.advance hm hM hP hb hx hxf ht0 ht1 hn hlt
        have hwith : withL H ⟨x.f, x.t, t⟩ = H.set (idx H h) ⟨x.f, x.t, t⟩ := by
          have e := with_yes (h := ⟨x.f, x.t, t⟩) hP.rise (by rw [hxf]; exact hb)
          simp only [hxf] at e
          rw [hxf]
          exact e
        have hpk := pack_adv hm (hP.wfH x hxm) (hP.fit x hxm) ht0 ht1 hn
        refine ⟨⟨H.set (idx H h) ⟨x.f, x.t, t⟩, B, Batch.sumsR ([⟨x.t, t, 1⟩] ++ [⟨x.t, x.a, -1⟩]), [], 0⟩, ⟨hP', hC, by rw [List.length_set]; exact Nat.le_succ _, Nat.le_add_right _ _, small_nil, by dsimp only; decide⟩, fun W vh vb ho => (advance_ok h t ho hP.rise (by omega) (by omega) hb hx hn hlt ht0 ht1).mono ?_, fun W vh vb ho => (refadvance_ok h t ho.hands ho.held hP.rise (by omega) hb hx hn hlt ht0 ht1).mono ?_⟩
        · rintro e w' ⟨vh', vb', v, rfl, h4, h5, h6, hbl⟩
          exact cq_of (h4.sl hP'.wfH) (h5.sl hP.wfB) (h6.sl hC.wf) (ErrIs.none _) hbl
        · rintro e w' ⟨vh', v, rfl, h4, h6, hbl⟩
          rw [hwith] at h4
          rw [hpk] at h6
          exact rq_of (R := ⟨H.set (idx H h) ⟨x.f, x.t, t⟩, B, Batch.sumsR ([⟨x.t, t, 1⟩] ++ [⟨x.t, x.a, -1⟩]), [], 0⟩) (h4.sl hP'.wfH) (ho.held.below hbl) (h6.sl hC.wf) (RdP.nil _) hbl
theorem first_bad {α : Type} (f : α → Int) : ∀ C : List α, (∀ c ∈ C, f c = 0) ∨ ∃ (n0 : Nat) (c0 : α), C[n0]? = some c0 ∧ f c0 ≠ 0 ∧ ∀ (j : Nat) (c : α), j < n0 → C[j]? = some c → f c = 0
  | [] => .inl (by simp)
  | x :: r => by
    by_cases hx : f x = 0
    · rcases first_bad f r with h | ⟨n0, c0, h1, h2, h3⟩
      · exact .inl fun c hc => by
          rcases List.mem_cons.1 hc with rfl | hc
          · exact hx
          · exact h c hc
      · refine .inr ⟨n0 + 1, c0, by simpa using h1, h2, fun j c hj hc => ?_⟩
        cases j with
        | zero => simp at hc; subst hc; exact hx
        | succ k => exact h3 k c (by omega) (by simpa using hc)
    · exact .inr ⟨0, x, rfl, hx, fun j c hj => by omega⟩
theorem upE_small {B A : List Batch.Ch} {M : Nat → Nat → Int} {m : Nat} {c : Batch.Ch} : 0 ≤ upE B A M m c ∧ upE B A M m c ≤ 14 := by
  unfold upE
  split
  · decide
  · split
    · decide
    · split <;> decide
theorem wrongN_small (x : Batch.Ch) : 0 ≤ Batch.wrongN x ∧ Batch.wrongN x ≤ 14 := by
  unfold Batch.wrongN
  split
  · decide
  · split
    · decide
    · split <;> decide
theorem packE_small (l : List Batch.Ch) : 0 ≤ Batch.packE l ∧ Batch.packE l ≤ 14 := by
  have hf : 0 ≤ Batch.firstWrong l ∧ Batch.firstWrong l ≤ 14 := by
    rcases first_bad Batch.wrongN l with h | ⟨n0, c0, h1, h2, h3⟩
    · rw [Batch.firstWrong_none h]; decide
    · rw [Batch.firstWrong_at h1 (fun y hy => by obtain ⟨j, hj, hjy⟩ := Batch.mem_take hy; exact h3 j y hj hjy) h2]
      exact wrongN_small c0
  unfold Batch.packE
  split
  · decide
  · split
    · exact hf
    · unfold Batch.sumsE
      split <;> decide
theorem update_both (hm : m ≤ 64) (hM : MT M m) (hMU : MU M m) (hP : OwnP m H B) (hl : H.length ≤ 1000) (hlb : B.length ≤ 1000) {L : List Batch.Ch} (hL : L.length ≤ 20) (hwL : ∀ x ∈ L, x.Wf) :
    ∃ R, ResP m M H B R ∧ (∀ W vh vb vp vl base M', OwnAt W vh vb H B → (∀ i j, i < m → j < m → M i j = M' i j) → MU M' m → Mat W base vp m M' → Batch.Sl W vl L → Calls Tryz.prog 20 #[.agg #[vh, vb], vp, vl] W (CQ R W)) ∧ (∀ W vh vb vp vl base M', OwnAt W vh vb H B → (∀ i j, i < m → j < m → M i j = M' i j) → MU M' m → Mat W base vp m M' → Batch.Rd W vl L → Calls Tryz.prog 35 #[.agg #[vh, vb], vp, vl] W (RQ R W)) := by
  have hA := hP.bag hm (by omega)
  by_cases hk : Batch.packE L = 0
  · rcases first_bad (fun c => upE B (allL H B) M m c) (Batch.packR L) with hok | ⟨n0, c0, h1, h2, h3⟩
    · obtain ⟨hP', hC⟩ := Chg.update hM hP hL hwL hk hok
      have hbl : (Batch.applyR B (Batch.packR L)).length ≤ B.length + 20 := Nat.le_trans (Batch.applyR_length _ _) (by have := hC.len; omega)
      refine ⟨⟨H, Batch.applyR B (Batch.packR L), Batch.packR L, [], 0⟩, ⟨hP', hC, Nat.le_succ _, hbl, small_nil, by dsimp only; decide⟩, fun W vh vb vp vl base M' ho hMM hMU' hMt hv => (update_ok ho (by omega) (by omega) hP.hold hv hk hMt hMU' hm (fun c hc => by rw [← upE_same (fit_port hC.right hc) hMM]; exact hok c hc)).mono ?_, fun W vh vb vp vl base M' ho hMM hMU' hMt hv => (refupdate_ok ho.hands ho.held hl (by omega) hP.hold hA hv hk hMt hMU' hm (fun c hc => by rw [← upE_same (fit_port hC.right hc) hMM]; exact hok c hc)).mono ?_⟩
      · rintro e w' ⟨vh', vb', v, rfl, h4, h5, h6, hbl⟩
        exact cq_of (h4.sl hP.wfH) (h5.sl hP'.wfB) (h6.sl hC.wf) (ErrIs.none _) hbl
      · rintro e w' ⟨vb', v, rfl, h5, h6, hbl⟩
        exact rq_of (R := ⟨H, Batch.applyR B (Batch.packR L), Batch.packR L, [], 0⟩) (ho.hands.below hbl) (h5.sl hP'.wfB) (h6.sl hC.wf) (RdP.nil _) hbl
    · have hCR := Batch.pack_right hwL hk
      have hn0 : n0 < (Batch.packR L).length := (List.getElem?_eq_some_iff.1 h1).1
      have hlen := packR_len hk
      refine ⟨⟨H, B, [], [(changeS, (n0 : Int))], upE B (allL H B) M m c0⟩, ResP.err hM hP (small_one (by decide) (by omega)) upE_small, fun W vh vb vp vl base M' ho hMM hMU' hMt hv => (update_bad ho (by omega) (by omega) hP.hold hv hk hMt hMU' hm h1 (upE_same (fit_port hCR (List.mem_of_getElem? h1)) hMM).symm h2 (fun j c hj hc => by rw [← upE_same (fit_port hCR (List.mem_of_getElem? hc)) hMM]; exact h3 j c hj hc)).mono ?_, fun W vh vb vp vl base M' ho hMM hMU' hMt hv => (refupdate_bad ho.hands ho.held hl (by omega) hP.hold hA hv hk hMt hMU' hm h1 (upE_same (fit_port hCR (List.mem_of_getElem? h1)) hMM).symm h2 (fun j c hj hc => by rw [← upE_same (fit_port hCR (List.mem_of_getElem? hc)) hMM]; exact h3 j c hj hc)).mono ?_⟩
      · rintro e w' ⟨ve, rfl, he, hbl⟩
        exact cq_of (ho.hands.below hbl) (ho.held.below hbl) (Batch.Sl.nil _) he hbl
      · rintro e w' ⟨v, rfl, he, hbl⟩
        exact rq_of (R := ⟨H, B, [], [(changeS, (n0 : Int))], upE B (allL H B) M m c0⟩) (ho.hands.below hbl) (ho.held.below hbl) (Batch.Sl.nil _) he hbl
  · refine ⟨⟨H, B, [], [], Batch.packE L⟩, ResP.err hM hP small_nil (packE_small L), fun W vh vb vp vl base M' ho hMM hMU' hMt hv => (update_pack (m := m) (base := base) (M := M) ho (by omega) (by omega) hP.hold hv hk).mono ?_, fun W vh vb vp vl base M' ho hMM hMU' hMt hv => (refupdate_pack ho.hands ho.held hv hk).mono ?_⟩
    · rintro e w' ⟨rfl, hbl⟩
      exact cq_of (ho.hands.below hbl) (ho.held.below hbl) (Batch.Sl.nil _) (errno_is _ _ hk) hbl
    · rintro e w' ⟨rfl, hbl⟩
      exact rq_of (R := ⟨H, B, [], [], Batch.packE L⟩) (ho.hands.below hbl) (ho.held.below hbl) (Batch.Sl.nil _) (RdP.nil _) hbl
end
end Go.Proofs.YtlkljeedlkbkgaaGreatDoor.Cl
namespace Go.Proofs.YtlkljeedlkbkgaaGreatDoor.Cl
open Go.RowKit Gr Go.Proofs.YtlkljeedlkbkgaaGreatDoor.Fault
set_option linter.unusedVariables false
def SlB (w : World) (P : Nat) : Prop := ∀ o v, w.cell? ⟨P, o, none⟩ = some v → ∃ a n c, v = .slice a n c
theorem slb_of {w : World} {P : Nat} {a1 a2 : Option Addr} {n1 c1 n2 c2 : Nat} {T : TypeId} (h : w.heap[P]? = some (.cells #[.slice a1 n1 c1, .slice a2 n2 c2] T (0, 0))) : SlB w P := by
  intro o v hv
  have e : w.cell? ⟨P, o, none⟩ = (#[.slice a1 n1 c1, .slice a2 n2 c2] : Array Value)[o]? := by simp [World.cell?, h]
  rw [e] at hv
  match o, hv with
  | 0, hv => simp at hv; exact ⟨_, _, _, hv.symm⟩
  | 1, hv => simp at hv; exact ⟨_, _, _, hv.symm⟩
  | k + 2, hv => simp at hv
section
variable {w : World} {P i : Nat} {u : Value}
theorem cell_set (hb : ∀ a n c, u ≠ .slice a n c) {b o : Nat} (hs : SlB w P) (h : w.cell? ⟨b, o, none⟩ = some u) (j : Nat) (z : Value) : (w.setCell ⟨P, j, none⟩ z).cell? ⟨b, o, none⟩ = some u := by
  have hne : b ≠ P := fun e => by
    subst e
    obtain ⟨a, n, c, e⟩ := hs _ _ h
    exact hb a n c e
  have hh : (w.setCell ⟨P, j, none⟩ z).heap[b]? = w.heap[b]? := Go.Deep.blk_setCell_other _ _ _ _ hne
  unfold World.cell? at h ⊢
  rw [hh]
  exact h
theorem sl_set {v : Value} {l : List Ed} (hs : SlB w P) (h : Sl w v l) (j : Nat) (z : Value) : Sl (w.setCell ⟨P, j, none⟩ z) v l := by
  obtain ⟨ao, cap, rfl, hc, h1, h2, h3⟩ := h
  refine ⟨ao, cap, rfl, ?_, h1, h2, h3⟩
  rcases hc with hc | ⟨b, off, he, hc⟩
  · exact .inl hc
  · refine .inr ⟨b, off, he, fun i x hx => ?_⟩
    obtain ⟨c0, c1, c2⟩ := hc i x hx
    exact ⟨cell_set (by intros; simp) hs c0 j z, cell_set (by intros; simp) hs c1 j z, cell_set (by intros; simp) hs c2 j z⟩
theorem bsl_set {v : Value} {l : List Batch.Ch} (hs : SlB w P) (h : Batch.Sl w v l) (j : Nat) (z : Value) : Batch.Sl (w.setCell ⟨P, j, none⟩ z) v l := by
  obtain ⟨ao, cap, rfl, hc, h1, h2, h3⟩ := h
  refine ⟨ao, cap, rfl, ?_, h1, h2, h3⟩
  rcases hc with hc | ⟨b, off, he, hc⟩
  · exact .inl hc
  · refine .inr ⟨b, off, he, fun i x hx => ?_⟩
    obtain ⟨c0, c1, c2⟩ := hc i x hx
    exact ⟨cell_set (by intros; simp) hs c0 j z, cell_set (by intros; simp) hs c1 j z, cell_set (by intros; simp) hs c2 j z⟩
theorem rdp_set {v : Value} {l : List Pl} (hs : SlB w P) (h : RdP w v l) (j : Nat) (z : Value) : RdP (w.setCell ⟨P, j, none⟩ z) v l := by
  obtain ⟨ao, cap, rfl, hc⟩ := h
  refine ⟨ao, cap, rfl, ?_⟩
  rcases hc with hc | ⟨b, off, he, hc⟩
  · exact .inl hc
  · refine .inr ⟨b, off, he, fun i s n hx => ?_⟩
    obtain ⟨c0, c1⟩ := hc i s n hx
    exact ⟨cell_set (by intros; simp) hs c0 j z, cell_set (by intros; simp) hs c1 j z⟩
theorem chain_set (hs : SlB w P) (k : Int) (j : Nat) (z : Value) : ∀ (l : List Pl) (v : Value), Chain w v l (errnoV k) → Chain (w.setCell ⟨P, j, none⟩ z) v l (errnoV k)
  | [], v, h => h
  | (s, n) :: r, v, h => by
    obtain ⟨blk, v', h0, h1, h2, h3, h4⟩ := h
    have hv : ∀ a n c, v' ≠ .slice a n c := by
      obtain ⟨u, x, e⟩ := ne_nil (.inl ⟨k, rfl⟩) h4
      rw [e]
      intros
      simp
    exact ⟨blk, v', h0, cell_set hv hs h1 j z, cell_set (by intros; simp) hs h2 j z, cell_set (by intros; simp) hs h3 j z, chain_set hs k j z r v' h4⟩
theorem erris_set {v : Value} {V : List Pl × Int} (hs : SlB w P) (h : ErrIs w v V) (j : Nat) (z : Value) : ErrIs (w.setCell ⟨P, j, none⟩ z) v V := by
  rcases h with h | ⟨h1, h2, h3⟩
  · exact .inl h
  · exact .inr ⟨h1, chain_set hs V.2 j z V.1 v h2, h3⟩
end
theorem set2 {w : World} {P : Nat} {x y u1 u2 : Value} {T : TypeId} (h : w.heap[P]? = some (.cells #[x, y] T (0, 0))) : ((w.setCell ⟨P, 0, none⟩ u1).setCell ⟨P, 1, none⟩ u2).heap[P]? = some (.cells #[u1, u2] T (0, 0)) := by
  have h1 := heap_setCell_same w P 0 _ _ u1 h
  have h2 := heap_setCell_same _ P 1 _ _ u2 h1
  simpa using h2
theorem slb_set {w : World} {P : Nat} {x : Value} {a1 : Option Addr} {n1 c1 : Nat} {a2 : Option Addr} {n2 c2 : Nat} {T : TypeId} (h : w.heap[P]? = some (.cells #[x, .slice a2 n2 c2] T (0, 0))) : SlB (w.setCell ⟨P, 0, none⟩ (.slice a1 n1 c1)) P := by
  have h1 := heap_setCell_same w P 0 _ _ (.slice a1 n1 c1) h
  exact slb_of (a1 := a1) (n1 := n1) (c1 := c1) (a2 := a2) (n2 := n2) (c2 := c2) (T := T) (by simpa using h1)
structure Keeps (w w' : World) : Prop where
  sl : ∀ {v l}, Sl w v l → Sl w' v l
  bsl : ∀ {v l}, Batch.Sl w v l → Batch.Sl w' v l
  rdp : ∀ {v l}, RdP w v l → RdP w' v l
  err : ∀ {v V}, ErrIs w v V → ErrIs w' v V
theorem Keeps.below {w w' : World} (h : Below w.heap.size w w') : Keeps w w' := ⟨fun k => k.below h, fun k => k.below h, fun k => k.below h, fun k => k.below h⟩
theorem Keeps.trans {a b c : World} (h : Keeps a b) (k : Keeps b c) : Keeps a c := ⟨fun x => k.sl (h.sl x), fun x => k.bsl (h.bsl x), fun x => k.rdp (h.rdp x), fun x => k.err (h.err x)⟩
theorem Keeps.set2 {w : World} {P : Nat} {a1 a2 b1 b2 : Option Addr} {n1 c1 n2 c2 k1 d1 k2 d2 : Nat} {T : TypeId} (h : w.heap[P]? = some (.cells #[.slice a1 n1 c1, .slice a2 n2 c2] T (0, 0))) : Keeps w ((w.setCell ⟨P, 0, none⟩ (.slice b1 k1 d1)).setCell ⟨P, 1, none⟩ (.slice b2 k2 d2)) := by
  have s1 := slb_of h
  have s2 : SlB (w.setCell ⟨P, 0, none⟩ (.slice b1 k1 d1)) P := slb_set h
  exact ⟨fun x => sl_set s2 (sl_set s1 x _ _) _ _, fun x => bsl_set s2 (bsl_set s1 x _ _) _ _, fun x => rdp_set s2 (rdp_set s1 x _ _) _ _, fun x => erris_set s2 (erris_set s1 x _ _) _ _⟩
structure DoP (m : Nat) (M : Nat → Nat → Int) (H : List Ed) (B : List Batch.Ch) (w : World) (P Q R0 : Nat) (R : Res) (p1 p2 q1 q2 s11 s12 s14 s15 : Value) (wx : World) : Prop where
  res : ResP m M H B R
  hp : wx.heap[P]? = some (.cells #[p1, p2] 47 (0, 0))
  hq : wx.heap[Q]? = some (.cells #[q1, q2] 29 (0, 0))
  hr : wx.heap[R0]? = some (.cells #[.slice none 0 0, .slice none 0 0] 29 (0, 0))
  p1s : Sl wx p1 R.hs
  p2s : Batch.Sl wx p2 R.bs
  q1s : Sl wx q1 R.hs
  q2s : Batch.Sl wx q2 R.bs
  bs : Batch.Sl wx s11 R.ch
  cs : Batch.Sl wx s14 R.ch
  er : ErrIs wx s12 (R.pl, R.k)
  pl : RdP wx s15 R.pl
  bel : Below w.heap.size w wx
end Go.Proofs.YtlkljeedlkbkgaaGreatDoor.Cl
namespace Go.Proofs.YtlkljeedlkbkgaaGreatDoor.Cl
open Go.RowKit Gr Go.Proofs.YtlkljeedlkbkgaaGreatDoor.Fault
set_option linter.unusedVariables false
structure Bx (w : World) (P Q : Nat) (x1 x2 g0 g1 g2 o0 o1 o2 o3 o4 p1 p2 q1 q2 : Value) (W : World) : Prop where
  hx : W.heap[w.heap.size]? = some (.cells #[x1, x2] 29 (0, 0))
  hg : W.heap[w.heap.size + 1]? = some (.cells #[g0, g1, g2] 25 (0, 0))
  ho : W.heap[w.heap.size + 1 + 1]? = some (.cells #[o0, o1, o2, o3, o4] 38 (0, 0))
  hr : W.heap[w.heap.size + 1 + 1 + 1]? = some (.cells #[.slice none 0 0, .slice none 0 0] 29 (0, 0))
  hp : W.heap[P]? = some (.cells #[p1, p2] 47 (0, 0))
  hq : W.heap[Q]? = some (.cells #[q1, q2] 29 (0, 0))
  bel : Below w.heap.size w W
  ord : w.heap.size + 1 + 1 + 1 < P ∧ P < Q
section
variable {w W W' : World} {P Q : Nat} {x1 x2 g0 g1 g2 o0 o1 o2 o3 o4 p1 p2 q1 q2 : Value}
theorem Bx.lt (h : Bx w P Q x1 x2 g0 g1 g2 o0 o1 o2 o3 o4 p1 p2 q1 q2 W) : Q < W.heap.size := (Array.getElem?_eq_some_iff.1 h.hq).1
theorem Bx.below (h : Bx w P Q x1 x2 g0 g1 g2 o0 o1 o2 o3 o4 p1 p2 q1 q2 W) (hb : Below W.heap.size W W') : Bx w P Q x1 x2 g0 g1 g2 o0 o1 o2 o3 o4 p1 p2 q1 q2 W' := by
  have hl := h.lt
  have ho := h.ord
  exact ⟨(hb.block _ (by omega)).trans h.hx, (hb.block _ (by omega)).trans h.hg, (hb.block _ (by omega)).trans h.ho, (hb.block _ (by omega)).trans h.hr, (hb.block _ (by omega)).trans h.hp, (hb.block _ (by omega)).trans h.hq, h.bel.trans (hb.mono (by omega)), h.ord⟩
theorem blk_two {u1 u2 : Value} {b P : Nat} (h : b ≠ P) : ((W.setCell ⟨P, 0, none⟩ u1).setCell ⟨P, 1, none⟩ u2).heap[b]? = W.heap[b]? := by
  rw [Go.Deep.blk_setCell_other _ _ _ _ h, Go.Deep.blk_setCell_other _ _ _ _ h]
theorem Bx.setP (h : Bx w P Q x1 x2 g0 g1 g2 o0 o1 o2 o3 o4 p1 p2 q1 q2 W) (u1 u2 : Value) : Bx w P Q x1 x2 g0 g1 g2 o0 o1 o2 o3 o4 u1 u2 q1 q2 ((W.setCell ⟨P, 0, none⟩ u1).setCell ⟨P, 1, none⟩ u2) := by
  have ho := h.ord
  exact ⟨(blk_two (by omega)).trans h.hx, (blk_two (by omega)).trans h.hg, (blk_two (by omega)).trans h.ho, (blk_two (by omega)).trans h.hr, set2 h.hp, (blk_two (by omega)).trans h.hq, (h.bel.setCell (p := ⟨P, 0, none⟩) (by dsimp only; omega) _).setCell (p := ⟨P, 1, none⟩) (by dsimp only; omega) _, h.ord⟩
theorem Bx.setQ (h : Bx w P Q x1 x2 g0 g1 g2 o0 o1 o2 o3 o4 p1 p2 q1 q2 W) (u1 u2 : Value) : Bx w P Q x1 x2 g0 g1 g2 o0 o1 o2 o3 o4 p1 p2 u1 u2 ((W.setCell ⟨Q, 0, none⟩ u1).setCell ⟨Q, 1, none⟩ u2) := by
  have ho := h.ord
  exact ⟨(blk_two (by omega)).trans h.hx, (blk_two (by omega)).trans h.hg, (blk_two (by omega)).trans h.ho, (blk_two (by omega)).trans h.hr, (blk_two (by omega)).trans h.hp, set2 h.hq, (h.bel.setCell (p := ⟨Q, 0, none⟩) (by dsimp only; omega) _).setCell (p := ⟨Q, 1, none⟩) (by dsimp only; omega) _, h.ord⟩
theorem five_cells {w : World} {G : Nat} {a b c d e : Value} {T : TypeId} (h : w.heap[G]? = some (.cells #[a, b, c, d, e] T (0, 0))) : w.cell? ⟨G, 0, none⟩ = some a ∧ w.cell? ⟨G, 1, none⟩ = some b ∧ w.cell? ⟨G, 2, none⟩ = some c ∧ w.cell? ⟨G, 3, none⟩ = some d ∧ w.cell? ⟨G, 4, none⟩ = some e := by
  refine ⟨?_, ?_, ?_, ?_, ?_⟩ <;> simp [World.cell?, h]
theorem Bx.x (h : Bx w P Q x1 x2 g0 g1 g2 o0 o1 o2 o3 o4 p1 p2 q1 q2 W) : W.cell? ⟨w.heap.size, 0, none⟩ = some x1 ∧ W.cell? ⟨w.heap.size, 1, none⟩ = some x2 := by
  obtain ⟨a, b, _⟩ := pair_cells h.hx; exact ⟨a, b⟩
theorem Bx.g (h : Bx w P Q x1 x2 g0 g1 g2 o0 o1 o2 o3 o4 p1 p2 q1 q2 W) : W.cell? ⟨w.heap.size + 1, 0, none⟩ = some g0 ∧ W.cell? ⟨w.heap.size + 1, 1, none⟩ = some g1 ∧ W.cell? ⟨w.heap.size + 1, 2, none⟩ = some g2 := by
  obtain ⟨a, b, c, _⟩ := three_cells h.hg; exact ⟨a, b, c⟩
theorem Bx.o (h : Bx w P Q x1 x2 g0 g1 g2 o0 o1 o2 o3 o4 p1 p2 q1 q2 W) : W.cell? ⟨w.heap.size + 1 + 1, 0, none⟩ = some o0 ∧ W.cell? ⟨w.heap.size + 1 + 1, 1, none⟩ = some o1 ∧ W.cell? ⟨w.heap.size + 1 + 1, 2, none⟩ = some o2 ∧ W.cell? ⟨w.heap.size + 1 + 1, 3, none⟩ = some o3 ∧ W.cell? ⟨w.heap.size + 1 + 1, 4, none⟩ = some o4 := five_cells h.ho
theorem Bx.p (h : Bx w P Q x1 x2 g0 g1 g2 o0 o1 o2 o3 o4 p1 p2 q1 q2 W) : W.cell? ⟨P, 0, none⟩ = some p1 ∧ W.cell? ⟨P, 1, none⟩ = some p2 ∧ ∀ o, W.frozen? ⟨P, o, none⟩ = false := pair_cells h.hp
theorem Bx.q (h : Bx w P Q x1 x2 g0 g1 g2 o0 o1 o2 o3 o4 p1 p2 q1 q2 W) : W.cell? ⟨Q, 0, none⟩ = some q1 ∧ W.cell? ⟨Q, 1, none⟩ = some q2 ∧ ∀ o, W.frozen? ⟨Q, o, none⟩ = false := pair_cells h.hq
end
theorem brd_take {w : World} {ao : Option Addr} {cap : Nat} {l : List Batch.Ch} (h : Batch.Rd w (.slice ao l.length cap) l) (k : Nat) (hk : k ≤ l.length) : Batch.Rd w (.slice ao (l.take k).length cap) (l.take k) := by
  obtain ⟨ao', cap', hv, h1, h2, h3, h4⟩ := h
  simp only [Value.slice.injEq] at hv
  obtain ⟨rfl, _, rfl⟩ := hv
  have hl : (l.take k).length = k := by rw [List.length_take]; omega
  refine ⟨ao, cap, rfl, by omega, h2, fun x hx => h3 x (List.mem_of_mem_take hx), ?_⟩
  rcases h4 with h4 | ⟨b, off, ha, h4⟩
  · exact .inl (by rw [h4]; simp)
  · refine .inr ⟨b, off, ha, fun i x hx => h4 i x ?_⟩
    rw [List.getElem?_take] at hx
    split at hx
    · exact hx
    · cases hx
theorem sizeCs : ∀ w, (Go.sizeOf (Tryz.prog.elem 27)).run Tryz.prog w = .ok 3 w := by
  intro w
  simp [go_sem]
theorem six_mod (x : Int) : ∃ k : Nat, k < 6 ∧ IntKind.i64.wrap ((IntKind.u64.wrap x).tmod 6) = (k : Int) ∧ wrap64 ((IntKind.u64.wrap x).tmod 6) = (k : Int) :=
  ⟨modN 6 x, modN_lt (by decide) x, by have h := modN_tm (n := 6) (by decide) x; rw [show ((6 : Nat) : Int) = 6 from rfl] at h; rw [h]; exact (modN_w (by decide) (by decide) x).1, by have h := modN_tm (n := 6) (by decide) x; rw [show ((6 : Nat) : Int) = 6 from rfl] at h; rw [h]; exact (modN_w (by decide) (by decide) x).2⟩
end Go.Proofs.YtlkljeedlkbkgaaGreatDoor.Cl
