/-
  PACKAGE marchlandlaw08: told.
-/
import Derived.Test.YtneegocbknkhjaaMemGood
namespace Go.Proofs.Ytneegocbknkhjaa.Mm
open Go.RowKit Rw Pk Go.Maps
set_option linter.unusedVariables false

def mt0 : St := initS 1 1 1
def mt1 : St := takeS mt0 0 0
def mt2 : St := takeS mt1 1 0
def mt3 : St := sleepS mt2 0 0
def mt4 : St := takeS mt3 1 0
def mt5 : St := takeS mt4 0 0
def mt6 : St := wakeS mt5 1 0
def mt7 : St := storeS mt6 0 0 7
def mt8 : St := lookS mt7 1 0 0
theorem mti0 : I64 0 := ⟨by decide, by decide⟩
theorem mti1 : I64 1 := ⟨by decide, by decide⟩
theorem mtg0 : Good 1 1 1 0 mt0 := good_init 1 1 1
theorem mtg1 : Good 1 1 1 1 mt1 := mtg0.take mti0 mti0
theorem mtg2 : Good 1 1 1 2 mt2 := mtg1.take mti1 mti0
theorem mtg3 : Good 1 1 1 3 mt3 := mtg2.sleep mti0 mti0
theorem mtg4 : Good 1 1 1 4 mt4 := mtg3.take mti1 mti0
theorem mtg5 : Good 1 1 1 5 mt5 := mtg4.take mti0 mti0
theorem mtg6 : Good 1 1 1 6 mt6 := mtg5.wake mti1 mti0
theorem mtg7 : Good 1 1 1 7 mt7 := mtg6.store mti0 mti0
theorem mtg8 : Good 1 1 1 8 mt8 := mtg7.look mti1 (by decide) mti0
theorem mte1 : takeV mt0 0 0 = true := by decide +kernel
theorem mte2 : takeV mt1 1 0 = false := by decide +kernel
theorem mte3 : relV mt2 0 6 0 = true := by decide +kernel
theorem mte4 : takeV mt3 1 0 = true := by decide +kernel
theorem mte5 : mt4.sp 0 = true := by decide +kernel
theorem mte6 : takeV mt4 0 0 = false := by decide +kernel
theorem mte7 : wakeV mt5 1 0 = 1 := by decide +kernel
theorem mte8 : mt7.sp 0 = false := by decide +kernel
theorem mte9 : loadV mt7 1 0 = 7 := by decide +kernel
theorem mte10 : mt8.lg.length = 7 := by decide +kernel
theorem mte11 : mt8.ls[0]? = some ⟨true, 1, []⟩ := by rfl

/-- A Mem that is alive: what was there at first isn't touched. -/
def Alive (n : Nat) (w0 : World) (p : Nat) (M : St) (w : World) : Prop := ∃ τ, MemAt τ w p M ∧ (∀ j, j < n → τ j = 0) ∧ n ≤ w.heap.size ∧ Below n w0 w
theorem Alive.step {n p : Nat} {w0 w w' : World} {M' : St} {τ : Nat → Nat} (h0 : ∀ j, j < n → τ j = 0) (hn : n ≤ w.heap.size) (hb : Below n w0 w) (h : MemP τ w p M' w') : Alive n w0 p M' w' := by
  obtain ⟨τ', h1, h2⟩ := h
  exact ⟨τ', h1, fun j hj => by rw [h2.ext j (by omega)]; exact h0 j hj, Nat.le_trans hn h2.bel.size, hb.trans (h2.below hn h0)⟩
theorem Alive.below {n p : Nat} {w0 w w' : World} {M : St} (h : Alive n w0 p M w) (hb : Below w.heap.size w w') : Alive n w0 p M w' := by
  obtain ⟨τ, h1, h2, h3, h4⟩ := h
  exact ⟨τ, h1.below hb, h2, Nat.le_trans h3 hb.size, h4.trans (hb.mono h3)⟩
theorem Alive.kept {n p : Nat} {w0 w : World} {M : St} (h : Alive n w0 p M w) : Below n w0 w := by obtain ⟨_, _, _, _, h⟩ := h; exact h
theorem al_load {n p A B C k : Nat} {w0 w : World} {M : St} (h : Alive n w0 p M w) (hG : Good A B C k M) (ha : A ≤ 65536) (hb : B ≤ 65536) (hc : C ≤ 65536) (hk : k ≤ 100000) (who a : Int) (hw : I64 who) (ha' : I64 a) :
    Calls Try.prog 39 #[.pointer (some ⟨p, 0, none⟩), .int .i64 who, .int .i64 a] w fun e w' => e = .returned (.int .u64 (loadV M who a)) ∧ Alive n w0 p (lookS M who 0 a) w' := by
  obtain ⟨τ, h1, h2, h3, h4⟩ := h
  exact (load_any h1 (hG.bnd ha hb hc (by omega)).1 who a hw ha').mono fun e w' ⟨he, hp⟩ => ⟨he, Alive.step h2 h3 h4 hp⟩
theorem al_store {n p A B C k : Nat} {w0 w : World} {M : St} (h : Alive n w0 p M w) (hG : Good A B C k M) (ha : A ≤ 65536) (hb : B ≤ 65536) (hc : C ≤ 65536) (hk : k ≤ 100000) (who a v : Int) (hw : I64 who) (ha' : I64 a) :
    Calls Try.prog 38 #[.pointer (some ⟨p, 0, none⟩), .int .i64 who, .int .i64 a, .int .u64 v] w fun e w' => e = .returned (.tuple #[]) ∧ Alive n w0 p (storeS M who a v) w' := by
  obtain ⟨τ, h1, h2, h3, h4⟩ := h
  exact (store_any h1 (hG.bnd ha hb hc (by omega)).1 who a v hw ha').mono fun e w' ⟨he, hp⟩ => ⟨he, Alive.step h2 h3 h4 hp⟩
theorem al_take {n p A B C k : Nat} {w0 w : World} {M : St} (h : Alive n w0 p M w) (hG : Good A B C k M) (ha : A ≤ 65536) (hb : B ≤ 65536) (hc : C ≤ 65536) (hk : k ≤ 100000) (who a : Int) (hw : I64 who) (ha' : I64 a) :
    Calls Try.prog 34 #[.pointer (some ⟨p, 0, none⟩), .int .i64 who, .int .i64 a] w fun e w' => e = .returned (.bool (takeV M who a)) ∧ Alive n w0 p (takeS M who a) w' := by
  obtain ⟨τ, h1, h2, h3, h4⟩ := h
  exact (take_any h1 (hG.bnd ha hb hc (by omega)).1 who a hw ha').mono fun e w' ⟨he, hp⟩ => ⟨he, Alive.step h2 h3 h4 hp⟩
theorem al_free {n p A B C k : Nat} {w0 w : World} {M : St} (h : Alive n w0 p M w) (hG : Good A B C k M) (ha : A ≤ 65536) (hb : B ≤ 65536) (hc : C ≤ 65536) (hk : k ≤ 100000) (who a : Int) (hw : I64 who) (ha' : I64 a) :
    Calls Try.prog 37 #[.pointer (some ⟨p, 0, none⟩), .int .i64 who, .int .i64 a] w fun e w' => e = .returned (.bool (relV M who 5 a)) ∧ Alive n w0 p (relS M who 5 a) w' := by
  obtain ⟨τ, h1, h2, h3, h4⟩ := h
  exact (free_any h1 (hG.bnd ha hb hc (by omega)).1 who a hw ha').mono fun e w' ⟨he, hp⟩ => ⟨he, Alive.step h2 h3 h4 hp⟩
theorem al_sleep {n p A B C k : Nat} {w0 w : World} {M : St} (h : Alive n w0 p M w) (hG : Good A B C k M) (ha : A ≤ 65536) (hb : B ≤ 65536) (hc : C ≤ 65536) (hk : k ≤ 100000) (who a : Int) (hw : I64 who) (ha' : I64 a) :
    Calls Try.prog 69 #[.pointer (some ⟨p, 0, none⟩), .int .i64 who, .int .i64 a] w fun e w' => e = .returned (.bool (relV M who 6 a)) ∧ Alive n w0 p (sleepS M who a) w' := by
  obtain ⟨τ, h1, h2, h3, h4⟩ := h
  exact (sleep_any h1 (hG.bnd ha hb hc (by omega)).1 (fun L hL => ((hG.bnd ha hb hc (by omega)).2 L hL).1) who a hw ha').mono fun e w' ⟨he, hp⟩ => ⟨he, Alive.step h2 h3 h4 hp⟩
theorem al_wake {n p A B C k : Nat} {w0 w : World} {M : St} (h : Alive n w0 p M w) (hG : Good A B C k M) (ha : A ≤ 65536) (hb : B ≤ 65536) (hc : C ≤ 65536) (hk : k ≤ 100000) (who a : Int) (hw : I64 who) (ha' : I64 a) :
    Calls Try.prog 70 #[.pointer (some ⟨p, 0, none⟩), .int .i64 who, .int .i64 a] w fun e w' => e = .returned (.int .i64 (wakeV M who a)) ∧ Alive n w0 p (wakeS M who a) w' := by
  obtain ⟨τ, h1, h2, h3, h4⟩ := h
  exact (wake_any h1 (hG.bnd ha hb hc (by omega)) who a hw ha').mono fun e w' ⟨he, hp⟩ => ⟨he, Alive.step h2 h3 h4 hp⟩
theorem al_get {n p A B C k : Nat} {w0 w : World} {M : St} (h : Alive n w0 p M w) (hG : Good A B C k M) (ha : A ≤ 65536) (hb : B ≤ 65536) (hc : C ≤ 65536) (hk : k ≤ 100000) (who a : Int) (hw : I64 who) (ha' : I64 a) :
    Calls Try.prog 36 #[.pointer (some ⟨p, 0, none⟩), .int .i64 who, .int .i64 a] w fun e w' => ∃ v, e = .returned v ∧ Batch.Own w' w.heap.size 121 v (getV M who a) ∧ Alive n w0 p (lookS M who 2 a) w' := by
  obtain ⟨τ, h1, h2, h3, h4⟩ := h
  exact (get_any h1 (hG.bnd ha hb hc (by omega)).1 who a hw ha').mono fun e w' ⟨v, he, ho, hp⟩ => ⟨v, he, ho, Alive.step h2 h3 h4 hp⟩
theorem al_set {n p A B C k : Nat} {w0 wo w : World} {M : St} {v : Value} {l : List Batch.Ch} (h : Alive n w0 p M wo) (hb' : Below wo.heap.size wo w) (hG : Good A B C k M) (ha : A ≤ 65536) (hb : B ≤ 65536) (hc : C ≤ 65536) (hk : k ≤ 100000) (who a : Int) (hw : I64 who) (ha' : I64 a) (hv : Batch.Sl w v l) (hl : l.length ≤ 1000)
    (hv0 : ∀ g, v.ownBlock = some g → wo.heap.size ≤ g) :
    Calls Try.prog 35 #[.pointer (some ⟨p, 0, none⟩), .int .i64 who, .int .i64 a, v] w fun e w' => e = .returned (.tuple #[]) ∧ Alive n w0 p (setS M who a l) w' := by
  obtain ⟨τ, h1, h2, h3, h4⟩ := h
  have hz : ∀ g, wo.heap.size ≤ g → τ g = 0 := fun g hg => by
    obtain ⟨V, hV⟩ := h1
    by_cases e : τ g = 0
    · exact e
    · have := hV.tz g e; omega
  exact (set_any (h1.below hb') (hG.bnd ha hb hc (by omega)).1 who a hw ha' hv hl (fun g hg => hz g (hv0 g hg))).mono fun e w' ⟨he, hp⟩ => ⟨he, Alive.step h2 (Nat.le_trans h3 hb'.size) (h4.trans (hb'.mono h3)) hp⟩
theorem al_asleep {n p : Nat} {w0 w : World} {M : St} (h : Alive n w0 p M w) (who : Int) (hw : I64 who) :
    Calls Try.prog 23 #[.pointer (some ⟨p, 0, none⟩), .int .i64 who] w fun e w' => e = .returned (.bool (M.sp who)) ∧ w = w' := by
  obtain ⟨τ, h1, _⟩ := h
  exact asleep_any h1 who hw
theorem al_time {n p : Nat} {w0 w : World} {M : St} (h : Alive n w0 p M w) :
    Calls Try.prog 22 #[.pointer (some ⟨p, 0, none⟩)] w fun e w' => e = .returned (.int .i64 (M.lg.length : Int)) ∧ w = w' := by
  obtain ⟨τ, h1, _⟩ := h
  exact time_any h1
theorem al_holder {n p A B C k : Nat} {w0 w : World} {M : St} (h : Alive n w0 p M w) (hG : Good A B C k M) (ha : A ≤ 65536) (hb : B ≤ 65536) (hc : C ≤ 65536) (hk : k ≤ 100000) (l : Nat) {L : La} (hL : M.ls[l]? = some L) :
    Calls Try.prog 25 #[.pointer (some ⟨p, 0, none⟩), .int .i64 (l : Int)] w fun e w' => e = .returned (.int .i64 (if L.tk then L.wh else -1)) ∧ w = w' := by
  obtain ⟨τ, h1, _⟩ := h
  exact holder_any h1 (hG.bnd ha hb hc (by omega)).1.1 l hL

/-! ### told -/
set_option maxRecDepth 1000000 in
set_option maxHeartbeats 8000000 in
theorem mtold_any (w : World) : Calls Try.prog 16 #[] w fun e w' => e = .returned (.bool true) ∧ Below w.heap.size w w' := by
  go_enter Try.func16, Try.ntmps16
  go_wp2_with fail
  go_at_call 14
  refine (memNew_any 1 1 1 (by decide) (by decide) (by decide) _).mono ?_
  rintro e w1 ⟨p, τ, rfl, hm, ht, hb⟩
  have HA := Lib.hid (show Alive w.heap.size w p mt0 w1 from ⟨τ, hm, ht, hb.size, hb⟩)
  clear hm ht hb
  go_wp2_with fail
  go_at_call 34
  refine (al_take HA.out mtg0 (by decide) (by decide) (by decide) (by decide) 0 0 mti0 mti0).mono ?_
  rw [mte1]
  rintro e w2 ⟨rfl, ha⟩
  replace HA := Lib.hid (show Alive w.heap.size w p mt1 w2 from ha)
  clear ha
  go_wp2_with fail
  go_at_call 34
  refine (al_take HA.out mtg1 (by decide) (by decide) (by decide) (by decide) 1 0 mti1 mti0).mono ?_
  rw [mte2]
  rintro e w2 ⟨rfl, ha⟩
  replace HA := Lib.hid (show Alive w.heap.size w p mt2 w2 from ha)
  clear ha
  go_wp2_with fail
  go_at_call 69
  refine (al_sleep HA.out mtg2 (by decide) (by decide) (by decide) (by decide) 0 0 mti0 mti0).mono ?_
  rw [mte3]
  rintro e w2 ⟨rfl, ha⟩
  replace HA := Lib.hid (show Alive w.heap.size w p mt3 w2 from ha)
  clear ha
  go_wp2_with fail
  go_at_call 34
  refine (al_take HA.out mtg3 (by decide) (by decide) (by decide) (by decide) 1 0 mti1 mti0).mono ?_
  rw [mte4]
  rintro e w2 ⟨rfl, ha⟩
  replace HA := Lib.hid (show Alive w.heap.size w p mt4 w2 from ha)
  clear ha
  go_wp2_with fail
  go_at_call 23
  refine (al_asleep HA.out 0 mti0).mono ?_
  rw [mte5]
  rintro e w2 ⟨rfl, rfl⟩
  go_wp2_with fail
  go_at_call 34
  refine (al_take HA.out mtg4 (by decide) (by decide) (by decide) (by decide) 0 0 mti0 mti0).mono ?_
  rw [mte6]
  rintro e w2 ⟨rfl, ha⟩
  replace HA := Lib.hid (show Alive w.heap.size w p mt5 w2 from ha)
  clear ha
  go_wp2_with fail
  go_at_call 70
  refine (al_wake HA.out mtg5 (by decide) (by decide) (by decide) (by decide) 1 0 mti1 mti0).mono ?_
  rw [mte7]
  rintro e w2 ⟨rfl, ha⟩
  replace HA := Lib.hid (show Alive w.heap.size w p mt6 w2 from ha)
  clear ha
  go_wp2_with fail
  go_at_call 38
  refine (al_store HA.out mtg6 (by decide) (by decide) (by decide) (by decide) 0 0 7 mti0 mti0).mono ?_
  rintro e w2 ⟨rfl, ha⟩
  replace HA := Lib.hid (show Alive w.heap.size w p mt7 w2 from ha)
  clear ha
  go_wp2_with fail
  go_at_call 23
  refine (al_asleep HA.out 0 mti0).mono ?_
  rw [mte8]
  rintro e w2 ⟨rfl, rfl⟩
  go_wp2_with fail
  go_at_call 39
  refine (al_load HA.out mtg7 (by decide) (by decide) (by decide) (by decide) 1 0 mti1 mti0).mono ?_
  rw [mte9]
  rintro e w2 ⟨rfl, ha⟩
  replace HA := Lib.hid (show Alive w.heap.size w p mt8 w2 from ha)
  clear ha
  go_wp2_with fail
  go_at_call 22
  refine (al_time HA.out).mono ?_
  rw [mte10]
  rintro e w2 ⟨rfl, rfl⟩
  go_wp2_with fail
  go_at_call 25
  refine (al_holder HA.out mtg8 (by decide) (by decide) (by decide) (by decide) 0 mte11).mono ?_
  rintro e w2 ⟨rfl, rfl⟩
  go_wp2_with fail
  go_ret
  exact ⟨rfl, HA.out.kept⟩
end Go.Proofs.Ytneegocbknkhjaa.Mm
