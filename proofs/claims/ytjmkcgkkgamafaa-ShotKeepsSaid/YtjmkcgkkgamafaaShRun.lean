/-
  PACKAGE shot: a whole Publish, a whole Read, alone.
-/
import Derived.Test.YtjmkcgkkgamafaaShStep
import Derived.Test.YtjmkcgkkgamafaaShBuild2
namespace Go.Proofs.Ytjmkcgkkgamafaa.Sh
open Go.RowKit Rw Pk Go.Maps Mm
set_option linter.unusedVariables false
/-- Of np ports the words, the version, and the latch. -/
structure Wm (np k : Nat) (V : Int) (T : List Int) (held : Bool) (who : Int) (M : Mm.St) : Prop where
  good : Mm.Good (np + 2) 0 2 k M
  sp : ∀ z, M.sp z = false
  w1 : M.ws[1]? = some V
  wt : ∀ (i : Nat) (t : Int), T[i]? = some t → M.ws[2 + i]? = some t
  lt : T.length = np
  la : ∃ L, M.ls[1]? = some L ∧ L.tk = held ∧ (held = true → L.wh = who)
section
variable {np k i : Nat} {V t who : Int} {T : List Int} {held : Bool} {M : Mm.St}
theorem Wm.mayW (h : Wm np k V T held who M) (hw : 0 ≤ who) {q a : Int} (hq : q = 0 ∨ q = 1) (ha : 0 ≤ a ∧ a ≤ (np : Int) + 1) : mayB M who q a = true := by
  have h4 := h.good.a
  unfold mayB thB cnt
  rw [if_pos hq, h4, h.sp]
  simp
  omega
theorem Wm.mayL (h : Wm np k V T held who M) (hw : 0 ≤ who) {q : Int} (hq : q = 4 ∨ q = 5) : mayB M who q 1 = true := by
  have h4 := h.good.c
  unfold mayB thB cnt
  rw [if_neg (by omega), if_neg (by omega), h4, h.sp]
  simp
  omega
theorem Wm.load1 (h : Wm np k V T held who M) (hw : 0 ≤ who) : loadV M who 1 = V := by
  unfold loadV
  rw [if_pos (h.mayW hw (.inl rfl) ⟨by decide, by omega⟩), List.getD_eq_getElem?_getD, show (1 : Int).toNat = 1 from rfl, h.w1]
  rfl
theorem Wm.loadT (h : Wm np k V T held who M) (hw : 0 ≤ who) (ht : T[i]? = some t) : loadV M who (1 + ((i : Int) + 1)) = t := by
  have hi := (List.getElem?_eq_some_iff.1 ht).1
  have hl := h.lt
  unfold loadV
  rw [if_pos (h.mayW hw (.inl rfl) ⟨by omega, by omega⟩), List.getD_eq_getElem?_getD, show (1 + ((i : Int) + 1)).toNat = 2 + i by omega, h.wt i t ht]
  rfl
theorem Wm.more (h : Wm np k V T held who M) {k' : Nat} (hk : k ≤ k') : Wm np k' V T held who M := ⟨h.good.more hk, h.sp, h.w1, h.wt, h.lt, h.la⟩
theorem Wm.look (h : Wm np k V T held who M) (hw : 0 ≤ who) (hwi : I64 who) {a : Int} (ha : 0 ≤ a ∧ a ≤ (np : Int) + 1) (hn : np ≤ 64) : Wm np (k + 1) V T held who (lookS M who 0 a) ∧ (lookS M who 0 a).lg.length = M.lg.length + 1 := by
  have hg := h.good.look (who := who) (q := 0) (a := a) hwi (by decide) ⟨by omega, by omega⟩
  unfold lookS at *
  rw [if_pos (h.mayW hw (.inl rfl) ha)] at *
  exact ⟨⟨hg, h.sp, h.w1, h.wt, h.lt, h.la⟩, by simp [St.note]⟩
theorem Wm.store1 (h : Wm np k V T held who M) (hw : 0 ≤ who) (hwi : I64 who) (v : Int) (hn : np ≤ 64) : Wm np (k + 1) v T held who (storeS M who 1 v) ∧ (storeS M who 1 v).lg.length = M.lg.length + 1 := by
  have hg := h.good.store (who := who) (a := 1) (v := v) hwi ⟨by decide, by decide⟩
  have h4 := h.good.a
  unfold storeS at *
  rw [if_pos (h.mayW hw (.inr rfl) ⟨by decide, by omega⟩)] at *
  refine ⟨⟨hg, h.sp, List.getElem?_set_self (by omega), fun i t ht => (List.getElem?_set_ne (by show (1 : Int).toNat ≠ 2 + i; simp; omega)).trans (h.wt i t ht), h.lt, h.la⟩, by simp [St.note]⟩
theorem Wm.storeT (h : Wm np k V T held who M) (hw : 0 ≤ who) (hwi : I64 who) (hi : i < np) (v : Int) (hn : np ≤ 64) : Wm np (k + 1) V (T.set i v) held who (storeS M who (1 + ((i : Int) + 1)) v) ∧ (storeS M who (1 + ((i : Int) + 1)) v).lg.length = M.lg.length + 1 := by
  have hg := h.good.store (who := who) (a := 1 + ((i : Int) + 1)) (v := v) hwi ⟨by omega, by omega⟩
  have h4 := h.good.a
  have hl := h.lt
  unfold storeS at *
  rw [if_pos (h.mayW hw (.inr rfl) ⟨by omega, by omega⟩)] at *
  have e : (1 + ((i : Int) + 1)).toNat = 2 + i := by omega
  refine ⟨⟨hg, h.sp, (List.getElem?_set_ne (by rw [e]; omega)).trans h.w1, fun j t ht => ?_, by rw [List.length_set]; exact hl, h.la⟩, by simp [St.note]⟩
  show (M.ws.set (1 + ((i : Int) + 1)).toNat v)[2 + j]? = some t
  rw [e]
  by_cases hj : i = j
  · subst hj
    rw [List.getElem?_set_self (by omega)] at ht
    rw [List.getElem?_set_self (by omega)]
    exact ht
  · rw [List.getElem?_set_ne hj] at ht
    rw [List.getElem?_set_ne (by omega)]
    exact h.wt j t ht
theorem Wm.take (h : Wm np k V T false who M) {who' : Int} (hw : 0 ≤ who') (hwi : I64 who') : takeV M who' 1 = true ∧ Wm np (k + 1) V T true who' (takeS M who' 1) ∧ (takeS M who' 1).lg.length = M.lg.length + 1 := by
  obtain ⟨L, hL, ht, _⟩ := h.la
  have hg := h.good.take (who := who') (a := 1) hwi ⟨by decide, by decide⟩
  have hm : mayB M who' 4 1 = true := by
    have h4 := h.good.c
    unfold mayB thB cnt
    rw [if_neg (by omega), if_neg (by omega), h4, h.sp]
    simp
    omega
  have hla : latA M 1 = L := latA_of (i := 1) hL
  have hc := h.good.c
  have htv : takeV M who' 1 = true := by unfold takeV; rw [hm, hla, ht]; rfl
  have hts : takeS M who' 1 = { M.note ⟨who', 4, 1, true⟩ with ls := M.ls.set (1 : Int).toNat ⟨true, who', L.sl⟩ } := by unfold takeS; rw [if_pos hm, hla, if_neg (by rw [ht]; simp)]
  rw [hts] at hg ⊢
  refine ⟨htv, ⟨hg, h.sp, h.w1, h.wt, h.lt, ⟨⟨true, who', L.sl⟩, ?_, rfl, fun _ => rfl⟩⟩, by simp [St.note]⟩
  exact List.getElem?_set_self (by show (1 : Int).toNat < M.ls.length; rw [hc]; decide)
theorem Wm.free (h : Wm np k V T true who M) (hw : 0 ≤ who) (hwi : I64 who) : Wm np (k + 1) V T false who (relS M who 5 1) ∧ (relS M who 5 1).lg.length = M.lg.length + 1 := by
  obtain ⟨L, hL, ht, hwh⟩ := h.la
  have hg := h.good.rel (who := who) (q := 5) (a := 1) hwi (by decide) ⟨by decide, by decide⟩
  have hla : latA M 1 = L := latA_of (i := 1) hL
  have hc := h.good.c
  have hb : hasB M who L = true := by
    unfold hasB
    simp [ht, hwh rfl]
  have hrs : relS M who 5 1 = { M.note ⟨who, 5, 1, true⟩ with ls := M.ls.set (1 : Int).toNat ⟨false, L.wh, L.sl⟩ } := by unfold relS; rw [if_pos (h.mayL hw (.inr rfl)), hla, if_pos hb]
  rw [hrs] at hg ⊢
  refine ⟨⟨hg, h.sp, h.w1, h.wt, h.lt, ⟨⟨false, L.wh, L.sl⟩, ?_, rfl, fun e => by cases e⟩⟩, by simp [St.note]⟩
  exact List.getElem?_set_self (by show (1 : Int).toNat < M.ls.length; rw [hc]; decide)
theorem Wm.idle (h : Wm np k V T false who M) (who' : Int) : Wm np k V T false who' M := ⟨h.good, h.sp, h.w1, h.wt, h.lt, by obtain ⟨L, h1, h2, _⟩ := h.la; exact ⟨L, h1, h2, fun e => by cases e⟩⟩
theorem wm_init (np : Nat) : Wm np 0 0 (List.replicate np 0) false 0 (initS (np + 2) 0 2) :=
  ⟨good_init (np + 2) 0 2, fun _ => rfl, by simp [initS], fun i t ht => by
    have hi := (List.getElem?_eq_some_iff.1 ht).1
    simp at hi
    rw [List.getElem?_replicate, if_pos hi] at ht
    simp only [initS]
    rw [List.getElem?_replicate, if_pos (by omega)]
    exact ht, by simp, ⟨⟨false, 0, []⟩, rfl, rfl, fun e => by cases e⟩⟩
end
section
variable {w w' : World} {S : Si} {A : Sa} {n a s p np k i : Nat} {w0 wr : World} {fs zs : List Nat} {P T Tn : List Int} {D D' : List (Int × Int)} {M M' : Mm.St} {V who tr : Int} {tv dv pv : Value}
set_option maxRecDepth 1000000 in
set_option maxHeartbeats 8000000 in
theorem shfinish_any {K : Nat} (h1 : 1 ≤ K) (h8 : K ≤ 256) {S : Nat → World → Prop} (hS : S 0 w)
    (hst : ∀ j, j < K → ∀ w, S j w → Calls Try.prog 93 #[.pointer (some ⟨a, 0, none⟩)] w fun e w' => e = .returned (.bool (decide (j + 1 = K))) ∧ S (j + 1) w')
    (hov : ∀ w, S K w → Calls Try.prog 52 #[.pointer (some ⟨a, 0, none⟩)] w fun e w' => e = .returned (.bool true) ∧ w = w') :
    Calls Try.prog 55 #[.pointer (some ⟨a, 0, none⟩)] w fun e w' => e = .returned (.bool true) ∧ S K w' := by
  have HS := Lib.hid hS
  have HST := Lib.hid hst
  have HOV := Lib.hid hov
  clear hS hst hov
  go_enter Try.func55, Try.ntmps55
  go_wp2_with fail
  go_loopg [3] 256 (fun k t wr => ∃ i : Nat, i + k = 256 ∧ i < K ∧ t = .int .i64 (i : Int) ∧ S i wr)
  case atStart => exact ⟨0, rfl, by omega, rfl, HS.out⟩
  case round =>
    obtain ⟨i, hik, hiK, rfl, hs⟩ := hrel
    have hi8 : (i : Int) < 256 := by omega
    have hj2 : decide ((i : Int) < 256) = true := decide_eq_true hi8
    have hwi : IntKind.i64.wrap ((i : Int) + 1) = ((i + 1 : Nat) : Int) := by simp [IntKind.wrap, IntKind.bits, IntKind.signed]; omega
    by_cases hlast : i + 1 = K
    · go_wp2_with fail
      go_at_call 93
      refine (HST.out i hiK _ hs).mono ?_
      rw [decide_eq_true hlast]
      rintro e w2 ⟨rfl, hs2⟩
      rw [hlast] at hs2
      have HS2 := Lib.hid hs2
      clear hs hs2
      go_wp2_with fail
      go_at_call 52
      refine (HOV.out _ HS2.out).mono ?_
      rintro e w3 ⟨rfl, rfl⟩
      go_wp2_with fail
      go_ret
      exact ⟨rfl, HS2.out⟩
    · go_wp2_with fail
      go_at_call 93
      refine (HST.out i hiK _ hs).mono ?_
      rw [decide_eq_false hlast]
      rintro e w2 ⟨rfl, hs2⟩
      have HS2 := Lib.hid hs2
      clear hs hs2
      go_wp2_with fail
      go_roundg (gk - 1)
      case measure => omega
      case rel => exact ⟨i + 1, by omega, by omega, by go_num, HS2.out⟩
/-! ### Publish -/
def pubE : List (Int × Int) := [(1, 0), (5, 0)]
/-- A Publish when it has made j accesses. -/
def PubI (np k g0 : Nat) (V : Int) (Tn : List Int) (who : Int) (j : Nat) (D : List (Int × Int)) (ver mk : Int) (M : Mm.St) : Prop :=
  M.lg.length = g0 + j ∧
  ((j = 0 ∧ D = pubD np ∧ ver = 0 ∧ mk = 0 ∧ ∃ T who', Wm np (k + j) V T false who' M) ∨
   (j = 1 ∧ D = (0, 0) :: (1, 0) :: (pubT 0 np ++ pubE) ∧ ver = 0 ∧ mk = 0 ∧ ∃ T, Wm np (k + j) V T true who M) ∨
   (j = 2 ∧ D = (1, 0) :: (pubT 0 np ++ pubE) ∧ V = ver ∧ mk = 0 ∧ ∃ T, Wm np (k + j) V T true who M) ∨
   (∃ i, j = 3 + i ∧ i ≤ np ∧ D = pubT i (np - i) ++ pubE ∧ ver = V + 1 ∧ mk = 0 ∧ ∃ T, Wm np (k + j) (V + 1) T true who M ∧ ∀ q, q < i → T[q]? = Tn[q]?) ∨
   (j = np + 4 ∧ D = [(5, 0)] ∧ ver = V + 2 ∧ mk = (M.lg.length : Int) ∧ Wm np (k + j) (V + 2) Tn true who M) ∨
   (j = np + 5 ∧ D = [] ∧ ver = V + 2 ∧ (g0 : Int) < mk ∧ mk ≤ (M.lg.length : Int) ∧ Wm np (k + j) (V + 2) Tn false who M))
def PubS (n : Nat) (w0 wr : World) (fs : List Nat) (a s p np k g0 : Nat) (V tr : Int) (Tn : List Int) (who : Int) (j : Nat) (w : World) : Prop :=
  ∃ zs tv dv D ver mk M, PubI np k g0 V Tn who j D ver mk M ∧ Sg n w0 wr fs zs a s ⟨p, 1, 1, np, tr⟩ ⟨s, who, true, .slice none 0 0, tv, dv, ver, 0, mk⟩ [] Tn D M w
theorem pubT_cons (i m : Nat) : pubT i (m + 1) = (1, (i : Int) + 1) :: pubT (i + 1) m := by unfold pubT; rw [List.range'_succ]; rfl
theorem shpub_step {g0 j : Nat} (hj : j < np + 5) (hnp : 1 ≤ np ∧ np ≤ 64) (hl : Tn.length = np) (hw : 0 ≤ who ∧ who ≤ 1000) (hV : 0 ≤ V ∧ V ≤ 900000) (hk : k ≤ 90000) (h : PubS n w0 wr fs a s p np k g0 V tr Tn who j w) :
    Calls Try.prog 93 #[.pointer (some ⟨a, 0, none⟩)] w fun e w' => e = .returned (.bool (decide (j + 1 = np + 5))) ∧ PubS n w0 wr fs a s p np k g0 V tr Tn who (j + 1) w' := by
  have hwi : I64 who := ⟨by omega, by omega⟩
  have hwd : (0 : Int) ≤ 1 ∧ (1 : Int) ≤ 100000 := by decide
  obtain ⟨zs, tv, dv, D, ver, mk, M, ⟨hlg, hI⟩, hs⟩ := h
  rcases hI with ⟨rfl, rfl, rfl, rfl, T, who', hm⟩ | ⟨rfl, rfl, rfl, rfl, T, hm⟩ | ⟨rfl, rfl, rfl, rfl, T, hm⟩ | ⟨i, rfl, hi, rfl, rfl, rfl, T, hm, hq⟩ | ⟨rfl, rfl, rfl, rfl, hm⟩ | ⟨rfl, _⟩
  · obtain ⟨t1, t2, t3⟩ := hm.take hw.1 hwi
    refine (shstep_take hs (hm.sp _) hm.good (by omega) (by decide) (by decide) (by omega) hwi ⟨by show _ ≤ (1 : Int); decide, by show (1 : Int) ≤ _; decide⟩ t1).mono ?_
    rintro e w2 ⟨rfl, zs', dv', tv', z1, z2, hs'⟩
    exact ⟨by first | (simp; done) | (simp; omega), zs', tv', dv', _, 0, 0, _, ⟨by have := t3; omega, .inr (.inl ⟨rfl, rfl, rfl, rfl, T, t2⟩)⟩, hs'⟩
  · obtain ⟨t2, t3⟩ := hm.look hw.1 hwi (a := 1) ⟨by decide, by omega⟩ hnp.2
    have e1 := hm.load1 hw.1
    refine (shstep_load0 hs (hm.sp _) hm.good (by omega) (by decide) (by decide) (by omega) hwi hwd (fun h => by cases h) (fun h => by cases h)).mono ?_
    rintro e w2 ⟨rfl, zs', dv', tv', z1, z2, hs'⟩
    change Sg n w0 wr fs zs' a s _ ⟨s, who, true, .slice none 0 0, tv', dv', loadV M who 1, 0, 0⟩ [] Tn _ _ w2 at hs'
    rw [e1] at hs'
    exact ⟨by first | (simp; done) | (simp; omega), zs', tv', dv', _, V, 0, _, ⟨by have : (lookS M who 0 1).lg.length = _ := t3; show (lookS M who 0 1).lg.length = _; omega, .inr (.inr (.inl ⟨rfl, rfl, rfl, rfl, T, t2⟩))⟩, hs'⟩
  · obtain ⟨t2, t3⟩ := hm.store1 hw.1 hwi (V + 1) hnp.2
    refine (shstep_store0 hs (hm.sp _) hm.good (by omega) (by decide) (by decide) (by omega) hwi hwd ⟨hV.1, by show V ≤ _; omega⟩).mono ?_
    rintro e w2 ⟨rfl, zs', dv', tv', z1, z2, hs'⟩
    have e2 : teB (pubT 0 np ++ pubE) = false := by
      obtain ⟨m, rfl⟩ : ∃ m, np = m + 1 := ⟨np - 1, by omega⟩
      rw [pubT_cons]
      rfl
    unfold mkA at hs'
    rw [if_neg (by rw [e2]; simp)] at hs'
    refine ⟨?_, zs', tv', dv', _, V + 1, 0, _, ⟨by have : (storeS M who 1 (V + 1)).lg.length = _ := t3; show (storeS M who 1 (V + 1)).lg.length = _; omega, .inr (.inr (.inr (.inl ⟨0, rfl, Nat.zero_le _, rfl, rfl, rfl, T, t2, fun q hq => by omega⟩)))⟩, hs'⟩
    have : (pubT 0 np ++ pubE) ≠ [] := by simp [pubE]
    rw [decide_eq_false this, decide_eq_false (by omega)]
  · by_cases hin : i < np
    · obtain ⟨m, hm'⟩ : ∃ m, np - i = m + 1 := ⟨np - i - 1, by omega⟩
      obtain ⟨t, ht⟩ : ∃ t, Tn[i]? = some t := ⟨_, List.getElem?_eq_getElem (by omega)⟩
      rw [hm', pubT_cons] at hs
      obtain ⟨t2, t3⟩ := hm.storeT hw.1 hwi hin t hnp.2
      refine (shstep_storep hs (hm.sp _) hm.good (by omega) (by decide) (by decide) (by omega) hwi (by omega) hwd ht).mono ?_
      rintro e w2 ⟨rfl, zs', dv', tv', z1, z2, hs'⟩
      have e2 : teB (pubT (i + 1) m ++ pubE) = false := by
        cases m with
        | zero => rfl
        | succ m => rw [pubT_cons]; rfl
      unfold mkA at hs'
      rw [List.append_eq, if_neg (by rw [e2]; simp)] at hs'
      have em : np - (i + 1) = m := by omega
      refine ⟨?_, zs', tv', dv', _, V + 1, 0, _, ⟨by have : (storeS M who (1 + ((i : Int) + 1)) t).lg.length = _ := t3; show (storeS M who (1 + ((i : Int) + 1)) t).lg.length = _; omega, .inr (.inr (.inr (.inl ⟨i + 1, by omega, by omega, by rw [em], rfl, rfl, T.set i t, t2, fun q hq' => ?_⟩)))⟩, hs'⟩
      · have : (pubT (i + 1) m ++ pubE) ≠ [] := by simp [pubE]
        rw [List.append_eq, decide_eq_false this, decide_eq_false (by omega)]
      · have hlt := hm.lt
        by_cases e : i = q
        · subst e
          rw [List.getElem?_set_self (by omega), ht]
        · rw [List.getElem?_set_ne e]
          exact hq q (by omega)
    · have hie : i = np := by omega
      subst hie
      have hTT : T = Tn := List.ext_getElem? fun q => by
        by_cases h : q < i
        · exact hq q h
        · rw [List.getElem?_eq_none (by have := hm.lt; omega), List.getElem?_eq_none (by omega)]
      subst hTT
      rw [Nat.sub_self] at hs
      obtain ⟨t2, t3⟩ := hm.store1 hw.1 hwi (V + 1 + 1) hnp.2
      refine (shstep_store0 (D := [(5, 0)]) hs (hm.sp _) hm.good (by omega) (by decide) (by decide) (by omega) hwi hwd ⟨by show 0 ≤ V + 1; omega, by show V + 1 ≤ _; omega⟩).mono ?_
      rintro e w2 ⟨rfl, zs', dv', tv', z1, z2, hs'⟩
      unfold mkA at hs'
      rw [if_pos ⟨rfl, rfl⟩] at hs'
      have ev : V + 1 + 1 = V + 2 := by omega
      change Sg n w0 wr fs zs' a s _ ⟨s, who, true, .slice none 0 0, tv', dv', V + 1 + 1, 0, ((storeS M who 1 (V + 1 + 1)).lg.length : Int)⟩ [] T _ (storeS M who 1 (V + 1 + 1)) w2 at hs'
      rw [ev] at hs' t2 t3
      refine ⟨by rw [decide_eq_false (by simp), decide_eq_false (by omega)], zs', tv', dv', [(5, 0)], V + 2, _, _, ⟨by omega, .inr (.inr (.inr (.inr (.inl ⟨by omega, rfl, rfl, rfl, ?_⟩))))⟩, hs'⟩
      exact t2.more (by omega)
  · obtain ⟨t2, t3⟩ := hm.free hw.1 hwi
    refine (shstep_free (D := []) hs (hm.sp _) hm.good (by omega) (by decide) (by decide) (by omega) hwi ⟨by show _ ≤ (1 : Int); decide, by show (1 : Int) ≤ _; decide⟩).mono ?_
    rintro e w2 ⟨rfl, zs', dv', tv', z1, z2, hs'⟩
    unfold mkA at hs'
    rw [if_neg (fun h => by have h1 : (M.lg.length : Int) = 0 := h.1; omega)] at hs'
    exact ⟨by rw [decide_eq_true rfl, decide_eq_true (by omega)], zs', tv', dv', [], V + 2, (M.lg.length : Int), _, ⟨by have : (relS M who 5 1).lg.length = _ := t3; show (relS M who 5 1).lg.length = _; omega, .inr (.inr (.inr (.inr (.inr ⟨by omega, rfl, rfl, by omega, by have : (relS M who 5 1).lg.length = _ := t3; show (M.lg.length : Int) ≤ ((relS M who 5 1).lg.length : Int); omega, t2⟩))))⟩, hs'⟩
  · omega
theorem shpub_run (h : Sg n w0 wr fs zs a s ⟨p, 1, 1, np, tr⟩ ⟨s, who, true, .slice none 0 0, tv, dv, 0, 0, 0⟩ [] Tn (pubD np) M w) {who' : Int} (hm : Wm np k V T false who' M) (hnp : 1 ≤ np ∧ np ≤ 64) (hl : Tn.length = np) (hw : 0 ≤ who ∧ who ≤ 1000) (hV : 0 ≤ V ∧ V ≤ 900000) (hk : k ≤ 90000) :
    Calls Try.prog 55 #[.pointer (some ⟨a, 0, none⟩)] w fun e w' => e = .returned (.bool true) ∧ ∃ zs' tv' dv' mk M', (M.lg.length : Int) < mk ∧ mk ≤ (M'.lg.length : Int) ∧ Wm np (k + (np + 5)) (V + 2) Tn false who M' ∧ Sg n w0 wr fs zs' a s ⟨p, 1, 1, np, tr⟩ ⟨s, who, true, .slice none 0 0, tv', dv', V + 2, 0, mk⟩ [] Tn [] M' w' := by
  refine (shfinish_any (K := np + 5) (by omega) (by omega) (S := PubS n w0 wr fs a s p np k M.lg.length V tr Tn who) ⟨zs, tv, dv, _, 0, 0, M, ⟨rfl, .inl ⟨rfl, rfl, rfl, rfl, T, who', hm⟩⟩, h⟩ (fun j hj w hs => shpub_step hj hnp hl hw hV hk hs) (fun w hs => ?_)).mono ?_
  · obtain ⟨zs, tv, dv, D, ver, mk, M, ⟨hlg, hI⟩, hs⟩ := hs
    rcases hI with ⟨e, _⟩ | ⟨e, _⟩ | ⟨e, _⟩ | ⟨i, e, hi, _⟩ | ⟨e, _⟩ | ⟨_, rfl, rfl, _⟩
    · omega
    · omega
    · omega
    · omega
    · omega
    · exact shover_any hs.sa hs.tod
  · rintro e w2 ⟨rfl, zs, tv, dv, D, ver, mk, M', ⟨hlg, hI⟩, hs⟩
    rcases hI with ⟨e, _⟩ | ⟨e, _⟩ | ⟨e, _⟩ | ⟨i, e, hi, _⟩ | ⟨e, _⟩ | ⟨_, rfl, rfl, h1, h2, h3⟩
    · omega
    · omega
    · omega
    · omega
    · omega
    · exact ⟨rfl, zs, tv, dv, mk, M', h1, h2, h3, hs⟩
/-! ### Read -/
def gotT (T : List Int) (Q : List Nat) : List Int := Q.map fun q => T.getD q 0
def castQ (Q : List Nat) : List Int := Q.map fun (q : Nat) => (q : Int)
def rdD (Q : List Nat) : List (Int × Int) := (Q.map fun (q : Nat) => ((0 : Int), (q : Int) + 1)) ++ [(0, 0)]
theorem tryD_cast (Q : List Nat) : tryD (castQ Q) = (0, 0) :: rdD Q := by unfold tryD castQ rdD; simp [List.map_map, Function.comp_def]
/-- A Read when it has made j accesses. -/
def RdI (np k g0 : Nat) (V : Int) (T : List Int) (Q : List Nat) (j : Nat) (D : List (Int × Int)) (G : List Int) (ver mk : Int) (M : Mm.St) : Prop :=
  M.lg.length = g0 + j ∧ (∃ who', Wm np (k + j) V T false who' M) ∧
  ((j = 0 ∧ D = (0, 0) :: rdD Q ∧ G = [] ∧ ver = 0 ∧ mk = 0) ∨
   (∃ i, j = 1 + i ∧ i ≤ Q.length ∧ D = rdD (Q.drop i) ∧ G = gotT T (Q.take i) ∧ V = ver ∧ mk = 0) ∨
   (j = Q.length + 2 ∧ D = [] ∧ G = gotT T Q ∧ V = ver ∧ mk = (M.lg.length : Int)))
def RdS (n : Nat) (w0 wr : World) (fs : List Nat) (a s p np k g0 : Nat) (V tr : Int) (T : List Int) (Q : List Nat) (who : Int) (j : Nat) (w : World) : Prop :=
  ∃ zs pv tv dv D G ver mk M, RdI np k g0 V T Q j D G ver mk M ∧ Sg n w0 wr fs zs a s ⟨p, 1, 1, np, tr⟩ ⟨s, who, false, pv, tv, dv, ver, 0, mk⟩ (castQ Q) G D M w
theorem shrd_step {g0 j : Nat} {Q : List Nat} (hj : j < Q.length + 2) (hnp : 1 ≤ np ∧ np ≤ 64) (hQ : Q.length ≤ 64) (hq : ∀ q ∈ Q, q < np) (hw : 0 ≤ who ∧ who ≤ 1000) (hV : V.tmod 2 = 0) (hk : k ≤ 90000) (h : RdS n w0 wr fs a s p np k g0 V tr T Q who j w) :
    Calls Try.prog 93 #[.pointer (some ⟨a, 0, none⟩)] w fun e w' => e = .returned (.bool (decide (j + 1 = Q.length + 2))) ∧ RdS n w0 wr fs a s p np k g0 V tr T Q who (j + 1) w' := by
  have hwi : I64 who := ⟨by omega, by omega⟩
  have hwd : (0 : Int) ≤ 1 ∧ (1 : Int) ≤ 100000 := by decide
  obtain ⟨zs, pv, tv, dv, D, G, ver, mk, M, ⟨hlg, ⟨who', hm0⟩, hI⟩, hs⟩ := h
  have hm := hm0.idle who
  rcases hI with ⟨rfl, rfl, rfl, rfl, rfl⟩ | ⟨i, rfl, hi, rfl, rfl, rfl, rfl⟩ | ⟨rfl, _⟩
  · obtain ⟨t2, t3⟩ := hm.look hw.1 hwi (a := 1) ⟨by decide, by omega⟩ hnp.2
    have e1 := hm.load1 hw.1
    have hne : rdD Q ≠ [] := by simp [rdD]
    refine (shstep_load0 hs (hm.sp _) hm.good (by omega) (by decide) (by decide) (by omega) hwi hwd (fun h => absurd h hne) (fun _ => by show (loadV M who 1).tmod 2 = 0; rw [e1]; exact hV)).mono ?_
    rintro e w2 ⟨rfl, zs', dv', tv', z1, z2, hs'⟩
    have e2 : teB (rdD Q) = false := by
      cases Q with
      | nil => rfl
      | cons q Q => rfl
    unfold mkA at hs'
    rw [if_neg (by rw [e2]; simp)] at hs'
    change Sg n w0 wr fs zs' a s _ ⟨s, who, false, pv, tv', dv', loadV M who 1, 0, 0⟩ _ _ _ _ w2 at hs'
    rw [e1] at hs'
    exact ⟨by rw [decide_eq_false hne, decide_eq_false (by omega)], zs', pv, tv', dv', _, _, V, 0, _, ⟨by have : (lookS M who 0 1).lg.length = _ := t3; show (lookS M who 0 1).lg.length = _; omega, ⟨who, t2⟩, .inr (.inl ⟨0, rfl, Nat.zero_le _, rfl, rfl, rfl, rfl⟩)⟩, hs'⟩
  · by_cases hin : i < Q.length
    · obtain ⟨q, hqi⟩ : ∃ q, Q[i]? = some q := ⟨_, List.getElem?_eq_getElem hin⟩
      have hqn := hq q (List.mem_of_getElem? hqi)
      have hdr : Q.drop i = q :: Q.drop (i + 1) := by
        rw [List.drop_eq_getElem_cons hin]
        rw [List.getElem?_eq_getElem hin] at hqi
        simp at hqi
        rw [hqi]
      obtain ⟨t, ht⟩ : ∃ t, T[q]? = some t := ⟨_, List.getElem?_eq_getElem (by have := hm.lt; omega)⟩
      have e0 : rdD (Q.drop i) = (0, (q : Int) + 1) :: rdD (Q.drop (i + 1)) := by rw [hdr]; rfl
      rw [e0] at hs
      obtain ⟨t2, t3⟩ := hm.look hw.1 hwi (a := 1 + ((q : Int) + 1)) ⟨by omega, by omega⟩ hnp.2
      have e1 := hm.loadT hw.1 ht
      have hgl : (gotT T (Q.take i)).length ≤ 1000 := by simp [gotT]; omega
      refine (shstep_loadp hs (hm.sp _) hm.good (by omega) (by decide) (by decide) (by omega) hwi (by omega) hwd hgl).mono ?_
      rintro e w2 ⟨rfl, zs', dv', tv', z1, z2, hs'⟩
      have hne : rdD (Q.drop (i + 1)) ≠ [] := by simp [rdD]
      have e2 : teB (rdD (Q.drop (i + 1))) = false := by
        cases Q.drop (i + 1) with
        | nil => rfl
        | cons q Q => rfl
      have e3 : gotT T (Q.take i) ++ [t] = gotT T (Q.take (i + 1)) := by
        rw [take_snoc hqi]
        unfold gotT
        rw [List.map_append]
        simp [List.getD_eq_getElem?_getD, ht]
      unfold mkA at hs'
      rw [if_neg (by rw [e2]; simp)] at hs'
      change Sg n w0 wr fs zs' a s _ ⟨s, who, false, pv, tv', dv', V, 0, 0⟩ _ (gotT T (Q.take i) ++ [loadV M who (1 + ((q : Int) + 1))]) _ _ w2 at hs'
      rw [e1, e3] at hs'
      exact ⟨by rw [decide_eq_false hne, decide_eq_false (by omega)], zs', pv, tv', dv', _, _, V, 0, _, ⟨by have : (lookS M who 0 (1 + ((q : Int) + 1))).lg.length = _ := t3; show (lookS M who 0 (1 + ((q : Int) + 1))).lg.length = _; omega, ⟨who, t2.more (by omega)⟩, .inr (.inl ⟨i + 1, by omega, by omega, rfl, rfl, rfl, rfl⟩)⟩, hs'⟩
    · have hie : i = Q.length := by omega
      subst hie
      have e0 : rdD (Q.drop Q.length) = [(0, 0)] := by rw [List.drop_length]; rfl
      rw [e0, List.take_length] at hs
      obtain ⟨t2, t3⟩ := hm.look hw.1 hwi (a := 1) ⟨by decide, by omega⟩ hnp.2
      have e1 := hm.load1 hw.1
      refine (shstep_load0 (D := []) hs (hm.sp _) hm.good (by omega) (by decide) (by decide) (by omega) hwi hwd (fun _ => e1) (fun _ => by show (loadV M who 1).tmod 2 = 0; rw [e1]; exact hV)).mono ?_
      rintro e w2 ⟨rfl, zs', dv', tv', z1, z2, hs'⟩
      unfold mkA at hs'
      rw [if_pos ⟨rfl, rfl⟩] at hs'
      change Sg n w0 wr fs zs' a s _ ⟨s, who, false, pv, tv', dv', loadV M who 1, 0, ((lookS M who 0 1).lg.length : Int)⟩ _ _ _ (lookS M who 0 1) w2 at hs'
      rw [e1] at hs'
      exact ⟨by rw [decide_eq_true rfl, decide_eq_true (by omega)], zs', pv, tv', dv', _, _, V, _, _, ⟨by omega, ⟨who, t2.more (by omega)⟩, .inr (.inr ⟨by omega, rfl, rfl, rfl, rfl⟩)⟩, hs'⟩
  · omega
theorem shrd_run {Q : List Nat} (h : Sg n w0 wr fs zs a s ⟨p, 1, 1, np, tr⟩ ⟨s, who, false, pv, .slice none 0 0, dv, 0, 0, 0⟩ (castQ Q) [] (tryD (castQ Q)) M w) {who' : Int} (hm : Wm np k V T false who' M) (hnp : 1 ≤ np ∧ np ≤ 64) (hQ : Q.length ≤ 64) (hq : ∀ q ∈ Q, q < np) (hw : 0 ≤ who ∧ who ≤ 1000) (hV : V.tmod 2 = 0) (hk : k ≤ 90000) :
    Calls Try.prog 55 #[.pointer (some ⟨a, 0, none⟩)] w fun e w' => e = .returned (.bool true) ∧ ∃ zs' pv' tv' dv' M', M'.lg.length = M.lg.length + (Q.length + 2) ∧ Wm np (k + (Q.length + 2)) V T false who M' ∧ Sg n w0 wr fs zs' a s ⟨p, 1, 1, np, tr⟩ ⟨s, who, false, pv', tv', dv', V, 0, (M'.lg.length : Int)⟩ (castQ Q) (gotT T Q) [] M' w' := by
  rw [tryD_cast] at h
  refine (shfinish_any (K := Q.length + 2) (by omega) (by omega) (S := RdS n w0 wr fs a s p np k M.lg.length V tr T Q who) ⟨zs, pv, _, dv, _, _, 0, 0, M, ⟨rfl, ⟨who', hm⟩, .inl ⟨rfl, rfl, rfl, rfl, rfl⟩⟩, h⟩ (fun j hj w hs => shrd_step hj hnp hQ hq hw hV hk hs) (fun w hs => ?_)).mono ?_
  · obtain ⟨zs, pv, tv, dv, D, G, ver, mk, M, ⟨hlg, hm, hI⟩, hs⟩ := hs
    rcases hI with ⟨e, _⟩ | ⟨i, e, hi, _⟩ | ⟨_, rfl, _⟩
    · omega
    · omega
    · exact shover_any hs.sa hs.tod
  · rintro e w2 ⟨rfl, zs, pv, tv, dv, D, G, ver, mk, M', ⟨hlg, ⟨who', hm⟩, hI⟩, hs⟩
    rcases hI with ⟨e, _⟩ | ⟨i, e, hi, _⟩ | ⟨_, rfl, rfl, rfl, rfl⟩
    · omega
    · omega
    · exact ⟨rfl, zs, pv, tv, dv, M', hlg, hm.idle who, hs⟩
end
end Go.Proofs.Ytjmkcgkkgamafaa.Sh
