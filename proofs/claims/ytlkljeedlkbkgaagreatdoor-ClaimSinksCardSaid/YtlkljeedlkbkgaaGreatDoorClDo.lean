/-
  YtlkljeedlkbkgaaGreatDoorClDo
-/
import Derived.Test.YtlkljeedlkbkgaaGreatDoorJoined28
import Derived.Test.YtlkljeedlkbkgaaGreatDoorClFrom
import Derived.Test.YtlkljeedlkbkgaaGreatDoorClSame
import Derived.Test.YtlkljeedlkbkgaaGreatDoorJoined22
import Derived.Test.YtlkljeedlkbkgaaGreatDoorJoined27
import Derived.Test.YtlkljeedlkbkgaaGreatDoorClTold
import Derived.Deep.RegionHeldLaw
import Derived.BigQuiet
namespace Go.Proofs.YtlkljeedlkbkgaaGreatDoor.Cl
open Go.RowKit Go.Deep Gr Go.Proofs.YtlkljeedlkbkgaaGreatDoor.Fault
set_option linter.unusedVariables false
set_option linter.unusedSimpArgs false
def DoJ (m : Nat) (M : Nat → Nat → Int) (H : List Ed) (B : List Batch.Ch) (w : World) (P Q R0 : Nat) (s11 s12 s14 s15 s16 : Value) (wx : World) : Prop :=
  ∃ (R : Res) (a1 : Option Addr) (n1 c1 : Nat) (a2 : Option Addr) (n2 c2 : Nat) (a3 : Option Addr) (n3 c3 : Nat) (b1 : Option Addr) (k1 d1 : Nat) (b2 : Option Addr) (k2 d2 : Nat) (b3 : Option Addr) (k3 d3 : Nat) (b4 : Option Addr) (k4 d4 : Nat) (ve p1 p2 : Value), p1 = .slice a1 n1 c1 ∧ p2 = .slice a2 n2 c2 ∧ s11 = .slice a3 n3 c3 ∧ s12 = ve ∧ s14 = .slice b3 k3 d3 ∧ s15 = .slice b4 k4 d4 ∧ s16 = .int .i64 R.k ∧ True = True ∧
    DoP m M H B w P Q R0 R p1 p2 (.slice b1 k1 d1) (.slice b2 k2 d2) s11 s12 s14 s15 wx
theorem hand_small {H : List Ed} (n : Int) (h : ∀ x ∈ H, x.Wf) : -9223372036854775808 ≤ handId H n ∧ handId H n ≤ 9223372036854775807 := by
  unfold handId
  split
  · decide
  · cases e : H[(n % (H.length : Int)).toNat]? with
    | none => simp
    | some x =>
      have := h x (List.mem_of_getElem? e)
      exact ⟨this.f0, this.f1⟩
theorem refsame_self {w : World} {v1 v2 : Value} {a : List Batch.Ch} (h1 : Batch.Rd w v1 a) (h2 : Batch.Rd w v2 a) : Calls Tryz.prog 41 #[v1, v2] w fun e w' => e = .returned (.bool true) ∧ Below w.heap.size w w' :=
  (Batch.refsame_any h1 h2).mono fun e w' h => by rw [Batch.eqL_self] at h; exact h
def DoQ (m : Nat) (M : Nat → Nat → Int) (H : List Ed) (B : List Batch.Ch) (w : World) (e : Ending) (w' : World) : Prop :=
  ∃ (R : Res) (b1 : Option Addr) (k1 d1 : Nat) (b2 : Option Addr) (k2 d2 : Nat) (b3 : Option Addr) (k3 d3 : Nat), e = .returned (.tuple #[.agg #[.slice b1 k1 d1, .slice b2 k2 d2], .slice b3 k3 d3, .bool true]) ∧ ResP m M H B R ∧ Sl w' (.slice b1 k1 d1) R.hs ∧ Batch.Sl w' (.slice b2 k2 d2) R.bs ∧ Batch.Sl w' (.slice b3 k3 d3) R.ch ∧ Below w.heap.size w w'
set_option maxRecDepth 1000000 in
set_option maxHeartbeats 32000000 in
theorem do_any {w : World} {ve vi vh vb vl : Value} {E : List Ed} {I : List Int} {H : List Ed} {B L0 : List Batch.Ch} {m : Nat} {M : Nat → Nat → Int} (kind hand id t : Int) (hL : LV w) (hg : GMemP w ve vi E I) (hok : GOk m E I) (hEI : E.length ≤ 100000 ∧ I.length ≤ 100000) (hLM : LeastM E true m M) (hOA : OwnAt w vh vb H B) (hP : OwnP m H B) (hl : H.length ≤ 900) (hlb : B.length ≤ 900) (hv : Batch.Rd w vl L0) (hn : hand ≤ 9223372036854775807) (hid : id ≤ 9223372036854775807) (ht : 0 ≤ t ∧ t ≤ 18446744073709551615) :
    Calls Tryz.prog 9 #[.agg #[vh, vb], .agg #[.int .i64 (m : Int), ve, vi], .agg #[.int .i64 kind, .int .i64 hand, .int .i64 id, .int .u64 t, vl]] w (DoQ m M H B w) := by
  have HL := Lib.hid hL
  have HG := Lib.hid hg
  have HOK := Lib.hid hok
  have HEI := Lib.hid hEI
  have HLM := Lib.hid hLM
  have HMU := Lib.hid (mu_of hLM)
  have HM := Lib.hid (And.intro hok.n1 (MT.of hok.fits hLM))
  have HP := Lib.hid hP
  have HLN := Lib.hid (And.intro hl hlb)
  have HV := Lib.hid hv
  have HID := Lib.hid hid
  have HT := Lib.hid ht
  have HHI := Lib.hid (hand_small hand hP.wfH)
  have HN := Lib.hid hn
  obtain ⟨ah, ch, e1, _⟩ := And.left (And.intro hOA.hands trivial)
  obtain ⟨ab, cb, e2, _⟩ := And.left (And.intro hOA.held trivial)
  obtain ⟨ae, ce, e3, _⟩ := And.left (And.intro hg.ed trivial)
  obtain ⟨ai, ci, e4, _⟩ := And.left (And.intro hg.inp trivial)
  obtain ⟨al, cl, e5, hlc, _⟩ := And.left (And.intro hv trivial)
  subst e1 e2 e3 e4 e5
  have HLC := Lib.hid hlc
  have HTK := Lib.hid (show L0.take 20 = L0.take (min L0.length 20) by rw [List.take_eq_take_iff]; omega)
  have HV20 := Lib.hid (show Batch.Rd w (.slice al (min L0.length 20) cl) (L0.take 20) by
    have h := brd_take hv (min L0.length 20) (Nat.min_le_left _ _)
    rw [← HTK.out, List.length_take] at h
    rwa [Nat.min_comm] at h)
  obtain ⟨w0, hw0⟩ : ∃ w0, w0 = ((((w.alloc (.cells #[.slice ah H.length ch, .slice ab B.length cb] 29)).alloc (.cells #[.int .i64 (m : Int), .slice ae E.length ce, .slice ai I.length ci] 25)).alloc (.cells #[.int .i64 kind, .int .i64 hand, .int .i64 id, .int .u64 t, .slice al L0.length cl] 38)).alloc (.cells #[.slice none 0 0, .slice none 0 0] 29)) := ⟨_, rfl⟩
  have hb0 : Below w.heap.size w w0 := by rw [hw0]; exact ((((Below.refl _ _).alloc (Nat.le_refl _) _).alloc (by simp) _).alloc (by simp; omega) _).alloc (by simp; omega) _
  have hs0 : w0.heap.size = w.heap.size + 1 + 1 + 1 + 1 := by rw [hw0]; simp
  have hx0 : w0.heap[w.heap.size]? = some (.cells #[.slice ah H.length ch, .slice ab B.length cb] 29 (0, 0)) := by
    rw [hw0, heap_alloc_old _ _ (by simp; omega), heap_alloc_old _ _ (by simp; omega), heap_alloc_old _ _ (by simp)]; exact heap_alloc_new w _
  have hg0 : w0.heap[w.heap.size + 1]? = some (.cells #[.int .i64 (m : Int), .slice ae E.length ce, .slice ai I.length ci] 25 (0, 0)) := by
    have h := heap_alloc_new (w.alloc (.cells #[.slice ah H.length ch, .slice ab B.length cb] 29)) (.cells #[.int .i64 (m : Int), .slice ae E.length ce, .slice ai I.length ci] 25)
    rw [hw0, heap_alloc_old _ _ (by first | (simp; done) | (simp; omega)), heap_alloc_old _ _ (by first | (simp; done) | (simp; omega))]; simpa using h
  have ho0 : w0.heap[w.heap.size + 1 + 1]? = some (.cells #[.int .i64 kind, .int .i64 hand, .int .i64 id, .int .u64 t, .slice al L0.length cl] 38 (0, 0)) := by
    have h := heap_alloc_new ((w.alloc (.cells #[.slice ah H.length ch, .slice ab B.length cb] 29)).alloc (.cells #[.int .i64 (m : Int), .slice ae E.length ce, .slice ai I.length ci] 25)) (.cells #[.int .i64 kind, .int .i64 hand, .int .i64 id, .int .u64 t, .slice al L0.length cl] 38)
    rw [hw0, heap_alloc_old _ _ (by simp)]; simpa using h
  have hr0 : w0.heap[w.heap.size + 1 + 1 + 1]? = some (.cells #[.slice none 0 0, .slice none 0 0] 29 (0, 0)) := by
    have h := heap_alloc_new (((w.alloc (.cells #[.slice ah H.length ch, .slice ab B.length cb] 29)).alloc (.cells #[.int .i64 (m : Int), .slice ae E.length ce, .slice ai I.length ci] 25)).alloc (.cells #[.int .i64 kind, .int .i64 hand, .int .i64 id, .int .u64 t, .slice al L0.length cl] 38)) (.cells #[.slice none 0 0, .slice none 0 0] 29)
    rw [hw0]; simpa using h
  have HX0 := Lib.hid hx0
  have HG0 := Lib.hid hg0
  have HO0 := Lib.hid ho0
  have HR0 := Lib.hid hr0
  have HB0 := Lib.hid hb0
  have HS0 := Lib.hid hs0
  obtain ⟨x0, x1, _⟩ := pair_cells hx0
  obtain ⟨o0, o1, o2, o3, o4⟩ := five_cells ho0
  clear hL hg hok hEI hLM hP hl hlb hv hn hid ht hlc hb0 hs0 hx0 hg0 ho0 hr0
  go_enter Tryz.func9, Tryz.ntmps9
  go_upto_region 1 with fail
  rw [← hw0]
  clear hw0
  go_wp2_with fail
  go_at_call 30
  refine (hand_any hand HN.out (hOA.hands.below HB0.out).rd).mono ?_
  rintro e w1 ⟨rfl, hb⟩
  obtain ⟨w2, hw2⟩ : ∃ w2, w2 = (w1.alloc (.cells #[.slice none 0 0, .slice none 0 0] 47)).alloc (.cells #[.slice none 0 0, .slice none 0 0] 29) := ⟨_, rfl⟩
  have hb12 : Below w1.heap.size w1 w2 := by rw [hw2]; exact ((Below.refl _ _).alloc (Nat.le_refl _) _).alloc (by simp) _
  have hp2 : w2.heap[w1.heap.size]? = some (.cells #[.slice none 0 0, .slice none 0 0] 47 (0, 0)) := by rw [hw2, heap_alloc_old _ _ (by simp)]; exact heap_alloc_new w1 _
  have hq2 : w2.heap[w1.heap.size + 1]? = some (.cells #[.slice none 0 0, .slice none 0 0] 29 (0, 0)) := by
    have h := heap_alloc_new (w1.alloc (.cells #[.slice none 0 0, .slice none 0 0] 47)) (.cells #[.slice none 0 0, .slice none 0 0] 29)
    rw [hw2]; simpa using h
  obtain ⟨P, hPe⟩ : ∃ P, P = w1.heap.size := ⟨_, rfl⟩
  obtain ⟨Q, hQe⟩ : ∃ Q, Q = P + 1 := ⟨_, rfl⟩
  rw [← hPe] at hp2 hq2
  rw [← hQe] at hq2
  have hs01 := hb.size
  have hbb := hb.trans (hb12.mono hs01)
  have hbx : Bx w P Q (.slice ah H.length ch) (.slice ab B.length cb) (.int .i64 (m : Int)) (.slice ae E.length ce) (.slice ai I.length ci) (.int .i64 kind) (.int .i64 hand) (.int .i64 id) (.int .u64 t) (.slice al L0.length cl) (.slice none 0 0) (.slice none 0 0) (.slice none 0 0) (.slice none 0 0) w2 := ⟨(hbb.block _ (by have := HS0.out; omega)).trans HX0.out, (hbb.block _ (by have := HS0.out; omega)).trans HG0.out, (hbb.block _ (by have := HS0.out; omega)).trans HO0.out, (hbb.block _ (by have := HS0.out; omega)).trans HR0.out, hp2, hq2, HB0.out.trans (hbb.mono (by have := HS0.out; omega)), by have := HS0.out; omega⟩
  have HBX := Lib.hid hbx
  clear hb hb12 hp2 hq2 hs01 hbb hbx x0 x1 o0 o1 o2 o3 o4
  obtain ⟨o0, o1, o2, o3, o4⟩ := HBX.out.o
  obtain ⟨kd, hk6, hk1, hk2⟩ := six_mod kind
  go_upto_region 9 with fail
  rw [← hw2, ← hPe, ← hQe]
  clear hw2 hPe hQe
  generalize handId H hand = hd at HHI ⊢
  go_cut [27] (fun s27 wx => s27 = .int .i64 (kd : Int) ∧ wx = w2)
  case first =>
    go_wp2_with fail
    go_meet
    exact ⟨rfl, rfl⟩
  case rest =>
  obtain ⟨rfl, rfl⟩ := hcut
  refine ‹∀ (a : Act) (w : World), Code.wp _ _ _ a w → _› _ _ ?_
  clear hk1 hk2 o0 o1 o2 o3 o4
  go_cut [11, 12, 14, 15, 16] (fun s11 s12 s14 s15 s16 wx => DoJ m M H B w P Q (w.heap.size + 1 + 1 + 1) s11 s12 s14 s15 s16 wx)
  case first =>
    have hbx := HBX.out
    by_cases h0 : kd = 0
    · subst h0
      obtain ⟨R, hres, hcl, hrf⟩ := open_both (h := hd) HM.out.1 HM.out.2 HP.out (by have := HLN.out; omega) (by have := HLN.out; omega) HHI.out HID.out
      have HRES := Lib.hid hres
      have HCL := Lib.hid hcl
      have HRF := Lib.hid hrf
      clear hres hcl hrf
      go_upto_region 14 with fail
      refine wp_region_held_drew (S := (fun w' => w'.cell? ⟨w.heap.size, 0, none⟩ = some (.slice ah H.length ch) ∧ w'.cell? ⟨w.heap.size, 1, none⟩ = some (.slice ab B.length cb) ∧ w'.cell? ⟨w.heap.size + 1 + 1, 2, none⟩ = some (.int .i64 id))) (by kernel_rfl) ?_ (fun hHeld => ?_)
      · ((try dsimp only); exact ⟨hbx.x.1, hbx.x.2, hbx.o.2.2.1⟩)
      replace hbx := hbx.below (below_drewN (Below.refl _ _) 1)
      refine wpAnyH_take (i := 0) (v := ?_) rfl (by kernel_rfl) (by kernel_rfl) (by kernel_rfl) (fun _ _ _ h => h) (Or.inl ⟨by rfl, ?_⟩) (by assumption) ?_
      rotate_left 1
      · (intro w hSw; (try dsimp only at hSw); first | (go_simp; done) | (go_simp; with_reducible rfl))
      try simp only [Act.put, List.setIfInBounds_toArray, List.set_cons_zero, List.set_cons_succ, List.getElem_toArray, List.getElem_cons_zero]
      refine wpAnyH_take (i := 2) (v := ?_) rfl (by kernel_rfl) (by kernel_rfl) (by kernel_rfl) (fun _ _ _ h => h) (Or.inl ⟨by rfl, ?_⟩) (by assumption) ?_
      rotate_left 1
      · (intro w hSw; (try dsimp only at hSw); first | (go_simp; done) | (go_simp; with_reducible rfl))
      try simp only [Act.put, List.setIfInBounds_toArray, List.set_cons_zero, List.set_cons_succ, List.getElem_toArray, List.getElem_cons_zero, List.getElem_cons_succ]
      refine wpAnyH_take (i := 3) (v := ?_) rfl (by kernel_rfl) (by kernel_rfl) (by kernel_rfl) (fun _ _ _ h => h) (Or.inl ⟨by rfl, ?_⟩) (by assumption) ?_
      rotate_left 1
      · (intro w hSw; (try dsimp only at hSw); first | (go_simp; done) | (go_simp; with_reducible rfl))
      try simp only [Act.put, List.setIfInBounds_toArray, List.set_cons_zero, List.set_cons_succ, List.getElem_toArray, List.getElem_cons_zero, List.getElem_cons_succ]
      refine wpAnyH_take (i := 4) (v := ?_) rfl (by kernel_rfl) (by kernel_rfl) (by kernel_rfl) (fun _ _ _ h => h) (Or.inl ⟨by rfl, ?_⟩) (by assumption) ?_
      rotate_left 1
      · (intro w hSw; (try dsimp only at hSw); first | (go_simp; done) | (go_simp; with_reducible rfl))
      try simp only [Act.put, List.setIfInBounds_toArray, List.set_cons_zero, List.set_cons_succ, List.getElem_toArray, List.getElem_cons_zero, List.getElem_cons_succ]
      refine wpAnyH_ready (rs := [1]) (by kernel_rfl) (by simp) ?_
      refine AllReadyH.cons rfl (fun K hK => ?_) AllReadyH.nil
      go_simp
      go_at_call 11
      refine (ownto_any (hOA.hands.below hbx.bel).rd (hOA.held.below hbx.bel).rd (by have := HLN.out; omega) (by have := HLN.out; omega)).mono ?_
      rintro e wa ⟨vh2, vb2, rfl, hoh, hob, hcb⟩
      replace hbx := hbx.below hcb
      have hoa2 : OwnAt wa vh2 vb2 H B := ⟨hoh.sl HP.out.wfH, hob.sl HP.out.wfB⟩
      clear hoh hob hcb
      try go_wp2_with fail
      refine hK.out _ _ ?_ (fun hHeld => ?_)
      · ((try dsimp only); exact ⟨hbx.x.1, hbx.x.2, hbx.o.2.2.1⟩)
      clear hK K
      try simp only [Act.put, List.setIfInBounds_toArray, List.set_cons_zero, List.set_cons_succ, List.getElem_toArray, List.getElem_cons_zero, List.getElem_cons_succ]
      refine wpAnyH_ready (rs := [5]) (by kernel_rfl) (by simp) ?_
      refine AllReadyH.cons rfl (fun K hK => ?_) AllReadyH.nil
      go_simp
      go_at_call 31
      refine (HCL.out _ _ _ hoa2).mono ?_
      rintro e wb ⟨a1, n1, c1, a2, n2, c2, a3, n3, c3, ve, rfl, h1, h2, h3, h4, hcb⟩
      replace hbx := hbx.below hcb
      clear hcb hoa2
      try go_wp2_with fail
      refine hK.out _ _ ?_ (fun hHeld => ?_)
      · ((try dsimp only); exact ⟨hbx.x.1, hbx.x.2, hbx.o.2.2.1⟩)
      clear hK K
      try simp only [Act.put, List.setIfInBounds_toArray, List.set_cons_zero, List.set_cons_succ, List.getElem_toArray, List.getElem_cons_zero, List.getElem_cons_succ]
      refine wpAnyH_take (i := 6) (v := ?_) rfl (by kernel_rfl) (by kernel_rfl) (by kernel_rfl) (fun _ _ _ h => h) (Or.inl ⟨by rfl, ?_⟩) (by assumption) ?_
      rotate_left 1
      · (intro w hSw; (try dsimp only at hSw); first | (go_simp; done) | (go_simp; with_reducible rfl))
      try simp only [Act.put, List.setIfInBounds_toArray, List.set_cons_zero, List.set_cons_succ, List.getElem_toArray, List.getElem_cons_zero, List.getElem_cons_succ]
      refine wpAnyH_take (i := 7) (v := ?_) rfl (by kernel_rfl) (by kernel_rfl) (by kernel_rfl) (fun _ _ _ h => h) (Or.inl ⟨by rfl, ?_⟩) (by assumption) ?_
      rotate_left 1
      · (intro w hSw; (try dsimp only at hSw); first | (go_simp; done) | (go_simp; with_reducible rfl))
      try simp only [Act.put, List.setIfInBounds_toArray, List.set_cons_zero, List.set_cons_succ, List.getElem_toArray, List.getElem_cons_zero, List.getElem_cons_succ]
      refine wpAnyH_take (i := 8) (v := ?_) rfl (by kernel_rfl) (by kernel_rfl) (by kernel_rfl) (fun _ _ _ h => h) (Or.inl ⟨by rfl, ?_⟩) (by assumption) ?_
      rotate_left 1
      · (intro w hSw; (try dsimp only at hSw); first | (go_simp; done) | (go_simp; with_reducible rfl))
      try simp only [Act.put, List.setIfInBounds_toArray, List.set_cons_zero, List.set_cons_succ, List.getElem_toArray, List.getElem_cons_zero, List.getElem_cons_succ]
      refine wpAnyH_take (i := 9) (v := ?_) rfl (by kernel_rfl) (by kernel_rfl) (by kernel_rfl) (fun _ _ _ h => h) (Or.inl ⟨by rfl, ?_⟩) (by assumption) ?_
      rotate_left 1
      · (intro w hSw; (try dsimp only at hSw); first | (go_simp; done) | (go_simp; with_reducible rfl))
      try simp only [Act.put, List.setIfInBounds_toArray, List.set_cons_zero, List.set_cons_succ, List.getElem_toArray, List.getElem_cons_zero, List.getElem_cons_succ]
      obtain ⟨p0, p1, pf⟩ := hbx.p
      have pf0 := pf 0
      have pf1 := pf 1
      clear pf
      have hsp := hbx.setP (.slice a1 n1 c1) (.slice a2 n2 c2)
      refine wpAnyH_ready (rs := [10]) (by kernel_rfl) (by simp) ?_
      refine AllReadyH.cons rfl (fun K hK => ?_) AllReadyH.nil
      go_simp
      try go_wp2_with fail
      refine hK.out _ _ ?_ (fun hHeld => ?_)
      · ((try dsimp only); exact ⟨hsp.x.1, hsp.x.2, hsp.o.2.2.1⟩)
      clear hK K
      try simp only [Act.put, List.setIfInBounds_toArray, List.set_cons_zero, List.set_cons_succ, List.getElem_toArray, List.getElem_cons_zero, List.getElem_cons_succ]
      clear hsp
      refine wpAnyH_take (i := 11) (v := ?_) rfl (by kernel_rfl) (by kernel_rfl) (by kernel_rfl) (fun _ _ _ h => h) (Or.inl ⟨by rfl, ?_⟩) (by assumption) ?_
      rotate_left 1
      · (intro w hSw; (try dsimp only at hSw); first | (go_simp; done) | (go_simp; with_reducible rfl))
      try simp only [Act.put, List.setIfInBounds_toArray, List.set_cons_zero, List.set_cons_succ, List.getElem_toArray, List.getElem_cons_zero, List.getElem_cons_succ]
      refine wpAnyH_take (i := 12) (v := ?_) rfl (by kernel_rfl) (by kernel_rfl) (by kernel_rfl) (fun _ _ _ h => h) (Or.inl ⟨by rfl, ?_⟩) (by assumption) ?_
      rotate_left 1
      · (intro w hSw; (try dsimp only at hSw); first | (go_simp; done) | (go_simp; with_reducible rfl))
      try simp only [Act.put, List.setIfInBounds_toArray, List.set_cons_zero, List.set_cons_succ, List.getElem_toArray, List.getElem_cons_zero, List.getElem_cons_succ]
      refine wpAnyH_done (by kernel_rfl) ?_ _
      have hk2 := Keeps.set2 (b1 := a1) (k1 := n1) (d1 := c1) (b2 := a2) (k2 := n2) (d2 := c2) hbx.hp
      replace hbx := hbx.setP (.slice a1 n1 c1) (.slice a2 n2 c2)
      replace h1 := hk2.sl h1
      replace h2 := hk2.bsl h2
      replace h3 := hk2.bsl h3
      replace h4 := hk2.err h4
      generalize ((wb.setCell ⟨P, 0, none⟩ (.slice a1 n1 c1)).setCell ⟨P, 1, none⟩ (.slice a2 n2 c2)) = wc at *
      clear hk2 p0 p1 pf0 pf1
      obtain ⟨x0, x1⟩ := hbx.x
      obtain ⟨o0, o1, o2, o3, o4⟩ := hbx.o
      go_wp2_with fail
      go_at_call 32
      refine (HRF.out _ _ _ (hOA.below hbx.bel)).mono ?_
      rintro e wd ⟨b1, k1, d1, b2, k2, d2, b3, k3, d3, b4, k4, d4, rfl, h5, h6, h7, h8, hcb⟩
      replace hbx := hbx.below hcb
      have hkb := Keeps.below hcb
      replace h1 := hkb.sl h1
      replace h2 := hkb.bsl h2
      replace h3 := hkb.bsl h3
      replace h4 := hkb.err h4
      clear hcb hkb x0 x1 o0 o1 o2 o3 o4
      have hk2 := Keeps.set2 (b1 := b1) (k1 := k1) (d1 := d1) (b2 := b2) (k2 := k2) (d2 := d2) hbx.hq
      obtain ⟨q0, q1, qf⟩ := hbx.q
      have qf0 := qf 0
      have qf1 := qf 1
      clear qf
      have hend := hbx.setQ (.slice b1 k1 d1) (.slice b2 k2 d2)
      go_wp2_with fail
      go_meet
      exact ⟨R, _, _, _, _, _, _, _, _, _, _, _, _, _, _, _, _, _, _, _, _, _, _, _, _, rfl, rfl, rfl, rfl, rfl, rfl, rfl, rfl, ⟨HRES.out, hend.hp, hend.hq, hend.hr, hk2.sl h1, hk2.bsl h2, hk2.sl h5, hk2.bsl h6, hk2.bsl h3, hk2.bsl h7, hk2.err h4, hk2.rdp h8, hend.bel⟩⟩
    by_cases h1 : kd = 1
    · subst h1
      obtain ⟨R, hres, hcl, hrf⟩ := advance_both (h := hd) HM.out.1 HM.out.2 HP.out (by have := HLN.out; omega) (by have := HLN.out; omega) HHI.out HT.out.1 HT.out.2
      have HRES := Lib.hid hres
      have HCL := Lib.hid hcl
      have HRF := Lib.hid hrf
      clear hres hcl hrf
      go_upto_region 17 with fail
      refine wp_region_held_drew (S := (fun w' => w'.cell? ⟨w.heap.size, 0, none⟩ = some (.slice ah H.length ch) ∧ w'.cell? ⟨w.heap.size, 1, none⟩ = some (.slice ab B.length cb) ∧ w'.cell? ⟨w.heap.size + 1 + 1, 3, none⟩ = some (.int .u64 t))) (by kernel_rfl) ?_ (fun hHeld => ?_)
      · ((try dsimp only); exact ⟨hbx.x.1, hbx.x.2, hbx.o.2.2.2.1⟩)
      replace hbx := hbx.below (below_drewN (Below.refl _ _) 1)
      refine wpAnyH_take (i := 0) (v := ?_) rfl (by kernel_rfl) (by kernel_rfl) (by kernel_rfl) (fun _ _ _ h => h) (Or.inl ⟨by rfl, ?_⟩) (by assumption) ?_
      rotate_left 1
      · (intro w hSw; (try dsimp only at hSw); first | (go_simp; done) | (go_simp; with_reducible rfl))
      try simp only [Act.put, List.setIfInBounds_toArray, List.set_cons_zero, List.set_cons_succ, List.getElem_toArray, List.getElem_cons_zero]
      refine wpAnyH_take (i := 2) (v := ?_) rfl (by kernel_rfl) (by kernel_rfl) (by kernel_rfl) (fun _ _ _ h => h) (Or.inl ⟨by rfl, ?_⟩) (by assumption) ?_
      rotate_left 1
      · (intro w hSw; (try dsimp only at hSw); first | (go_simp; done) | (go_simp; with_reducible rfl))
      try simp only [Act.put, List.setIfInBounds_toArray, List.set_cons_zero, List.set_cons_succ, List.getElem_toArray, List.getElem_cons_zero, List.getElem_cons_succ]
      refine wpAnyH_take (i := 3) (v := ?_) rfl (by kernel_rfl) (by kernel_rfl) (by kernel_rfl) (fun _ _ _ h => h) (Or.inl ⟨by rfl, ?_⟩) (by assumption) ?_
      rotate_left 1
      · (intro w hSw; (try dsimp only at hSw); first | (go_simp; done) | (go_simp; with_reducible rfl))
      try simp only [Act.put, List.setIfInBounds_toArray, List.set_cons_zero, List.set_cons_succ, List.getElem_toArray, List.getElem_cons_zero, List.getElem_cons_succ]
      refine wpAnyH_take (i := 4) (v := ?_) rfl (by kernel_rfl) (by kernel_rfl) (by kernel_rfl) (fun _ _ _ h => h) (Or.inl ⟨by rfl, ?_⟩) (by assumption) ?_
      rotate_left 1
      · (intro w hSw; (try dsimp only at hSw); first | (go_simp; done) | (go_simp; with_reducible rfl))
      try simp only [Act.put, List.setIfInBounds_toArray, List.set_cons_zero, List.set_cons_succ, List.getElem_toArray, List.getElem_cons_zero, List.getElem_cons_succ]
      refine wpAnyH_ready (rs := [1]) (by kernel_rfl) (by simp) ?_
      refine AllReadyH.cons rfl (fun K hK => ?_) AllReadyH.nil
      go_simp
      go_at_call 11
      refine (ownto_any (hOA.hands.below hbx.bel).rd (hOA.held.below hbx.bel).rd (by have := HLN.out; omega) (by have := HLN.out; omega)).mono ?_
      rintro e wa ⟨vh2, vb2, rfl, hoh, hob, hcb⟩
      replace hbx := hbx.below hcb
      have hoa2 : OwnAt wa vh2 vb2 H B := ⟨hoh.sl HP.out.wfH, hob.sl HP.out.wfB⟩
      clear hoh hob hcb
      try go_wp2_with fail
      refine hK.out _ _ ?_ (fun hHeld => ?_)
      · ((try dsimp only); exact ⟨hbx.x.1, hbx.x.2, hbx.o.2.2.2.1⟩)
      clear hK K
      try simp only [Act.put, List.setIfInBounds_toArray, List.set_cons_zero, List.set_cons_succ, List.getElem_toArray, List.getElem_cons_zero, List.getElem_cons_succ]
      refine wpAnyH_ready (rs := [5]) (by kernel_rfl) (by simp) ?_
      refine AllReadyH.cons rfl (fun K hK => ?_) AllReadyH.nil
      go_simp
      go_at_call 24
      refine (HCL.out _ _ _ hoa2).mono ?_
      rintro e wb ⟨a1, n1, c1, a2, n2, c2, a3, n3, c3, ve, rfl, h1, h2, h3, h4, hcb⟩
      replace hbx := hbx.below hcb
      clear hcb hoa2
      try go_wp2_with fail
      refine hK.out _ _ ?_ (fun hHeld => ?_)
      · ((try dsimp only); exact ⟨hbx.x.1, hbx.x.2, hbx.o.2.2.2.1⟩)
      clear hK K
      try simp only [Act.put, List.setIfInBounds_toArray, List.set_cons_zero, List.set_cons_succ, List.getElem_toArray, List.getElem_cons_zero, List.getElem_cons_succ]
      refine wpAnyH_take (i := 6) (v := ?_) rfl (by kernel_rfl) (by kernel_rfl) (by kernel_rfl) (fun _ _ _ h => h) (Or.inl ⟨by rfl, ?_⟩) (by assumption) ?_
      rotate_left 1
      · (intro w hSw; (try dsimp only at hSw); first | (go_simp; done) | (go_simp; with_reducible rfl))
      try simp only [Act.put, List.setIfInBounds_toArray, List.set_cons_zero, List.set_cons_succ, List.getElem_toArray, List.getElem_cons_zero, List.getElem_cons_succ]
      refine wpAnyH_take (i := 7) (v := ?_) rfl (by kernel_rfl) (by kernel_rfl) (by kernel_rfl) (fun _ _ _ h => h) (Or.inl ⟨by rfl, ?_⟩) (by assumption) ?_
      rotate_left 1
      · (intro w hSw; (try dsimp only at hSw); first | (go_simp; done) | (go_simp; with_reducible rfl))
      try simp only [Act.put, List.setIfInBounds_toArray, List.set_cons_zero, List.set_cons_succ, List.getElem_toArray, List.getElem_cons_zero, List.getElem_cons_succ]
      refine wpAnyH_take (i := 8) (v := ?_) rfl (by kernel_rfl) (by kernel_rfl) (by kernel_rfl) (fun _ _ _ h => h) (Or.inl ⟨by rfl, ?_⟩) (by assumption) ?_
      rotate_left 1
      · (intro w hSw; (try dsimp only at hSw); first | (go_simp; done) | (go_simp; with_reducible rfl))
      try simp only [Act.put, List.setIfInBounds_toArray, List.set_cons_zero, List.set_cons_succ, List.getElem_toArray, List.getElem_cons_zero, List.getElem_cons_succ]
      refine wpAnyH_take (i := 9) (v := ?_) rfl (by kernel_rfl) (by kernel_rfl) (by kernel_rfl) (fun _ _ _ h => h) (Or.inl ⟨by rfl, ?_⟩) (by assumption) ?_
      rotate_left 1
      · (intro w hSw; (try dsimp only at hSw); first | (go_simp; done) | (go_simp; with_reducible rfl))
      try simp only [Act.put, List.setIfInBounds_toArray, List.set_cons_zero, List.set_cons_succ, List.getElem_toArray, List.getElem_cons_zero, List.getElem_cons_succ]
      obtain ⟨p0, p1, pf⟩ := hbx.p
      have pf0 := pf 0
      have pf1 := pf 1
      clear pf
      have hsp := hbx.setP (.slice a1 n1 c1) (.slice a2 n2 c2)
      refine wpAnyH_ready (rs := [10]) (by kernel_rfl) (by simp) ?_
      refine AllReadyH.cons rfl (fun K hK => ?_) AllReadyH.nil
      go_simp
      try go_wp2_with fail
      refine hK.out _ _ ?_ (fun hHeld => ?_)
      · ((try dsimp only); exact ⟨hsp.x.1, hsp.x.2, hsp.o.2.2.2.1⟩)
      clear hK K
      try simp only [Act.put, List.setIfInBounds_toArray, List.set_cons_zero, List.set_cons_succ, List.getElem_toArray, List.getElem_cons_zero, List.getElem_cons_succ]
      clear hsp
      refine wpAnyH_take (i := 11) (v := ?_) rfl (by kernel_rfl) (by kernel_rfl) (by kernel_rfl) (fun _ _ _ h => h) (Or.inl ⟨by rfl, ?_⟩) (by assumption) ?_
      rotate_left 1
      · (intro w hSw; (try dsimp only at hSw); first | (go_simp; done) | (go_simp; with_reducible rfl))
      try simp only [Act.put, List.setIfInBounds_toArray, List.set_cons_zero, List.set_cons_succ, List.getElem_toArray, List.getElem_cons_zero, List.getElem_cons_succ]
      refine wpAnyH_take (i := 12) (v := ?_) rfl (by kernel_rfl) (by kernel_rfl) (by kernel_rfl) (fun _ _ _ h => h) (Or.inl ⟨by rfl, ?_⟩) (by assumption) ?_
      rotate_left 1
      · (intro w hSw; (try dsimp only at hSw); first | (go_simp; done) | (go_simp; with_reducible rfl))
      try simp only [Act.put, List.setIfInBounds_toArray, List.set_cons_zero, List.set_cons_succ, List.getElem_toArray, List.getElem_cons_zero, List.getElem_cons_succ]
      refine wpAnyH_done (by kernel_rfl) ?_ _
      have hk2 := Keeps.set2 (b1 := a1) (k1 := n1) (d1 := c1) (b2 := a2) (k2 := n2) (d2 := c2) hbx.hp
      replace hbx := hbx.setP (.slice a1 n1 c1) (.slice a2 n2 c2)
      replace h1 := hk2.sl h1
      replace h2 := hk2.bsl h2
      replace h3 := hk2.bsl h3
      replace h4 := hk2.err h4
      generalize ((wb.setCell ⟨P, 0, none⟩ (.slice a1 n1 c1)).setCell ⟨P, 1, none⟩ (.slice a2 n2 c2)) = wc at *
      clear hk2 p0 p1 pf0 pf1
      obtain ⟨x0, x1⟩ := hbx.x
      obtain ⟨o0, o1, o2, o3, o4⟩ := hbx.o
      go_wp2_with fail
      go_at_call 33
      refine (HRF.out _ _ _ (hOA.below hbx.bel)).mono ?_
      rintro e wd ⟨b1, k1, d1, b2, k2, d2, b3, k3, d3, b4, k4, d4, rfl, h5, h6, h7, h8, hcb⟩
      replace hbx := hbx.below hcb
      have hkb := Keeps.below hcb
      replace h1 := hkb.sl h1
      replace h2 := hkb.bsl h2
      replace h3 := hkb.bsl h3
      replace h4 := hkb.err h4
      clear hcb hkb x0 x1 o0 o1 o2 o3 o4
      have hk2 := Keeps.set2 (b1 := b1) (k1 := k1) (d1 := d1) (b2 := b2) (k2 := k2) (d2 := d2) hbx.hq
      obtain ⟨q0, q1, qf⟩ := hbx.q
      have qf0 := qf 0
      have qf1 := qf 1
      clear qf
      have hend := hbx.setQ (.slice b1 k1 d1) (.slice b2 k2 d2)
      go_wp2_with fail
      go_meet
      exact ⟨R, _, _, _, _, _, _, _, _, _, _, _, _, _, _, _, _, _, _, _, _, _, _, _, _, rfl, rfl, rfl, rfl, rfl, rfl, rfl, rfl, ⟨HRES.out, hend.hp, hend.hq, hend.hr, hk2.sl h1, hk2.bsl h2, hk2.sl h5, hk2.bsl h6, hk2.bsl h3, hk2.bsl h7, hk2.err h4, hk2.rdp h8, hend.bel⟩⟩
    by_cases h2 : kd = 2
    · subst h2
      obtain ⟨R, hres, hcl, hrf⟩ := close_both (h := hd) HM.out.1 HM.out.2 HP.out (by have := HLN.out; omega) (by have := HLN.out; omega) HHI.out
      have HRES := Lib.hid hres
      have HCL := Lib.hid hcl
      have HRF := Lib.hid hrf
      clear hres hcl hrf
      obtain ⟨x0, x1⟩ := hbx.x
      go_wp2_with fail
      go_at_call 11
      refine (ownto_any (hOA.hands.below hbx.bel).rd (hOA.held.below hbx.bel).rd (by have := HLN.out; omega) (by have := HLN.out; omega)).mono ?_
      rintro e wa ⟨vh2, vb2, rfl, hoh, hob, hcb⟩
      replace hbx := hbx.below hcb
      have hoa2 : OwnAt wa vh2 vb2 H B := ⟨hoh.sl HP.out.wfH, hob.sl HP.out.wfB⟩
      clear hoh hob hcb x0 x1
      go_wp2_with fail
      go_at_call 25
      refine (HCL.out _ _ _ hoa2).mono ?_
      rintro e wb ⟨a1, n1, c1, a2, n2, c2, a3, n3, c3, ve, rfl, h1, h2, h3, h4, hcb⟩
      replace hbx := hbx.below hcb
      clear hcb hoa2
      obtain ⟨p0, p1, pf⟩ := hbx.p
      have pf0 := pf 0
      have pf1 := pf 1
      clear pf
      go_upto_region 21 with fail
      have hk2 := Keeps.set2 (b1 := a1) (k1 := n1) (d1 := c1) (b2 := a2) (k2 := n2) (d2 := c2) hbx.hp
      replace hbx := hbx.setP (.slice a1 n1 c1) (.slice a2 n2 c2)
      replace h1 := hk2.sl h1
      replace h2 := hk2.bsl h2
      replace h3 := hk2.bsl h3
      replace h4 := hk2.err h4
      generalize ((wb.setCell ⟨P, 0, none⟩ (.slice a1 n1 c1)).setCell ⟨P, 1, none⟩ (.slice a2 n2 c2)) = wc at *
      clear hk2 p0 p1 pf0 pf1
      obtain ⟨x0, x1⟩ := hbx.x
      obtain ⟨o0, o1, o2, o3, o4⟩ := hbx.o
      go_wp2_with fail
      go_at_call 34
      refine (HRF.out _ _ _ (hOA.below hbx.bel)).mono ?_
      rintro e wd ⟨b1, k1, d1, b2, k2, d2, b3, k3, d3, b4, k4, d4, rfl, h5, h6, h7, h8, hcb⟩
      replace hbx := hbx.below hcb
      have hkb := Keeps.below hcb
      replace h1 := hkb.sl h1
      replace h2 := hkb.bsl h2
      replace h3 := hkb.bsl h3
      replace h4 := hkb.err h4
      clear hcb hkb x0 x1 o0 o1 o2 o3 o4
      have hk2 := Keeps.set2 (b1 := b1) (k1 := k1) (d1 := d1) (b2 := b2) (k2 := k2) (d2 := d2) hbx.hq
      obtain ⟨q0, q1, qf⟩ := hbx.q
      have qf0 := qf 0
      have qf1 := qf 1
      clear qf
      have hend := hbx.setQ (.slice b1 k1 d1) (.slice b2 k2 d2)
      go_wp2_with fail
      go_meet
      exact ⟨R, _, _, _, _, _, _, _, _, _, _, _, _, _, _, _, _, _, _, _, _, _, _, _, _, rfl, rfl, rfl, rfl, rfl, rfl, rfl, rfl, ⟨HRES.out, hend.hp, hend.hq, hend.hr, hk2.sl h1, hk2.bsl h2, hk2.sl h5, hk2.bsl h6, hk2.bsl h3, hk2.bsl h7, hk2.err h4, hk2.rdp h8, hend.bel⟩⟩
    · have hd0 : ((kd : Int) == 0) = false := by rw [beq_eq_false_iff_ne]; omega
      have hd1 : ((kd : Int) == 1) = false := by rw [beq_eq_false_iff_ne]; omega
      have hd2 : ((kd : Int) == 2) = false := by rw [beq_eq_false_iff_ne]; omega
      clear h0 h1 h2
      obtain ⟨R, hres, hcl, hrf⟩ := update_both (L := L0.take 20) HM.out.1 HM.out.2 HMU.out HP.out (by have := HLN.out; omega) (by have := HLN.out; omega) (by rw [List.length_take]; omega) (fun y hy => HV.out.wf y (List.mem_of_mem_take hy))
      have HRES := Lib.hid hres
      have HCL := Lib.hid hcl
      have HRF := Lib.hid hrf
      clear hres hcl hrf
      obtain ⟨mm, hmn, hsl⟩ := few_facts (T := 27) (s := 3) (by kernel_rfl) sizeCs al L0.length cl 20 20 rfl HLC.out
      obtain ⟨o0, o1, o2, o3, o4⟩ := hbx.o
      go_upto_region 11 with fail
      clear o0 o1 o2 o3 o4
      refine wp_region_held_drew (S := (fun w' => w'.cell? ⟨w.heap.size, 0, none⟩ = some (.slice ah H.length ch) ∧ w'.cell? ⟨w.heap.size, 1, none⟩ = some (.slice ab B.length cb) ∧ w'.cell? ⟨w.heap.size + 1, 0, none⟩ = some (.int .i64 (m : Int)) ∧ w'.cell? ⟨w.heap.size + 1, 1, none⟩ = some (.slice ae E.length ce) ∧ w'.cell? ⟨w.heap.size + 1, 2, none⟩ = some (.slice ai I.length ci))) (by kernel_rfl) ?_ (fun hHeld => ?_)
      · ((try dsimp only); exact ⟨hbx.x.1, hbx.x.2, hbx.g.1, hbx.g.2.1, hbx.g.2.2⟩)
      replace hbx := hbx.below (below_drewN (Below.refl _ _) 1)
      refine wpAnyH_take (i := 0) (v := ?_) rfl (by kernel_rfl) (by kernel_rfl) (by kernel_rfl) (fun _ _ _ h => h) (Or.inl ⟨by rfl, ?_⟩) (by assumption) ?_
      rotate_left 1
      · (intro w hSw; (try dsimp only at hSw); first | (go_simp; done) | (go_simp; with_reducible rfl))
      try simp only [Act.put, List.setIfInBounds_toArray, List.set_cons_zero, List.set_cons_succ, List.getElem_toArray, List.getElem_cons_zero]
      refine wpAnyH_take (i := 2) (v := ?_) rfl (by kernel_rfl) (by kernel_rfl) (by kernel_rfl) (fun _ _ _ h => h) (Or.inl ⟨by rfl, ?_⟩) (by assumption) ?_
      rotate_left 1
      · (intro w hSw; (try dsimp only at hSw); first | (go_simp; done) | (go_simp; with_reducible rfl))
      try simp only [Act.put, List.setIfInBounds_toArray, List.set_cons_zero, List.set_cons_succ, List.getElem_toArray, List.getElem_cons_zero, List.getElem_cons_succ]
      refine wpAnyH_take (i := 5) (v := ?_) rfl (by kernel_rfl) (by kernel_rfl) (by kernel_rfl) (fun _ _ _ h => h) (Or.inl ⟨by rfl, ?_⟩) (by assumption) ?_
      rotate_left 1
      · (intro w hSw; (try dsimp only at hSw); first | (go_simp; done) | (go_simp; with_reducible rfl))
      try simp only [Act.put, List.setIfInBounds_toArray, List.set_cons_zero, List.set_cons_succ, List.getElem_toArray, List.getElem_cons_zero, List.getElem_cons_succ]
      refine wpAnyH_ready (rs := [1]) (by kernel_rfl) (by simp) ?_
      refine AllReadyH.cons rfl (fun K hK => ?_) AllReadyH.nil
      go_simp
      go_at_call 11
      refine (ownto_any (hOA.hands.below hbx.bel).rd (hOA.held.below hbx.bel).rd (by have := HLN.out; omega) (by have := HLN.out; omega)).mono ?_
      rintro e wa ⟨vh2, vb2, rfl, hoh, hob, hcb⟩
      replace hbx := hbx.below hcb
      have hoa2 : OwnAt wa vh2 vb2 H B := ⟨hoh.sl HP.out.wfH, hob.sl HP.out.wfB⟩
      clear hoh hob hcb
      try go_wp2_with fail
      refine hK.out _ _ ?_ (fun hHeld => ?_)
      · ((try dsimp only); exact ⟨hbx.x.1, hbx.x.2, hbx.g.1, hbx.g.2.1, hbx.g.2.2⟩)
      clear hK K
      try simp only [Act.put, List.setIfInBounds_toArray, List.set_cons_zero, List.set_cons_succ, List.getElem_toArray, List.getElem_cons_zero, List.getElem_cons_succ]
      refine wpAnyH_ready (rs := [3]) (by kernel_rfl) (by simp) ?_
      refine AllReadyH.cons rfl (fun K hK => ?_) AllReadyH.nil
      go_simp
      go_at_call 14
      refine (gto_any (m : Int) (HG.out.below hbx.bel) (by have := HEI.out; omega) (by have := HEI.out; omega)).mono ?_
      rintro e wa1 ⟨ve3, vi3, rfl, hg3, hcb⟩
      replace hbx := hbx.below hcb
      replace hoa2 := hoa2.below hcb
      clear hcb
      try go_wp2_with fail
      refine hK.out _ _ ?_ (fun hHeld => ?_)
      · ((try dsimp only); exact ⟨hbx.x.1, hbx.x.2, hbx.g.1, hbx.g.2.1, hbx.g.2.2⟩)
      clear hK K
      try simp only [Act.put, List.setIfInBounds_toArray, List.set_cons_zero, List.set_cons_succ, List.getElem_toArray, List.getElem_cons_zero, List.getElem_cons_succ]
      refine wpAnyH_ready (rs := [4]) (by kernel_rfl) (by simp) ?_
      refine AllReadyH.cons rfl (fun K hK => ?_) AllReadyH.nil
      go_simp
      go_at_call 13
      refine (paths_any hg3.ed hg3.inp HOK.out).mono ?_
      rintro e wa2 ⟨v5, M1, rfl, hmat, hls, hcb⟩
      replace hbx := hbx.below hcb
      replace hoa2 := hoa2.below hcb
      clear hcb hg3
      try go_wp2_with fail
      refine hK.out _ _ ?_ (fun hHeld => ?_)
      · ((try dsimp only); exact ⟨hbx.x.1, hbx.x.2, hbx.g.1, hbx.g.2.1, hbx.g.2.2⟩)
      clear hK K
      try simp only [Act.put, List.setIfInBounds_toArray, List.set_cons_zero, List.set_cons_succ, List.getElem_toArray, List.getElem_cons_zero, List.getElem_cons_succ]
      refine wpAnyH_ready (rs := [6]) (by kernel_rfl) (by simp) ?_
      refine AllReadyH.cons rfl (fun K hK => ?_) AllReadyH.nil
      go_simp
      go_at_call 18
      refine (Batch.to_any (HV20.out.below hbx.bel) (by rw [List.length_take]; omega)).mono ?_
      rintro e wa3 ⟨v6, rfl, hov, hcb⟩
      replace hbx := hbx.below hcb
      replace hoa2 := hoa2.below hcb
      replace hmat := hmat.below hcb
      have hsv := hov.sl (fun y hy => HV.out.wf y (List.mem_of_mem_take hy))
      clear hcb hov
      try go_wp2_with fail
      refine hK.out _ _ ?_ (fun hHeld => ?_)
      · ((try dsimp only); exact ⟨hbx.x.1, hbx.x.2, hbx.g.1, hbx.g.2.1, hbx.g.2.2⟩)
      clear hK K
      try simp only [Act.put, List.setIfInBounds_toArray, List.set_cons_zero, List.set_cons_succ, List.getElem_toArray, List.getElem_cons_zero, List.getElem_cons_succ]
      refine wpAnyH_ready (rs := [7]) (by kernel_rfl) (by simp) ?_
      refine AllReadyH.cons rfl (fun K hK => ?_) AllReadyH.nil
      go_simp
      go_at_call 20
      refine (HCL.out _ _ _ _ _ _ M1 hoa2 (fun i j hi hj => HLM.out.one hls i j hi hj) (mu_of hls) hmat hsv).mono ?_
      rintro e wb ⟨a1, n1, c1, a2, n2, c2, a3, n3, c3, ve, rfl, h1, h2, h3, h4, hcb⟩
      replace hbx := hbx.below hcb
      clear hcb hoa2 hmat hsv hls
      try go_wp2_with fail
      refine hK.out _ _ ?_ (fun hHeld => ?_)
      · ((try dsimp only); exact ⟨hbx.x.1, hbx.x.2, hbx.g.1, hbx.g.2.1, hbx.g.2.2⟩)
      clear hK K
      try simp only [Act.put, List.setIfInBounds_toArray, List.set_cons_zero, List.set_cons_succ, List.getElem_toArray, List.getElem_cons_zero, List.getElem_cons_succ]
      refine wpAnyH_take (i := 8) (v := ?_) rfl (by kernel_rfl) (by kernel_rfl) (by kernel_rfl) (fun _ _ _ h => h) (Or.inl ⟨by rfl, ?_⟩) (by assumption) ?_
      rotate_left 1
      · (intro w hSw; (try dsimp only at hSw); first | (go_simp; done) | (go_simp; with_reducible rfl))
      try simp only [Act.put, List.setIfInBounds_toArray, List.set_cons_zero, List.set_cons_succ, List.getElem_toArray, List.getElem_cons_zero, List.getElem_cons_succ]
      refine wpAnyH_take (i := 9) (v := ?_) rfl (by kernel_rfl) (by kernel_rfl) (by kernel_rfl) (fun _ _ _ h => h) (Or.inl ⟨by rfl, ?_⟩) (by assumption) ?_
      rotate_left 1
      · (intro w hSw; (try dsimp only at hSw); first | (go_simp; done) | (go_simp; with_reducible rfl))
      try simp only [Act.put, List.setIfInBounds_toArray, List.set_cons_zero, List.set_cons_succ, List.getElem_toArray, List.getElem_cons_zero, List.getElem_cons_succ]
      refine wpAnyH_take (i := 10) (v := ?_) rfl (by kernel_rfl) (by kernel_rfl) (by kernel_rfl) (fun _ _ _ h => h) (Or.inl ⟨by rfl, ?_⟩) (by assumption) ?_
      rotate_left 1
      · (intro w hSw; (try dsimp only at hSw); first | (go_simp; done) | (go_simp; with_reducible rfl))
      try simp only [Act.put, List.setIfInBounds_toArray, List.set_cons_zero, List.set_cons_succ, List.getElem_toArray, List.getElem_cons_zero, List.getElem_cons_succ]
      refine wpAnyH_take (i := 11) (v := ?_) rfl (by kernel_rfl) (by kernel_rfl) (by kernel_rfl) (fun _ _ _ h => h) (Or.inl ⟨by rfl, ?_⟩) (by assumption) ?_
      rotate_left 1
      · (intro w hSw; (try dsimp only at hSw); first | (go_simp; done) | (go_simp; with_reducible rfl))
      try simp only [Act.put, List.setIfInBounds_toArray, List.set_cons_zero, List.set_cons_succ, List.getElem_toArray, List.getElem_cons_zero, List.getElem_cons_succ]
      obtain ⟨p0, p1, pf⟩ := hbx.p
      have pf0 := pf 0
      have pf1 := pf 1
      clear pf
      have hsp := hbx.setP (.slice a1 n1 c1) (.slice a2 n2 c2)
      refine wpAnyH_ready (rs := [12]) (by kernel_rfl) (by simp) ?_
      refine AllReadyH.cons rfl (fun K hK => ?_) AllReadyH.nil
      go_simp
      try go_wp2_with fail
      refine hK.out _ _ ?_ (fun hHeld => ?_)
      · ((try dsimp only); exact ⟨hsp.x.1, hsp.x.2, hsp.g.1, hsp.g.2.1, hsp.g.2.2⟩)
      clear hK K
      try simp only [Act.put, List.setIfInBounds_toArray, List.set_cons_zero, List.set_cons_succ, List.getElem_toArray, List.getElem_cons_zero, List.getElem_cons_succ]
      clear hsp
      refine wpAnyH_take (i := 13) (v := ?_) rfl (by kernel_rfl) (by kernel_rfl) (by kernel_rfl) (fun _ _ _ h => h) (Or.inl ⟨by rfl, ?_⟩) (by assumption) ?_
      rotate_left 1
      · (intro w hSw; (try dsimp only at hSw); first | (go_simp; done) | (go_simp; with_reducible rfl))
      try simp only [Act.put, List.setIfInBounds_toArray, List.set_cons_zero, List.set_cons_succ, List.getElem_toArray, List.getElem_cons_zero, List.getElem_cons_succ]
      refine wpAnyH_take (i := 14) (v := ?_) rfl (by kernel_rfl) (by kernel_rfl) (by kernel_rfl) (fun _ _ _ h => h) (Or.inl ⟨by rfl, ?_⟩) (by assumption) ?_
      rotate_left 1
      · (intro w hSw; (try dsimp only at hSw); first | (go_simp; done) | (go_simp; with_reducible rfl))
      try simp only [Act.put, List.setIfInBounds_toArray, List.set_cons_zero, List.set_cons_succ, List.getElem_toArray, List.getElem_cons_zero, List.getElem_cons_succ]
      refine wpAnyH_done (by kernel_rfl) ?_ _
      have hk2 := Keeps.set2 (b1 := a1) (k1 := n1) (d1 := c1) (b2 := a2) (k2 := n2) (d2 := c2) hbx.hp
      replace hbx := hbx.setP (.slice a1 n1 c1) (.slice a2 n2 c2)
      replace h1 := hk2.sl h1
      replace h2 := hk2.bsl h2
      replace h3 := hk2.bsl h3
      replace h4 := hk2.err h4
      generalize ((wb.setCell ⟨P, 0, none⟩ (.slice a1 n1 c1)).setCell ⟨P, 1, none⟩ (.slice a2 n2 c2)) = wc at *
      clear hk2 p0 p1 pf0 pf1
      go_upto_region 12 with fail
      refine wp_region_held_drew (S := (fun w' => w'.cell? ⟨w.heap.size, 0, none⟩ = some (.slice ah H.length ch) ∧ w'.cell? ⟨w.heap.size, 1, none⟩ = some (.slice ab B.length cb) ∧ w'.cell? ⟨w.heap.size + 1, 0, none⟩ = some (.int .i64 (m : Int)) ∧ w'.cell? ⟨w.heap.size + 1, 1, none⟩ = some (.slice ae E.length ce) ∧ w'.cell? ⟨w.heap.size + 1, 2, none⟩ = some (.slice ai I.length ci))) (by kernel_rfl) ?_ (fun hHeld => ?_)
      · ((try dsimp only); exact ⟨hbx.x.1, hbx.x.2, hbx.g.1, hbx.g.2.1, hbx.g.2.2⟩)
      have hkb := Keeps.below (below_drewN (Below.refl wc.heap.size wc) 1)
      replace h1 := hkb.sl h1
      replace h2 := hkb.bsl h2
      replace h3 := hkb.bsl h3
      replace h4 := hkb.err h4
      replace hbx := hbx.below (below_drewN (Below.refl wc.heap.size wc) 1)
      clear hkb
      refine wpAnyH_take (i := 0) (v := ?_) rfl (by kernel_rfl) (by kernel_rfl) (by kernel_rfl) (fun _ _ _ h => h) (Or.inl ⟨by rfl, ?_⟩) (by assumption) ?_
      rotate_left 1
      · (intro w hSw; (try dsimp only at hSw); first | (go_simp; done) | (go_simp; with_reducible rfl))
      try simp only [Act.put, List.setIfInBounds_toArray, List.set_cons_zero, List.set_cons_succ, List.getElem_toArray, List.getElem_cons_zero]
      refine wpAnyH_take (i := 1) (v := ?_) rfl (by kernel_rfl) (by kernel_rfl) (by kernel_rfl) (fun _ _ _ h => h) (Or.inl ⟨by rfl, ?_⟩) (by assumption) ?_
      rotate_left 1
      · (intro w hSw; (try dsimp only at hSw); first | (go_simp; done) | (go_simp; with_reducible rfl))
      try simp only [Act.put, List.setIfInBounds_toArray, List.set_cons_zero, List.set_cons_succ, List.getElem_toArray, List.getElem_cons_zero, List.getElem_cons_succ]
      refine wpAnyH_take (i := 3) (v := ?_) rfl (by kernel_rfl) (by kernel_rfl) (by kernel_rfl) (fun _ _ _ h => h) (Or.inl ⟨by rfl, ?_⟩) (by assumption) ?_
      rotate_left 1
      · (intro w hSw; (try dsimp only at hSw); first | (go_simp; done) | (go_simp; with_reducible rfl))
      try simp only [Act.put, List.setIfInBounds_toArray, List.set_cons_zero, List.set_cons_succ, List.getElem_toArray, List.getElem_cons_zero, List.getElem_cons_succ]
      refine wpAnyH_ready (rs := [2]) (by kernel_rfl) (by simp) ?_
      refine AllReadyH.cons rfl (fun K hK => ?_) AllReadyH.nil
      go_simp
      go_at_call 36
      refine (refpaths_any (HG.out.below hbx.bel).ed (HG.out.below hbx.bel).inp HOK.out).mono ?_
      rintro e wd1 ⟨v7, M2, rfl, hmat, hls, hcb⟩
      replace hbx := hbx.below hcb
      have hkb := Keeps.below hcb
      replace h1 := hkb.sl h1
      replace h2 := hkb.bsl h2
      replace h3 := hkb.bsl h3
      replace h4 := hkb.err h4
      clear hkb hcb
      try go_wp2_with fail
      refine hK.out _ _ ?_ (fun hHeld => ?_)
      · ((try dsimp only); exact ⟨hbx.x.1, hbx.x.2, hbx.g.1, hbx.g.2.1, hbx.g.2.2⟩)
      clear hK K
      try simp only [Act.put, List.setIfInBounds_toArray, List.set_cons_zero, List.set_cons_succ, List.getElem_toArray, List.getElem_cons_zero, List.getElem_cons_succ]
      refine wpAnyH_ready (rs := [4]) (by kernel_rfl) (by simp) ?_
      refine AllReadyH.cons rfl (fun K hK => ?_) AllReadyH.nil
      go_simp
      go_at_call 35
      refine (HRF.out _ _ _ _ _ _ M2 (hOA.below hbx.bel) (fun i j hi hj => HLM.out.one hls i j hi hj) (mu_of hls) hmat (HV20.out.below hbx.bel)).mono ?_
      rintro e wd ⟨b1, k1, d1, b2, k2, d2, b3, k3, d3, b4, k4, d4, rfl, h5, h6, h7, h8, hcb⟩
      replace hbx := hbx.below hcb
      have hkb := Keeps.below hcb
      replace h1 := hkb.sl h1
      replace h2 := hkb.bsl h2
      replace h3 := hkb.bsl h3
      replace h4 := hkb.err h4
      clear hcb hkb hmat hls
      try go_wp2_with fail
      refine hK.out _ _ ?_ (fun hHeld => ?_)
      · ((try dsimp only); exact ⟨hbx.x.1, hbx.x.2, hbx.g.1, hbx.g.2.1, hbx.g.2.2⟩)
      clear hK K
      try simp only [Act.put, List.setIfInBounds_toArray, List.set_cons_zero, List.set_cons_succ, List.getElem_toArray, List.getElem_cons_zero, List.getElem_cons_succ]
      refine wpAnyH_take (i := 5) (v := ?_) rfl (by kernel_rfl) (by kernel_rfl) (by kernel_rfl) (fun _ _ _ h => h) (Or.inl ⟨by rfl, ?_⟩) (by assumption) ?_
      rotate_left 1
      · (intro w hSw; (try dsimp only at hSw); first | (go_simp; done) | (go_simp; with_reducible rfl))
      try simp only [Act.put, List.setIfInBounds_toArray, List.set_cons_zero, List.set_cons_succ, List.getElem_toArray, List.getElem_cons_zero, List.getElem_cons_succ]
      refine wpAnyH_take (i := 6) (v := ?_) rfl (by kernel_rfl) (by kernel_rfl) (by kernel_rfl) (fun _ _ _ h => h) (Or.inl ⟨by rfl, ?_⟩) (by assumption) ?_
      rotate_left 1
      · (intro w hSw; (try dsimp only at hSw); first | (go_simp; done) | (go_simp; with_reducible rfl))
      try simp only [Act.put, List.setIfInBounds_toArray, List.set_cons_zero, List.set_cons_succ, List.getElem_toArray, List.getElem_cons_zero, List.getElem_cons_succ]
      refine wpAnyH_take (i := 7) (v := ?_) rfl (by kernel_rfl) (by kernel_rfl) (by kernel_rfl) (fun _ _ _ h => h) (Or.inl ⟨by rfl, ?_⟩) (by assumption) ?_
      rotate_left 1
      · (intro w hSw; (try dsimp only at hSw); first | (go_simp; done) | (go_simp; with_reducible rfl))
      try simp only [Act.put, List.setIfInBounds_toArray, List.set_cons_zero, List.set_cons_succ, List.getElem_toArray, List.getElem_cons_zero, List.getElem_cons_succ]
      refine wpAnyH_take (i := 8) (v := ?_) rfl (by kernel_rfl) (by kernel_rfl) (by kernel_rfl) (fun _ _ _ h => h) (Or.inl ⟨by rfl, ?_⟩) (by assumption) ?_
      rotate_left 1
      · (intro w hSw; (try dsimp only at hSw); first | (go_simp; done) | (go_simp; with_reducible rfl))
      try simp only [Act.put, List.setIfInBounds_toArray, List.set_cons_zero, List.set_cons_succ, List.getElem_toArray, List.getElem_cons_zero, List.getElem_cons_succ]
      refine wpAnyH_take (i := 9) (v := ?_) rfl (by kernel_rfl) (by kernel_rfl) (by kernel_rfl) (fun _ _ _ h => h) (Or.inl ⟨by rfl, ?_⟩) (by assumption) ?_
      rotate_left 1
      · (intro w hSw; (try dsimp only at hSw); first | (go_simp; done) | (go_simp; with_reducible rfl))
      try simp only [Act.put, List.setIfInBounds_toArray, List.set_cons_zero, List.set_cons_succ, List.getElem_toArray, List.getElem_cons_zero, List.getElem_cons_succ]
      have hk2 := Keeps.set2 (b1 := b1) (k1 := k1) (d1 := d1) (b2 := b2) (k2 := k2) (d2 := d2) hbx.hq
      obtain ⟨q0, q1, qf⟩ := hbx.q
      have qf0 := qf 0
      have qf1 := qf 1
      clear qf
      have hend := hbx.setQ (.slice b1 k1 d1) (.slice b2 k2 d2)
      refine wpAnyH_ready (rs := [10]) (by kernel_rfl) (by simp) ?_
      refine AllReadyH.cons rfl (fun K hK => ?_) AllReadyH.nil
      go_simp
      try go_wp2_with fail
      refine hK.out _ _ ?_ (fun hHeld => ?_)
      · ((try dsimp only); exact ⟨hend.x.1, hend.x.2, hend.g.1, hend.g.2.1, hend.g.2.2⟩)
      clear hK K
      try simp only [Act.put, List.setIfInBounds_toArray, List.set_cons_zero, List.set_cons_succ, List.getElem_toArray, List.getElem_cons_zero, List.getElem_cons_succ]
      refine wpAnyH_take (i := 11) (v := ?_) rfl (by kernel_rfl) (by kernel_rfl) (by kernel_rfl) (fun _ _ _ h => h) (Or.inl ⟨by rfl, ?_⟩) (by assumption) ?_
      rotate_left 1
      · (intro w hSw; (try dsimp only at hSw); first | (go_simp; done) | (go_simp; with_reducible rfl))
      try simp only [Act.put, List.setIfInBounds_toArray, List.set_cons_zero, List.set_cons_succ, List.getElem_toArray, List.getElem_cons_zero, List.getElem_cons_succ]
      refine wpAnyH_take (i := 12) (v := ?_) rfl (by kernel_rfl) (by kernel_rfl) (by kernel_rfl) (fun _ _ _ h => h) (Or.inl ⟨by rfl, ?_⟩) (by assumption) ?_
      rotate_left 1
      · (intro w hSw; (try dsimp only at hSw); first | (go_simp; done) | (go_simp; with_reducible rfl))
      try simp only [Act.put, List.setIfInBounds_toArray, List.set_cons_zero, List.set_cons_succ, List.getElem_toArray, List.getElem_cons_zero, List.getElem_cons_succ]
      refine wpAnyH_take (i := 13) (v := ?_) rfl (by kernel_rfl) (by kernel_rfl) (by kernel_rfl) (fun _ _ _ h => h) (Or.inl ⟨by rfl, ?_⟩) (by assumption) ?_
      rotate_left 1
      · (intro w hSw; (try dsimp only at hSw); first | (go_simp; done) | (go_simp; with_reducible rfl))
      try simp only [Act.put, List.setIfInBounds_toArray, List.set_cons_zero, List.set_cons_succ, List.getElem_toArray, List.getElem_cons_zero, List.getElem_cons_succ]
      refine wpAnyH_done (by kernel_rfl) ?_ _
      go_wp2_with fail
      go_meet
      exact ⟨R, _, _, _, _, _, _, _, _, _, _, _, _, _, _, _, _, _, _, _, _, _, _, _, _, rfl, rfl, rfl, rfl, rfl, rfl, rfl, rfl, ⟨HRES.out, hend.hp, hend.hq, hend.hr, hk2.sl h1, hk2.bsl h2, hk2.sl h5, hk2.bsl h6, hk2.bsl h3, hk2.bsl h7, hk2.err h4, hk2.rdp h8, hend.bel⟩⟩
  case rest =>
    obtain ⟨R, a1, n1, c1, a2, n2, c2, a3, n3, c3, b1, k1, d1, b2, k2, d2, b3, k3, d3, b4, k4, d4, ve, p1, p2, rfl, rfl, rfl, rfl, rfl, rfl, rfl, _, hD⟩ := hcut
    refine ‹∀ (a : Act) (w : World), Code.wp _ _ _ a w → _› _ _ ?_
    have HRES := Lib.hid hD.res
    have HLN2 := Lib.hid (show R.hs.length ≤ 1000 ∧ R.bs.length ≤ 1000 ∧ R.ch.length ≤ 20 from ⟨by have := hD.res.hl; have := HLN.out; omega, by have := hD.res.bl; have := HLN.out; omega, hD.res.chg.len⟩)
    have HKR := Lib.hid hD.res.kr
    have HSM := Lib.hid hD.res.small
    have HORD := Lib.hid HBX.out.ord
    clear HBX HLN HP HEI HLM HMU HM HV HV20 HTK HLC HG HOK HHI HN HID HT HB0 HS0 HX0 HG0 HO0 HR0 hOA hk6
    obtain ⟨_, hp, hq, hrr, k1s, k2s, l1s, l2s, m1s, m2s, her, hpl, hbel⟩ := hD
    generalize wc = wv at *
    go_upto_region 22 with fail
    go_cut [16, 18] (fun s16 s18 wy => s18 = .bool true ∧ Below wv.heap.size wv wy)
    case first =>
      have hLx : LV wv := HL.out.below hbel
      go_wp2_with fail
      go_at_call 37
      refine (kind_pv hLx her).mono ?_
      rintro e wk ⟨rfl, hcb⟩
      rcases her with ⟨hz, hz2, hv⟩ | ⟨hz, hch, u5, x5, hv⟩
      · subst hv
        have hz' : R.k = 0 := hz
        rw [hz']
        go_wp2_with fail
        go_meet
        exact ⟨by first | rfl | simp, hcb⟩
      · subst hv
        have hz' : R.k ≠ 0 := hz
        have HZ := Lib.hid hz'
        have hrd := reads_rdp (V := (R.pl, 0)) hpl ⟨HSM.out.1, HSM.out.2, Int.le_refl _, by show (0 : Int) ≤ 4; decide⟩
        have HTX := Lib.hid (fun W (hW : Below wv.heap.size wv W) => text_errno R.k (hLx.below hW) (hch.below hW) HKR.out.1 HKR.out.2 (by have := HSM.out.2; dsimp only; omega) HSM.out.1)
        have HRT := Lib.hid (fun W (hW : Below wv.heap.size wv W) => refTextF_any R.k (by have := HKR.out.1; have := HZ.out; omega) HKR.out.2 (hrd.below hW) (by have := HSM.out.2; dsimp only; omega) HSM.out.1)
        have hkz : (R.k == 0) = false := by rw [beq_eq_false_iff_ne]; exact hz'
        have hkz2 : (R.k != 0) = true := by rw [bne_iff_ne]; exact hz'
        have HCB := Lib.hid hcb
        dsimp only at HTX HRT ⊢
        generalize (textL R.pl R.k).toArray = TX at HTX HRT
        generalize R.k = kk at hkz hkz2 HTX HRT ⊢
        clear hz hz' hch hrd hcb
        go_wp2_with fail
        go_at_call 29
        refine (HTX.out _ HCB.out).mono ?_
        rintro e wk2 ⟨rfl, hcb⟩
        replace HCB := Lib.hid (HCB.out.trans (hcb.mono HCB.out.size))
        clear hcb
        go_wp2_with fail
        go_at_call 38
        refine (HRT.out _ HCB.out).mono ?_
        rintro e wk3 ⟨rfl, hcb⟩
        replace HCB := Lib.hid (HCB.out.trans (hcb.mono HCB.out.size))
        clear hcb
        go_wp2_with fail
        go_meet
        exact ⟨by simp, HCB.out⟩
    case rest =>
      obtain ⟨rfl, hcy⟩ := hcut
      refine ‹∀ (a : Act) (w : World), Code.wp _ _ _ a w → _› _ _ ?_
      replace hp := (hcy.block _ (Array.getElem?_eq_some_iff.1 hp).1).trans hp
      replace hq := (hcy.block _ (Array.getElem?_eq_some_iff.1 hq).1).trans hq
      replace hrr := (hcy.block _ (Array.getElem?_eq_some_iff.1 hrr).1).trans hrr
      replace k1s := k1s.below hcy
      replace k2s := k2s.below hcy
      replace l1s := l1s.below hcy
      replace l2s := l2s.below hcy
      replace m1s := m1s.below hcy
      replace m2s := m2s.below hcy
      replace hbel := hbel.trans (hcy.mono hbel.size)
      clear hcy her hpl HKR HSM HL
      have HOW := Lib.hid HRES.out.own
      have HCW := Lib.hid HRES.out.chg.wf
      go_upto_region 23 with fail
      refine wp_region_held_drew (S := (fun w' => w'.cell? ⟨Q, 0, none⟩ = some (.slice b1 k1 d1) ∧ w'.cell? ⟨Q, 1, none⟩ = some (.slice b2 k2 d2) ∧ w'.cell? ⟨P, 0, none⟩ = some (.slice a1 n1 c1) ∧ w'.cell? ⟨P, 1, none⟩ = some (.slice a2 n2 c2))) (by kernel_rfl) ?_ (fun hHeld => ?_)
      · ((try dsimp only); exact ⟨(pair_cells hq).1, (pair_cells hq).2.1, (pair_cells hp).1, (pair_cells hp).2.1⟩)
      have hcb := below_drewN (Below.refl wc.heap.size wc) 1
      replace hp := (hcb.block _ (Array.getElem?_eq_some_iff.1 hp).1).trans hp
      replace hq := (hcb.block _ (Array.getElem?_eq_some_iff.1 hq).1).trans hq
      replace hrr := (hcb.block _ (Array.getElem?_eq_some_iff.1 hrr).1).trans hrr
      replace k1s := k1s.below hcb
      replace k2s := k2s.below hcb
      replace l1s := l1s.below hcb
      replace l2s := l2s.below hcb
      replace m1s := m1s.below hcb
      replace m2s := m2s.below hcb
      replace hbel := hbel.trans (hcb.mono hbel.size)
      clear hcb
      refine wpAnyH_take (i := 0) (v := ?_) rfl (by kernel_rfl) (by kernel_rfl) (by kernel_rfl) (fun _ _ _ h => h) (Or.inl ⟨by rfl, ?_⟩) (by assumption) ?_
      rotate_left 1
      · (intro w hSw; (try dsimp only at hSw); first | (go_simp; done) | (go_simp; with_reducible rfl))
      try simp only [Act.put, List.setIfInBounds_toArray, List.set_cons_zero, List.set_cons_succ, List.getElem_toArray, List.getElem_cons_zero]
      refine wpAnyH_take (i := 1) (v := ?_) rfl (by kernel_rfl) (by kernel_rfl) (by kernel_rfl) (fun _ _ _ h => h) (Or.inl ⟨by rfl, ?_⟩) (by assumption) ?_
      rotate_left 1
      · (intro w hSw; (try dsimp only at hSw); first | (go_simp; done) | (go_simp; with_reducible rfl))
      try simp only [Act.put, List.setIfInBounds_toArray, List.set_cons_zero, List.set_cons_succ, List.getElem_toArray, List.getElem_cons_zero, List.getElem_cons_succ]
      refine wpAnyH_take (i := 2) (v := ?_) rfl (by kernel_rfl) (by kernel_rfl) (by kernel_rfl) (fun _ _ _ h => h) (Or.inl ⟨by rfl, ?_⟩) (by assumption) ?_
      rotate_left 1
      · (intro w hSw; (try dsimp only at hSw); first | (go_simp; done) | (go_simp; with_reducible rfl))
      try simp only [Act.put, List.setIfInBounds_toArray, List.set_cons_zero, List.set_cons_succ, List.getElem_toArray, List.getElem_cons_zero, List.getElem_cons_succ]
      refine wpAnyH_take (i := 3) (v := ?_) rfl (by kernel_rfl) (by kernel_rfl) (by kernel_rfl) (fun _ _ _ h => h) (Or.inl ⟨by rfl, ?_⟩) (by assumption) ?_
      rotate_left 1
      · (intro w hSw; (try dsimp only at hSw); first | (go_simp; done) | (go_simp; with_reducible rfl))
      try simp only [Act.put, List.setIfInBounds_toArray, List.set_cons_zero, List.set_cons_succ, List.getElem_toArray, List.getElem_cons_zero, List.getElem_cons_succ]
      refine wpAnyH_take (i := 4) (v := ?_) rfl (by kernel_rfl) (by kernel_rfl) (by kernel_rfl) (fun _ _ _ h => h) (Or.inl ⟨by rfl, ?_⟩) (by assumption) ?_
      rotate_left 1
      · (intro w hSw; (try dsimp only at hSw); first | (go_simp; done) | (go_simp; with_reducible rfl))
      try simp only [Act.put, List.setIfInBounds_toArray, List.set_cons_zero, List.set_cons_succ, List.getElem_toArray, List.getElem_cons_zero, List.getElem_cons_succ]
      refine wpAnyH_take (i := 6) (v := ?_) rfl (by kernel_rfl) (by kernel_rfl) (by kernel_rfl) (fun _ _ _ h => h) (Or.inl ⟨by rfl, ?_⟩) (by assumption) ?_
      rotate_left 1
      · (intro w hSw; (try dsimp only at hSw); first | (go_simp; done) | (go_simp; with_reducible rfl))
      try simp only [Act.put, List.setIfInBounds_toArray, List.set_cons_zero, List.set_cons_succ, List.getElem_toArray, List.getElem_cons_zero, List.getElem_cons_succ]
      refine wpAnyH_ready (rs := [5]) (by kernel_rfl) (by simp) ?_
      refine AllReadyH.cons rfl (fun K hK => ?_) AllReadyH.nil
      go_simp
      go_at_call 40
      refine (ownfrom_any k1s.rd k2s.rd (by have := HLN2.out; omega) (by have := HLN2.out; omega)).mono ?_
      rintro e wn ⟨vh5, vb5, rfl, hoh, hob, hcb⟩
      replace hp := (hcb.block _ (Array.getElem?_eq_some_iff.1 hp).1).trans hp
      replace hq := (hcb.block _ (Array.getElem?_eq_some_iff.1 hq).1).trans hq
      replace hrr := (hcb.block _ (Array.getElem?_eq_some_iff.1 hrr).1).trans hrr
      replace k1s := k1s.below hcb
      replace k2s := k2s.below hcb
      replace l1s := l1s.below hcb
      replace l2s := l2s.below hcb
      replace m1s := m1s.below hcb
      replace m2s := m2s.below hcb
      replace hbel := hbel.trans (hcb.mono hbel.size)
      have f1 := (hoh.sl HOW.out.wfH).rd
      have f2 := (hob.sl HOW.out.wfB).rd
      clear hcb hoh hob
      try go_wp2_with fail
      refine hK.out _ _ ?_ (fun hHeld => ?_)
      · ((try dsimp only); exact ⟨(pair_cells hq).1, (pair_cells hq).2.1, (pair_cells hp).1, (pair_cells hp).2.1⟩)
      clear hK K
      try simp only [Act.put, List.setIfInBounds_toArray, List.set_cons_zero, List.set_cons_succ, List.getElem_toArray, List.getElem_cons_zero, List.getElem_cons_succ]
      refine wpAnyH_ready (rs := [7]) (by kernel_rfl) (by simp) ?_
      refine AllReadyH.cons rfl (fun K hK => ?_) AllReadyH.nil
      go_simp
      go_at_call 39
      refine (ownsame_yes f1 l1s.rd f2 l2s.rd).mono ?_
      rintro e wn ⟨rfl, hcb⟩
      replace hp := (hcb.block _ (Array.getElem?_eq_some_iff.1 hp).1).trans hp
      replace hq := (hcb.block _ (Array.getElem?_eq_some_iff.1 hq).1).trans hq
      replace hrr := (hcb.block _ (Array.getElem?_eq_some_iff.1 hrr).1).trans hrr
      replace k1s := k1s.below hcb
      replace k2s := k2s.below hcb
      replace l1s := l1s.below hcb
      replace l2s := l2s.below hcb
      replace m1s := m1s.below hcb
      replace m2s := m2s.below hcb
      replace hbel := hbel.trans (hcb.mono hbel.size)
      clear hcb f1 f2
      try go_wp2_with fail
      refine hK.out _ _ ?_ (fun hHeld => ?_)
      · ((try dsimp only); exact ⟨(pair_cells hq).1, (pair_cells hq).2.1, (pair_cells hp).1, (pair_cells hp).2.1⟩)
      clear hK K
      try simp only [Act.put, List.setIfInBounds_toArray, List.set_cons_zero, List.set_cons_succ, List.getElem_toArray, List.getElem_cons_zero, List.getElem_cons_succ]
      refine wpAnyH_take (i := 8) (v := ?_) rfl (by kernel_rfl) (by kernel_rfl) (by kernel_rfl) (fun _ _ _ h => h) (Or.inl ⟨by rfl, ?_⟩) (by assumption) ?_
      rotate_left 1
      · (intro w hSw; (try dsimp only at hSw); first | (go_simp; done) | (go_simp; with_reducible rfl))
      try simp only [Act.put, List.setIfInBounds_toArray, List.set_cons_zero, List.set_cons_succ, List.getElem_toArray, List.getElem_cons_zero, List.getElem_cons_succ]
      refine wpAnyH_take (i := 9) (v := ?_) rfl (by kernel_rfl) (by kernel_rfl) (by kernel_rfl) (fun _ _ _ h => h) (Or.inl ⟨by rfl, ?_⟩) (by assumption) ?_
      rotate_left 1
      · (intro w hSw; (try dsimp only at hSw); first | (go_simp; done) | (go_simp; with_reducible rfl))
      try simp only [Act.put, List.setIfInBounds_toArray, List.set_cons_zero, List.set_cons_succ, List.getElem_toArray, List.getElem_cons_zero, List.getElem_cons_succ]
      refine wpAnyH_take (i := 10) (v := ?_) rfl (by kernel_rfl) (by kernel_rfl) (by kernel_rfl) (fun _ _ _ h => h) (Or.inl ⟨by rfl, ?_⟩) (by assumption) ?_
      rotate_left 1
      · (intro w hSw; (try dsimp only at hSw); first | (go_simp; done) | (go_simp; with_reducible rfl))
      try simp only [Act.put, List.setIfInBounds_toArray, List.set_cons_zero, List.set_cons_succ, List.getElem_toArray, List.getElem_cons_zero, List.getElem_cons_succ]
      refine wpAnyH_take (i := 12) (v := ?_) rfl (by kernel_rfl) (by kernel_rfl) (by kernel_rfl) (fun _ _ _ h => h) (Or.inl ⟨by rfl, ?_⟩) (by assumption) ?_
      rotate_left 1
      · (intro w hSw; (try dsimp only at hSw); first | (go_simp; done) | (go_simp; with_reducible rfl))
      try simp only [Act.put, List.setIfInBounds_toArray, List.set_cons_zero, List.set_cons_succ, List.getElem_toArray, List.getElem_cons_zero, List.getElem_cons_succ]
      refine wpAnyH_ready (rs := [11]) (by kernel_rfl) (by simp) ?_
      refine AllReadyH.cons rfl (fun K hK => ?_) AllReadyH.nil
      go_simp
      go_at_call 42
      refine (Batch.from_any m1s.rd (by have := HLN2.out; omega)).mono ?_
      rintro e wn ⟨v6, rfl, hov, hcb⟩
      replace hp := (hcb.block _ (Array.getElem?_eq_some_iff.1 hp).1).trans hp
      replace hq := (hcb.block _ (Array.getElem?_eq_some_iff.1 hq).1).trans hq
      replace hrr := (hcb.block _ (Array.getElem?_eq_some_iff.1 hrr).1).trans hrr
      replace k1s := k1s.below hcb
      replace k2s := k2s.below hcb
      replace l1s := l1s.below hcb
      replace l2s := l2s.below hcb
      replace m1s := m1s.below hcb
      replace m2s := m2s.below hcb
      replace hbel := hbel.trans (hcb.mono hbel.size)
      have f1 := (hov.sl HCW.out).rd
      clear hcb hov
      try go_wp2_with fail
      refine hK.out _ _ ?_ (fun hHeld => ?_)
      · ((try dsimp only); exact ⟨(pair_cells hq).1, (pair_cells hq).2.1, (pair_cells hp).1, (pair_cells hp).2.1⟩)
      clear hK K
      try simp only [Act.put, List.setIfInBounds_toArray, List.set_cons_zero, List.set_cons_succ, List.getElem_toArray, List.getElem_cons_zero, List.getElem_cons_succ]
      refine wpAnyH_ready (rs := [13]) (by kernel_rfl) (by simp) ?_
      refine AllReadyH.cons rfl (fun K hK => ?_) AllReadyH.nil
      go_simp
      go_at_call 41
      refine (refsame_self f1 m2s.rd).mono ?_
      rintro e wn ⟨rfl, hcb⟩
      replace hp := (hcb.block _ (Array.getElem?_eq_some_iff.1 hp).1).trans hp
      replace hq := (hcb.block _ (Array.getElem?_eq_some_iff.1 hq).1).trans hq
      replace hrr := (hcb.block _ (Array.getElem?_eq_some_iff.1 hrr).1).trans hrr
      replace k1s := k1s.below hcb
      replace k2s := k2s.below hcb
      replace l1s := l1s.below hcb
      replace l2s := l2s.below hcb
      replace m1s := m1s.below hcb
      replace m2s := m2s.below hcb
      replace hbel := hbel.trans (hcb.mono hbel.size)
      clear hcb f1
      try go_wp2_with fail
      refine hK.out _ _ ?_ (fun hHeld => ?_)
      · ((try dsimp only); exact ⟨(pair_cells hq).1, (pair_cells hq).2.1, (pair_cells hp).1, (pair_cells hp).2.1⟩)
      clear hK K
      try simp only [Act.put, List.setIfInBounds_toArray, List.set_cons_zero, List.set_cons_succ, List.getElem_toArray, List.getElem_cons_zero, List.getElem_cons_succ]
      refine wpAnyH_take (i := 14) (v := ?_) rfl (by kernel_rfl) (by kernel_rfl) (by kernel_rfl) (fun _ _ _ h => h) (Or.inl ⟨by rfl, ?_⟩) (by assumption) ?_
      rotate_left 1
      · (intro w hSw; (try dsimp only at hSw); first | (go_simp; done) | (go_simp; with_reducible rfl))
      try simp only [Act.put, List.setIfInBounds_toArray, List.set_cons_zero, List.set_cons_succ, List.getElem_toArray, List.getElem_cons_zero, List.getElem_cons_succ]
      refine wpAnyH_take (i := 15) (v := ?_) rfl (by kernel_rfl) (by kernel_rfl) (by kernel_rfl) (fun _ _ _ h => h) (Or.inl ⟨by rfl, ?_⟩) (by assumption) ?_
      rotate_left 1
      · (intro w hSw; (try dsimp only at hSw); first | (go_simp; done) | (go_simp; with_reducible rfl))
      try simp only [Act.put, List.setIfInBounds_toArray, List.set_cons_zero, List.set_cons_succ, List.getElem_toArray, List.getElem_cons_zero, List.getElem_cons_succ]
      refine wpAnyH_take (i := 16) (v := ?_) rfl (by kernel_rfl) (by kernel_rfl) (by kernel_rfl) (fun _ _ _ h => h) (Or.inl ⟨by rfl, ?_⟩) (by assumption) ?_
      rotate_left 1
      · (intro w hSw; (try dsimp only at hSw); first | (go_simp; done) | (go_simp; with_reducible rfl))
      try simp only [Act.put, List.setIfInBounds_toArray, List.set_cons_zero, List.set_cons_succ, List.getElem_toArray, List.getElem_cons_zero, List.getElem_cons_succ]
      refine wpAnyH_take (i := 19) (v := ?_) rfl (by kernel_rfl) (by kernel_rfl) (by kernel_rfl) (fun _ _ _ h => h) (Or.inl ⟨by rfl, ?_⟩) (by assumption) ?_
      rotate_left 1
      · (intro w hSw; (try dsimp only at hSw); first | (go_simp; done) | (go_simp; with_reducible rfl))
      try simp only [Act.put, List.setIfInBounds_toArray, List.set_cons_zero, List.set_cons_succ, List.getElem_toArray, List.getElem_cons_zero, List.getElem_cons_succ]
      refine wpAnyH_ready (rs := [17]) (by kernel_rfl) (by simp) ?_
      refine AllReadyH.cons rfl (fun K hK => ?_) AllReadyH.nil
      go_simp
      go_at_call 15
      refine (all_any k1s k2s (by have := HLN2.out; omega) (by have := HLN2.out; omega)).mono ?_
      rintro e wn ⟨v7, rfl, hov, hcb⟩
      replace hp := (hcb.block _ (Array.getElem?_eq_some_iff.1 hp).1).trans hp
      replace hq := (hcb.block _ (Array.getElem?_eq_some_iff.1 hq).1).trans hq
      replace hrr := (hcb.block _ (Array.getElem?_eq_some_iff.1 hrr).1).trans hrr
      replace k1s := k1s.below hcb
      replace k2s := k2s.below hcb
      replace l1s := l1s.below hcb
      replace l2s := l2s.below hcb
      replace m1s := m1s.below hcb
      replace m2s := m2s.below hcb
      replace hbel := hbel.trans (hcb.mono hbel.size)
      have f1 := (hov.sl (all_wf HOW.out.wfH HOW.out.wfB)).rd
      clear hcb hov
      try go_wp2_with fail
      refine hK.out _ _ ?_ (fun hHeld => ?_)
      · ((try dsimp only); exact ⟨(pair_cells hq).1, (pair_cells hq).2.1, (pair_cells hp).1, (pair_cells hp).2.1⟩)
      clear hK K
      try simp only [Act.put, List.setIfInBounds_toArray, List.set_cons_zero, List.set_cons_succ, List.getElem_toArray, List.getElem_cons_zero, List.getElem_cons_succ]
      refine wpAnyH_ready (rs := [18]) (by kernel_rfl) (by simp) ?_
      refine AllReadyH.cons rfl (fun K hK => ?_) AllReadyH.nil
      go_simp
      go_at_call 42
      refine (Batch.from_any f1 (Nat.le_trans all_length (by have := HLN2.out; omega))).mono ?_
      rintro e wn ⟨v8, rfl, hov, hcb⟩
      replace hp := (hcb.block _ (Array.getElem?_eq_some_iff.1 hp).1).trans hp
      replace hq := (hcb.block _ (Array.getElem?_eq_some_iff.1 hq).1).trans hq
      replace hrr := (hcb.block _ (Array.getElem?_eq_some_iff.1 hrr).1).trans hrr
      replace k1s := k1s.below hcb
      replace k2s := k2s.below hcb
      replace l1s := l1s.below hcb
      replace l2s := l2s.below hcb
      replace m1s := m1s.below hcb
      replace m2s := m2s.below hcb
      replace hbel := hbel.trans (hcb.mono hbel.size)
      have f2 := (hov.sl (all_wf HOW.out.wfH HOW.out.wfB)).rd
      clear hcb hov f1
      try go_wp2_with fail
      refine hK.out _ _ ?_ (fun hHeld => ?_)
      · ((try dsimp only); exact ⟨(pair_cells hq).1, (pair_cells hq).2.1, (pair_cells hp).1, (pair_cells hp).2.1⟩)
      clear hK K
      try simp only [Act.put, List.setIfInBounds_toArray, List.set_cons_zero, List.set_cons_succ, List.getElem_toArray, List.getElem_cons_zero, List.getElem_cons_succ]
      refine wpAnyH_ready (rs := [20]) (by kernel_rfl) (by simp) ?_
      refine AllReadyH.cons rfl (fun K hK => ?_) AllReadyH.nil
      go_simp
      go_at_call 43
      refine (refall_any l1s l2s HOW.out.hold (by have := HLN2.out; omega) (by have := HLN2.out; omega)).mono ?_
      rintro e wn ⟨v9, rfl, hov, hcb⟩
      replace hp := (hcb.block _ (Array.getElem?_eq_some_iff.1 hp).1).trans hp
      replace hq := (hcb.block _ (Array.getElem?_eq_some_iff.1 hq).1).trans hq
      replace hrr := (hcb.block _ (Array.getElem?_eq_some_iff.1 hrr).1).trans hrr
      replace k1s := k1s.below hcb
      replace k2s := k2s.below hcb
      replace l1s := l1s.below hcb
      replace l2s := l2s.below hcb
      replace m1s := m1s.below hcb
      replace m2s := m2s.below hcb
      replace f2 := f2.below hcb
      replace hbel := hbel.trans (hcb.mono hbel.size)
      have f3 := (hov.sl (all_wf HOW.out.wfH HOW.out.wfB)).rd
      clear hcb hov
      try go_wp2_with fail
      refine hK.out _ _ ?_ (fun hHeld => ?_)
      · ((try dsimp only); exact ⟨(pair_cells hq).1, (pair_cells hq).2.1, (pair_cells hp).1, (pair_cells hp).2.1⟩)
      clear hK K
      try simp only [Act.put, List.setIfInBounds_toArray, List.set_cons_zero, List.set_cons_succ, List.getElem_toArray, List.getElem_cons_zero, List.getElem_cons_succ]
      refine wpAnyH_ready (rs := [21]) (by kernel_rfl) (by simp) ?_
      refine AllReadyH.cons rfl (fun K hK => ?_) AllReadyH.nil
      go_simp
      go_at_call 41
      refine (refsame_self f2 f3).mono ?_
      rintro e wn ⟨rfl, hcb⟩
      replace hp := (hcb.block _ (Array.getElem?_eq_some_iff.1 hp).1).trans hp
      replace hq := (hcb.block _ (Array.getElem?_eq_some_iff.1 hq).1).trans hq
      replace hrr := (hcb.block _ (Array.getElem?_eq_some_iff.1 hrr).1).trans hrr
      replace k1s := k1s.below hcb
      replace k2s := k2s.below hcb
      replace l1s := l1s.below hcb
      replace l2s := l2s.below hcb
      replace m1s := m1s.below hcb
      replace m2s := m2s.below hcb
      replace hbel := hbel.trans (hcb.mono hbel.size)
      clear hcb f2 f3
      try go_wp2_with fail
      refine hK.out _ _ ?_ (fun hHeld => ?_)
      · ((try dsimp only); exact ⟨(pair_cells hq).1, (pair_cells hq).2.1, (pair_cells hp).1, (pair_cells hp).2.1⟩)
      clear hK K
      try simp only [Act.put, List.setIfInBounds_toArray, List.set_cons_zero, List.set_cons_succ, List.getElem_toArray, List.getElem_cons_zero, List.getElem_cons_succ]
      refine wpAnyH_take (i := 22) (v := ?_) rfl (by kernel_rfl) (by kernel_rfl) (by kernel_rfl) (fun _ _ _ h => h) (Or.inl ⟨by rfl, ?_⟩) (by assumption) ?_
      rotate_left 1
      · (intro w hSw; (try dsimp only at hSw); first | (go_simp; done) | (go_simp; with_reducible rfl))
      try simp only [Act.put, List.setIfInBounds_toArray, List.set_cons_zero, List.set_cons_succ, List.getElem_toArray, List.getElem_cons_zero, List.getElem_cons_succ]
      obtain ⟨r0, r1, rf⟩ := pair_cells hrr
      have rf0 := rf 0
      have rf1 := rf 1
      clear rf
      refine wpAnyH_ready (rs := [23]) (by kernel_rfl) (by simp) ?_
      refine AllReadyH.cons rfl (fun K hK => ?_) AllReadyH.nil
      go_simp
      try go_wp2_with fail
      refine hK.out _ _ ?_ (fun hHeld => ?_)
      · ((try dsimp only); exact ⟨(pair_cells ((blk_two (by have := HORD.out; omega)).trans hq)).1, (pair_cells ((blk_two (by have := HORD.out; omega)).trans hq)).2.1, (pair_cells ((blk_two (by have := HORD.out; omega)).trans hp)).1, (pair_cells ((blk_two (by have := HORD.out; omega)).trans hp)).2.1⟩)
      clear hK K
      try simp only [Act.put, List.setIfInBounds_toArray, List.set_cons_zero, List.set_cons_succ, List.getElem_toArray, List.getElem_cons_zero, List.getElem_cons_succ]
      refine wpAnyH_take (i := 24) (v := ?_) rfl (by kernel_rfl) (by kernel_rfl) (by kernel_rfl) (fun _ _ _ h => h) (Or.inl ⟨by rfl, ?_⟩) (by assumption) ?_
      rotate_left 1
      · (intro w hSw; (try dsimp only at hSw); first | (go_simp; done) | (go_simp; with_reducible rfl))
      try simp only [Act.put, List.setIfInBounds_toArray, List.set_cons_zero, List.set_cons_succ, List.getElem_toArray, List.getElem_cons_zero, List.getElem_cons_succ]
      refine wpAnyH_take (i := 25) (v := ?_) rfl (by kernel_rfl) (by kernel_rfl) (by kernel_rfl) (fun _ _ _ h => h) (Or.inl ⟨by rfl, ?_⟩) (by assumption) ?_
      rotate_left 1
      · (intro w hSw; (try dsimp only at hSw); first | (go_simp; done) | (go_simp; with_reducible rfl))
      try simp only [Act.put, List.setIfInBounds_toArray, List.set_cons_zero, List.set_cons_succ, List.getElem_toArray, List.getElem_cons_zero, List.getElem_cons_succ]
      refine wpAnyH_done (by kernel_rfl) ?_ _
      go_wp2_with fail
      have hkr := Keeps.set2 (b1 := b1) (k1 := k1) (d1 := d1) (b2 := b2) (k2 := k2) (d2 := d2) hrr
      obtain ⟨z0, z1, _⟩ := pair_cells (set2 (u1 := .slice b1 k1 d1) (u2 := .slice b2 k2 d2) hrr)
      refine bodyPost_ret (v := .tuple #[.agg #[.slice b1 k1 d1, .slice b2 k2 d2], .slice b3 k3 d3, .bool true]) (by simp [results, Tryz.results9, go_sem, z0, z1]) rfl ⟨R, _, _, _, _, _, _, _, _, _, rfl, HRES.out, hkr.sl l1s, hkr.bsl l2s, hkr.bsl m2s, ?_⟩
      exact (hbel.setCell (p := ⟨w.heap.size + 1 + 1 + 1, 0, none⟩) (by dsimp only; omega) _).setCell (p := ⟨w.heap.size + 1 + 1 + 1, 1, none⟩) (by dsimp only; omega) _
end Go.Proofs.YtlkljeedlkbkgaaGreatDoor.Cl
