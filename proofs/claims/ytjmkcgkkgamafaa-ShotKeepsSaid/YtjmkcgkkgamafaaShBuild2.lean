/-
  PACKAGE shot: a Read and a Publish begin.
-/
import Derived.Test.YtjmkcgkkgamafaaShBuild
namespace Go.Proofs.Ytjmkcgkkgamafaa.Sh
open Go.RowKit Rw Pk Go.Maps Mm
set_option linter.unusedVariables false
section
variable {w w' w1 : World} {S : Si} {A A' : Sa} {n a s p : Nat} {w0 wr : World} {fs fs' zs : List Nat} {P T : List Int} {D D' : List (Int × Int)} {M M' : Mm.St}
theorem i64_0 : I64 0 := ⟨by decide, by decide⟩
theorem acc_wf {l : List (Int × Int)} (h : ∀ x ∈ l, I64 x.1 ∧ I64 x.2) : ∀ x ∈ l, accK.wf x := h
theorem one_acc (w : World) (q x : Int) (T : TypeId) (h : I64 q ∧ I64 x) : Rr accK (w.alloc (.cells #[.int .i64 q, .int .i64 x] T)) (.slice (some ⟨w.heap.size, 0, none⟩) 1 1) [(q, x)] := by
  have hn := heap_alloc_new w (.cells #[.int .i64 q, .int .i64 x] T)
  have hc : ∀ o, (w.alloc (.cells #[.int .i64 q, .int .i64 x] T)).cell? ⟨w.heap.size, o, none⟩ = #[Value.int .i64 q, .int .i64 x][o]? := fun o => cell_of_row _ _ _ _ _ _ hn
  refine rr_of (by decide) rfl (Nat.le_refl _) (by decide) (fun y hy => by simp at hy; subst hy; exact h) (fun i y hy c u hc' hu => ?_)
  cases i with
  | succ k => simp at hy
  | zero =>
    simp at hy
    subst hy
    rw [show ((⟨w.heap.size, 0, none⟩ : Addr).add (0 * accK.k + c)) = ⟨w.heap.size, c, none⟩ by unfold Addr.add; split <;> simp_all]
    rw [hc]
    match c, hc', hu with
    | 0, _, hu => simpa [accK] using hu
    | 1, _, hu => simpa [accK] using hu
    | k + 2, hc', _ => exact absurd hc' (by show ¬ k + 2 < 2; omega)
theorem tryD_wf (hP : ∀ x ∈ P, 0 ≤ x ∧ x ≤ 1000) : ∀ x ∈ tryD P, accK.wf x := by
  intro x hx
  simp only [tryD, List.mem_cons, List.mem_append, List.mem_map, List.not_mem_nil, or_false] at hx
  rcases hx with rfl | ⟨y, hy, rfl⟩ | rfl
  · exact ⟨i64_0, i64_0⟩
  · have := hP y hy
    exact ⟨i64_0, by show I64 (y + 1); exact ⟨by omega, by omega⟩⟩
  · exact ⟨i64_0, i64_0⟩
set_option maxRecDepth 1000000 in
set_option maxHeartbeats 8000000 in
theorem shtry_any (h : SaAt w a A) (hp : Rr intK w A.pv P) (hP : ∀ x ∈ P, 0 ≤ x ∧ x ≤ 1000) (hl : P.length ≤ 100) :
    Calls Try.prog 91 #[.pointer (some ⟨a, 0, none⟩)] w fun e w' => e = .returned (.tuple #[]) ∧ ∃ dv w1, Own accK w1 w.heap.size 164 dv (tryD P) ∧ Below w.heap.size w w1 ∧ w' = w1.setCell ⟨a, 5, none⟩ dv := by
  have hb1 : Below w.heap.size w (w.alloc (.cells #[.int .i64 0, .int .i64 0] 164)) := (Below.refl _ _).alloc (Nat.le_refl _) _
  have HLD := Lib.hid (shloads_any (h.of_block (hb1.block a h.lt)) (hp.below hb1) hP hl)
  have HB1 := Lib.hid hb1
  have H := Lib.hid h
  have HP := Lib.hid hP
  have HL := Lib.hid hl
  have HR1 := Lib.hid (one_acc w 0 0 164 ⟨i64_0, i64_0⟩)
  clear h hp hP hl hb1
  go_enter Try.func91, Try.ntmps91
  go_wp2_with fail
  go_at_call 117
  refine HLD.out.mono ?_
  rintro e w2 ⟨v, rfl, ho, hb2⟩
  obtain ⟨vo, vc, rfl⟩ := ho.form2
  have hmm : (P.map fun x => ((0 : Int), x + 1)).length = P.length := List.length_map ..
  rw [hmm] at ho
  have HO := Lib.hid ho
  have HB2 := Lib.hid (HB1.out.trans (hb2.mono HB1.out.size))
  have HR1' := Lib.hid (HR1.out.below hb2)
  have hs2 := HB2.out.size
  have hl2 := HB1.out.size
  have HLT : Hid (w.heap.size < w2.heap.size) := Lib.hid (Nat.lt_of_lt_of_le (by simp) hb2.size)
  clear ho hb2 HLD
  obtain ⟨L1, hL1⟩ : ∃ L1, L1 = P.map fun x => ((0 : Int), x + 1) := ⟨_, rfl⟩
  rw [← hL1] at HO hmm
  have HL1 := Lib.hid hL1
  clear hL1
  have hb3 : Below w2.heap.size w2 (w2.alloc (.cells #[.int .i64 0, .int .i64 0] 164)) := (Below.refl _ _).alloc (Nat.le_refl _) _
  have HX : Hid (∀ (o : Obj), ((w2.alloc (.cells #[.int .i64 0, .int .i64 0] 164)).alloc o).heap[w2.heap.size + 1]? = some o ∧ Below w2.heap.size w2 ((w2.alloc (.cells #[.int .i64 0, .int .i64 0] 164)).alloc o)) := Lib.hid (fun o => ⟨by
    have := heap_alloc_new (w2.alloc (.cells #[.int .i64 0, .int .i64 0] 164)) o
    simpa using this, hb3.alloc hb3.size _⟩)
  clear hb3
  go_wp2_with fail
  go_at_call 116
  have hwf : ∀ x ∈ tryD P, accK.wf x := tryD_wf HP.out
  have hr3 := (one_acc w2 0 0 164 ⟨i64_0, i64_0⟩)
  refine (concat_any (g := w2.heap.size + 1) (ss := [⟨some ⟨w.heap.size, 0, none⟩, 1, 1⟩, ⟨vo, P.length, vc⟩, ⟨some ⟨w2.heap.size, 0, none⟩, 1, 1⟩]) (P := [[(0, 0)], L1, [(0, 0)]]) ?_ rfl ?_ ?_ (by simp)).mono ?_
  · intro j s hs
    have hh := (HX.out (.cells #[.slice (some ⟨w.heap.size, 0, none⟩) 1 1, .slice vo P.length vc, .slice (some ⟨w2.heap.size, 0, none⟩) 1 1] 157)).1
    refine (cell_of_row _ _ _ _ _ _ hh).trans ?_
    match j, hs with
    | 0, hs => simp at hs; subst hs; rfl
    | 1, hs => simp at hs; subst hs; rfl
    | 2, hs => simp at hs; subst hs; rfl
    | k + 3, hs => simp at hs
  · intro j s l hs hl
    have hh := (HX.out (.cells #[.slice (some ⟨w.heap.size, 0, none⟩) 1 1, .slice vo P.length vc, .slice (some ⟨w2.heap.size, 0, none⟩) 1 1] 157)).2
    match j, hs, hl with
    | 0, hs, hl => simp at hs hl; subst hs hl; exact HR1'.out.below hh
    | 1, hs, hl =>
      simp at hs hl
      subst hs hl
      refine ((Own.sl HO.out (fun x hx => hwf x ?_)).rr).below hh
      rw [HL1.out] at hx
      simp only [tryD, List.mem_cons, List.mem_append]
      exact .inr (.inl hx)
    | 2, hs, hl => simp at hs hl; subst hs hl; exact hr3.below ((Below.refl _ _).alloc (Nat.le_refl _) _)
    | k + 3, hs, _ => simp at hs
  · unfold lens; simp; have := HL.out; omega
  rintro e w3 ⟨dv, rfl, ho3, hb3⟩
  obtain ⟨do', dc, rfl⟩ := ho3.form2
  have hh := (HX.out (.cells #[.slice (some ⟨w.heap.size, 0, none⟩) 1 1, .slice vo P.length vc, .slice (some ⟨w2.heap.size, 0, none⟩) 1 1] 157)).2
  have HBN := Lib.hid ((HB2.out.trans (hh.mono HB2.out.size)).trans (hb3.mono (Nat.le_trans HB2.out.size hh.size)))
  have HON : Hid (Own accK w3 w.heap.size 164 (.slice do' ([[(0, 0)], L1, [(0, 0)]] : List (List (Int × Int))).flatten.length dc) (tryD P)) := Lib.hid (by
    have h1 := ho3.mono (Nat.le_trans HB2.out.size hh.size)
    rw [HL1.out] at h1
    rw [HL1.out]
    simpa [tryD] using h1)
  obtain ⟨k0, k1, k2, k3, k4, k5, k6, k7, k8, kf⟩ := (H.out.of_block (HBN.out.block a H.out.lt)).cells
  generalize ([[(0, 0)], L1, [(0, 0)]] : List (List (Int × Int))).flatten.length = q at *
  clear ho3 hb3 hh hwf hr3 hmm hs2 hl2
  go_wp2_with fail
  first | go_ret | go_end0
  exact ⟨rfl, .slice do' q dc, w3, HON.out, HBN.out, rfl⟩
set_option maxRecDepth 1000000 in
set_option maxHeartbeats 8000000 in
theorem shcontains_any (h : SiAt w s S) {v : Value} {l : List Int} (hv : Rr intK w v l) (hl : ∀ x ∈ l, 0 ≤ x ∧ x < S.np) :
    Calls Try.prog 88 #[v, .func (.func 89) #[.pointer (some ⟨s, 0, none⟩)] #[]] w fun r w' => r = .returned (.bool false) ∧ w = w' := by
  have HI := Lib.hid (shidx_any h hv hl)
  obtain ⟨ao, cap, rfl, _⟩ := hv.form
  clear h hv hl
  go_enter Try.func88, Try.ntmps88
  go_wp2_with fail
  go_at_call 115
  refine HI.out.mono ?_
  rintro e w2 ⟨rfl, rfl⟩
  go_wp2_with fail
  go_ret
  exact ⟨rfl, rfl⟩
set_option maxRecDepth 1000000 in
set_option maxHeartbeats 8000000 in
theorem shread_any (h : Sq n w0 wr fs zs s S M w) {v : Value} (hv : Rr intK w v P) (hP : ∀ x ∈ P, 0 ≤ x ∧ x < S.np) (hn : S.np ≤ 64) (h0 : P ≠ []) (hl : P.length ≤ 64) (who : Int) (hw : 0 ≤ who) :
    Calls Try.prog 51 #[.pointer (some ⟨s, 0, none⟩), .int .i64 who, v] w fun e w' => ∃ a, e = .returned (.pointer (some ⟨a, 0, none⟩)) ∧ w.heap.size ≤ a ∧ ∃ pv dv zs', (∀ g, pv.ownBlock = some g → w.heap.size ≤ g) ∧ (∀ g, dv.ownBlock = some g → w.heap.size ≤ g) ∧
      Sg n w0 wr fs zs' a s S ⟨s, who, false, pv, .slice none 0 0, dv, 0, 0, 0⟩ P [] (tryD P) M w' := by
  have HQ := Lib.hid h
  have HN := Lib.hid (shnone_any h.si)
  have HC := Lib.hid (shcontains_any h.si hv hP)
  have HCL := Lib.hid (cloneI_any hv h0 (by omega))
  have HP : Hid (∀ x ∈ P, 0 ≤ x ∧ x ≤ 1000) := Lib.hid (fun x hx => by have := hP x hx; omega)
  have HL := Lib.hid hl
  have HWF := Lib.hid hv.wf
  obtain ⟨ao, cap, rfl, _⟩ := hv.form
  have h1 : ¬ who < 0 := by omega
  have hpos : 0 < P.length := List.length_pos_iff.2 h0
  have h2 : ¬ (P.length : Int) < 1 := by omega
  have h3 : ¬ (64 : Int) < (P.length : Int) := by omega
  clear h hv hP hn h0 hl hpos hw
  go_enter Try.func51, Try.ntmps51
  go_wp2_with fail
  go_at_call 87
  refine HN.out.mono ?_
  rintro e w2 ⟨rfl, rfl⟩
  go_wp2_with fail
  go_at_call 88
  refine HC.out.mono ?_
  rintro e w2 ⟨rfl, rfl⟩
  go_wp2_with fail
  go_at_call 90
  refine HCL.out.mono ?_
  rintro e w3 ⟨v', rfl, ho, hb⟩
  obtain ⟨po, pc, rfl⟩ := ho.form2
  have HO := Lib.hid ho
  have HB := Lib.hid hb
  clear ho hb
  go_wp2_with fail
  go_at_call 91
  have hn := heap_alloc_new w3 (.cells #[.pointer (some ⟨s, 0, none⟩), .int .i64 who, .bool false, .slice po P.length pc, .slice none 0 0, .slice none 0 0, .int .u64 0, .int .i64 0, .int .i64 0] 159)
  have hA : SaAt (w3.alloc (.cells #[.pointer (some ⟨s, 0, none⟩), .int .i64 who, .bool false, .slice po P.length pc, .slice none 0 0, .slice none 0 0, .int .u64 0, .int .i64 0, .int .i64 0] 159)) w3.heap.size ⟨s, who, false, .slice po P.length pc, .slice none 0 0, .slice none 0 0, 0, 0, 0⟩ := hn
  have hb4 : Below w3.heap.size w3 (w3.alloc (.cells #[.pointer (some ⟨s, 0, none⟩), .int .i64 who, .bool false, .slice po P.length pc, .slice none 0 0, .slice none 0 0, .int .u64 0, .int .i64 0, .int .i64 0] 159)) := (Below.refl _ _).alloc (Nat.le_refl _) _
  have hpr := ((HO.out.sl HWF.out).rr).below hb4
  refine (shtry_any hA hpr HP.out (by have := HL.out; omega)).mono ?_
  rintro e w5 ⟨rfl, dv, w6, hd, hb6, rfl⟩
  have hs3 := HB.out.size
  have hlt3 : w3.heap.size < w6.heap.size := Nat.lt_of_lt_of_le hA.lt hb6.size
  have hB6 : Below w.heap.size w w6 := (HB.out.trans (hb4.mono hs3)).trans (hb6.mono (Nat.le_trans hs3 hb4.size))
  have hpb : ∀ g, (Value.slice po P.length pc).ownBlock = some g → w.heap.size ≤ g ∧ g < w3.heap.size := fun g hg => World.ownsRow.lt HO.out g hg
  have hdb : ∀ g, dv.ownBlock = some g → w3.heap.size + 1 ≤ g ∧ g < w6.heap.size := fun g hg => by
    have := World.ownsRow.lt hd g hg
    simp at this
    exact this
  have hz6 : w6.heap.size ≤ (w6.setCell ⟨w3.heap.size, 5, none⟩ dv).heap.size := Nat.le_of_eq (Mm.size_setCell _ _ _).symm
  obtain ⟨zs', z1, z2, hsg⟩ := HQ.out.act (a := w3.heap.size) (A := ⟨s, who, false, .slice po P.length pc, .slice none 0 0, dv, 0, 0, 0⟩) (P := P) (T := []) (D := tryD P) (hB6.setCell hs3 dv) ((hA.of_block (hb6.block _ hA.lt)).set5 dv) hs3 rfl
    (rr_block (hpr.below hb6) hz6 (fun g hg => Below.heap_setCell _ _ _ _ (show g ≠ w3.heap.size by have := (hpb g hg).2; omega)))
    (rr_block ((hd.sl (tryD_wf HP.out)).rr) hz6 (fun g hg => Below.heap_setCell _ _ _ _ (show g ≠ w3.heap.size by have := (hdb g hg).1; omega)))
    (Own.nil _ _ _) (fun g hg => by have := hpb g hg; rw [Mm.size_setCell]; omega) (fun g hg => by have := hdb g hg; rw [Mm.size_setCell]; omega) (fun g hg => by simp [Value.ownBlock] at hg)
  have HS := Lib.hid hsg
  have HZ := Lib.hid (And.intro hs3 (And.intro (fun g hg => (hpb g hg).1) (fun g (hg : dv.ownBlock = some g) => show w.heap.size ≤ g by have := (hdb g hg).1; omega)))
  clear hn hA hb4 hpr hd hb6 hs3 hlt3 hB6 hpb hdb hz6 z1 z2 hsg
  go_wp2_with fail
  go_ret
  exact ⟨_, rfl, HZ.out.1, _, dv, zs', HZ.out.2.1, HZ.out.2.2, HS.out⟩
/-! ### a Publish begins -/
def pubT (i m : Nat) : List (Int × Int) := (List.range' i m).map fun (j : Nat) => ((1 : Int), (j : Int) + 1)
def pubD (np : Nat) : List (Int × Int) := [(4, 0), (0, 0), (1, 0)] ++ pubT 0 np ++ [(1, 0), (5, 0)]
/-- An act in the making. -/
structure Pb (w wr : World) (a : Nat) (A : Sa) (T : List Int) (D : List (Int × Int)) : Prop where
  sa : SaAt wr a A
  ti : Own u64K wr w.heap.size 53 A.tv T
  tod : Own accK wr w.heap.size 164 A.dv D
  bel : Below w.heap.size w wr
  ha : w.heap.size ≤ a
  nt : A.tv.ownBlock ≠ some a
  nd : A.dv.ownBlock ≠ some a
  nn : ∀ g, A.tv.ownBlock = some g → A.dv.ownBlock ≠ some g
theorem Pb.more (h : Pb w wr a A T D) {o : Obj} {v : Value} {D2 : List (Int × Int)} (hg : (wr.alloc o).grownBy w1 A.dv.ownBlock) (ho : w1.ownsRow w.heap.size 164 2 v (D.length + D2.length) (accK.flat D ++ accK.flat D2)) (hv : v.ownBlock = A.dv.ownBlock ∨ v.ownBlock = some (wr.alloc o).heap.size) :
    Pb w (w1.setCell ⟨a, 5, none⟩ v) a { A with dv := v } T (D ++ D2) := by
  have hs := h.bel.size
  have hal := h.sa.lt
  have hdlt : ∀ k, A.dv.ownBlock = some k → w.heap.size ≤ k ∧ k < wr.heap.size := fun k e => World.ownsRow.lt h.tod k e
  have htlt : ∀ k, A.tv.ownBlock = some k → w.heap.size ≤ k ∧ k < wr.heap.size := fun k e => World.ownsRow.lt h.ti k e
  have hk : ∀ j, j < wr.heap.size → A.dv.ownBlock ≠ some j → w1.heap[j]? = wr.heap[j]? := fun j hj hn => (hg.block j (by simp; omega) (fun e => hn e.symm)).trans (heap_alloc_old wr _ hj)
  have hva : v.ownBlock ≠ some a := fun e => by
    rcases hv with e' | e'
    · exact h.nd (e'.symm.trans e)
    · have := e'.symm.trans e; simp at this; omega
  have hnew : Own accK w1 w.heap.size 164 v (D ++ D2) := by
    unfold Own
    rw [flat_append, List.length_append]
    exact ho
  refine ⟨(h.sa.of_block (hk a hal h.nd)).set5 v, own_block (own_block h.ti (fun g hg => hk g (htlt g hg).2 (h.nn g hg))) (fun g hg => Below.heap_setCell _ _ _ _ (fun (e : g = a) => h.nt (e ▸ hg))), own_block hnew (fun g hg => Below.heap_setCell _ _ _ _ (fun (e : g = a) => hva (e ▸ hg))), ((h.bel.alloc hs _).grown hg (by simp; omega) (fun k e => (hdlt k e).1)).setCell h.ha v, h.ha, h.nt, hva, fun g hg e => ?_⟩
  rcases hv with e' | e'
  · exact h.nn g hg (e'.symm.trans e)
  · have := e'.symm.trans e
    have := (htlt g hg).2
    simp at *
    omega
theorem pubT_succ (i m : Nat) : pubT i (m + 1) = pubT i m ++ [(1, ((i + m : Nat) : Int) + 1)] := by
  unfold pubT
  rw [List.range'_concat]
  simp
theorem pubT_len (i m : Nat) : (pubT i m).length = m := by unfold pubT; simp
theorem pubD_wf {np : Nat} (h : np ≤ 64) : ∀ x ∈ pubD np, accK.wf x := by
  intro x hx
  simp only [pubD, pubT, List.mem_cons, List.mem_append, List.mem_map, List.mem_range'_1, List.not_mem_nil, or_false] at hx
  rcases hx with ((rfl | rfl | rfl) | ⟨j, hj, rfl⟩) | rfl | rfl
  · exact ⟨⟨by decide, by decide⟩, i64_0⟩
  · exact ⟨i64_0, i64_0⟩
  · exact ⟨⟨by decide, by decide⟩, i64_0⟩
  · exact ⟨⟨by show _ ≤ (1 : Int); decide, by show (1 : Int) ≤ _; decide⟩, ⟨by show _ ≤ (j : Int) + 1; omega, by show (j : Int) + 1 ≤ _; omega⟩⟩
  · exact ⟨⟨by decide, by decide⟩, i64_0⟩
  · exact ⟨⟨by decide, by decide⟩, i64_0⟩
set_option maxRecDepth 1000000 in
set_option maxHeartbeats 16000000 in
theorem shpublish_any (h : Sq n w0 wr fs zs s S M w) {np : Nat} (hnp : S.np = np ∧ 1 ≤ np ∧ np ≤ 64) {v : Value} (hv : Rr u64K w v T) (hl : T.length = np) (who : Int) (hw : 0 ≤ who) :
    Calls Try.prog 60 #[.pointer (some ⟨s, 0, none⟩), .int .i64 who, v] w fun e w' => ∃ a, e = .returned (.pointer (some ⟨a, 0, none⟩)) ∧ w.heap.size ≤ a ∧ ∃ tv dv zs', (∀ j ∈ zs, j ∈ zs') ∧ (∀ j ∈ zs', j ∈ zs ∨ w.heap.size ≤ j) ∧
      Sg n w0 wr fs zs' a s S ⟨s, who, true, .slice none 0 0, tv, dv, 0, 0, 0⟩ [] T (pubD np) M w' := by
  obtain ⟨i0, hi, hz0, hz1, hz2⟩ := info_partsP infoA
  have HQ := Lib.hid h
  have HN := Lib.hid (shnone_any h.si)
  have HCL := Lib.hid (cloneU_any hv (by intro e; rw [e] at hl; simp at hl; omega) (by omega))
  have HNP := Lib.hid hnp
  obtain ⟨s0, s1, s2, s3, s4⟩ := h.si.cells
  rw [hnp.1] at s3
  obtain ⟨ao, cap, rfl, _⟩ := hv.form
  have h1 : ¬ who < 0 := by omega
  have h2 : ((T.length : Int) != (np : Int)) = false := by rw [hl]; simp
  have h3 : (T.length : Int) = (np : Int) := by rw [hl]
  have hsl := h.si.lt
  have hnp0 : (np : Int) ≤ 64 := by omega
  clear h hv hnp hw hl
  go_enter Try.func60, Try.ntmps60
  go_wp2_with fail
  go_at_call 87
  refine HN.out.mono ?_
  rintro e w2 ⟨rfl, rfl⟩
  go_wp2_with fail
  go_at_call 92
  refine HCL.out.mono ?_
  rintro e w3 ⟨tv, rfl, ho, hb⟩
  have hto := ho.form2
  have hn := heap_alloc_new w3 (.cells #[.pointer (some ⟨s, 0, none⟩), .int .i64 who, .bool true, .slice none 0 0, tv, .slice none 0 0, .int .u64 0, .int .i64 0, .int .i64 0] 159)
  have HP0 : Hid (Pb w (w3.alloc (.cells #[.pointer (some ⟨s, 0, none⟩), .int .i64 who, .bool true, .slice none 0 0, tv, .slice none 0 0, .int .u64 0, .int .i64 0, .int .i64 0] 159)) w3.heap.size ⟨s, who, true, .slice none 0 0, tv, .slice none 0 0, 0, 0, 0⟩ T []) :=
    Lib.hid ⟨hn, ho.below ((Below.refl _ _).alloc (Nat.le_refl _) _), Own.nil _ _ _, hb.alloc hb.size _, hb.size, fun e => by have := (World.ownsRow.lt ho _ e).2; omega, by simp [Value.ownBlock], fun g _ => by simp [Value.ownBlock]⟩
  obtain ⟨tvo, tvc, rfl⟩ := hto
  have HSI : Hid (∀ (W : World), Below w.heap.size w W → W.cell? ⟨s, 3, none⟩ = some (.int .i64 (np : Int))) := Lib.hid (fun W hW => (hW.cell (p := ⟨s, 3, none⟩) hsl).trans s3)
  clear ho hb hn s0 s1 s2 s4
  go_upto_region 4 with fail
  generalize w3.alloc (.cells #[.pointer (some ⟨s, 0, none⟩), .int .i64 who, .bool true, .slice none 0 0, .slice tvo T.length tvc, .slice none 0 0, .int .u64 0, .int .i64 0, .int .i64 0] 159) = W0 at *
  generalize w3.heap.size = a at *
  obtain ⟨c0, c1, c2, c3, c4, c5, c6, c7, c8, cf⟩ := HP0.out.sa.cells
  go_wp2_with (at_builtin; refine Batch.wpList_append_any _ rfl _ _ 157 157 rfl w.heap.size 164 164 i0 (.agg #[.int .i64 0, .int .i64 0]) 2 16 Try.underlying157 Try.underlying157 hi hz0 hz1 hz2 rfl (by decide) (.slice none 0 0) 0 [] rfl ((show W0.ownsRow w.heap.size 164 2 (.slice none 0 0) 0 [] from HP0.out.tod).alloc _) (some ⟨W0.heap.size, 0, none⟩) 3 3 [.int .i64 4, .int .i64 0, .int .i64 0, .int .i64 0, .int .i64 1, .int .i64 0] rfl rfl ?a1 ?a2 ?a3 ?a4 ?a5 ?_)
  case a1 => exact .inr ⟨_, rfl, World.news_of_block (cs := #[.int .i64 4, .int .i64 0, .int .i64 0, .int .i64 0, .int .i64 1, .int .i64 0]) (heap_alloc_new W0 _)⟩
  case a2 => first | (intro y hy; simp at hy; rcases hy with rfl | rfl | rfl | rfl | rfl | rfl <;> rfl) | exact ⟨rfl, rfl⟩ | exact ⟨rfl, rfl, rfl⟩ | exact ⟨rfl, rfl, rfl, rfl⟩ | exact ⟨rfl, rfl, rfl, rfl, rfl⟩ | exact ⟨rfl, rfl, rfl, rfl, rfl, rfl⟩
  try (case a3 => unfold maxLen; omega)
  try (case a4 => omega)
  try (case a5 => have := HP0.out.bel.size; simp; omega)
  intro v1 wx hox hgx hbx
  have hp1 := HP0.out.more (D2 := [(4, 0), (0, 0), (1, 0)]) hgx hox (hbx.imp id (fun e => e.trans (by simp)))
  obtain ⟨e0, e1, e2, e3, e4, e5, e6, e7, e8, ef⟩ := (show SaAt wx a ⟨s, who, true, .slice none 0 0, .slice tvo T.length tvc, (.slice none 0 0), 0, 0, 0⟩ from HP0.out.sa.of_block ((hgx.block a (by have := HP0.out.sa.lt; simp; omega) (by simp [Value.ownBlock])).trans (heap_alloc_old W0 _ HP0.out.sa.lt))).cells
  obtain ⟨d1, dn1, dc1, rfl⟩ : ∃ ao n c, v1 = .slice ao n c := by
    rcases hox.2 with ⟨hv, _⟩ | ⟨_, _, _, hv, _⟩
    · exact ⟨_, _, _, hv⟩
    · exact ⟨_, _, _, hv⟩
  have HP1 := Lib.hid hp1
  clear hox hgx hbx hp1 c0 c1 c2 c3 c4 c5 c6 c7 c8 cf
  go_upto_region 5 with fail
  generalize wx.setCell ⟨a, 5, none⟩ (.slice d1 dn1 dc1) = W1 at *
  clear e0 e1 e2 e3 e4 e5 e6 e7 e8 ef s3
  have s3 := HSI.out W1 HP1.out.bel
  go_wp2_with fail
  go_loopg [46] (np + 1) (fun k t wr => ∃ (i : Nat) (dv : Value), i + k = np + 1 ∧ i ≤ np ∧ t = .int .i64 (i : Int) ∧ Hid (Pb w wr a ⟨s, who, true, .slice none 0 0, .slice tvo T.length tvc, dv, 0, 0, 0⟩ T ([(4, 0), (0, 0), (1, 0)] ++ pubT 0 i)))
  case atStart => exact ⟨0, _, by omega, by omega, rfl, HP1⟩
  case round =>
    obtain ⟨i, dv, hik, hil, rfl, HP⟩ := hrel
    have HIK := Lib.hid hik
    clear hik
    obtain ⟨dao, dcap, rfl⟩ := HP.out.tod.form2
    obtain ⟨c0, c1, c2, c3, c4, c5, c6, c7, c8, cf⟩ := HP.out.sa.cells
    have hdl : ([((4 : Int), (0 : Int)), (0, 0), (1, 0)] ++ pubT 0 i).length = i + 3 := by simp [pubT_len]
    have hnd : ∀ g, (Value.slice dao ([((4 : Int), (0 : Int)), (0, 0), (1, 0)] ++ pubT 0 i).length dcap).ownBlock = some g → g ≠ a := fun g hg e => HP.out.nd (e ▸ hg)
    have HND := Lib.hid hnd
    have HDL := Lib.hid hdl
    generalize hDi : ([((4 : Int), (0 : Int)), (0, 0), (1, 0)] ++ pubT 0 i) = Di at *
    have HDI := Lib.hid hDi
    clear hDi hdl hnd
    by_cases hlt : i < np
    · have hlt' : (i : Int) < (np : Int) := by omega
      have hi0 : (0 : Int) ≤ (i : Int) := Int.natCast_nonneg _
      have hw : IntKind.i64.wrap ((i : Int) + 1) = (i : Int) + 1 := by rw [IntKind.wrap_i64]; omega
      have HLT := Lib.hid hlt
      clear hlt
      go_wp2_with (at_builtin; refine Batch.wpList_append_any _ rfl _ _ 157 157 rfl w.heap.size 164 164 i0 (.agg #[.int .i64 0, .int .i64 0]) 2 16 Try.underlying157 Try.underlying157 hi hz0 hz1 hz2 rfl (by decide) (.slice dao Di.length dcap) Di.length (accK.flat Di) rfl ((show wr.ownsRow w.heap.size 164 2 (.slice dao Di.length dcap) Di.length (accK.flat Di) from HP.out.tod).alloc _) (some ⟨wr.heap.size, 0, none⟩) 1 1 [.int .i64 1, .int .i64 ((i : Int) + 1)] rfl rfl ?b1 ?b2 ?b3 ?b4 ?b5 ?_)
      case b1 => exact .inr ⟨_, rfl, World.news_of_block (cs := #[.int .i64 1, .int .i64 ((i : Int) + 1)]) (heap_alloc_new wr _)⟩
      case b2 => first | (intro y hy; simp at hy; rcases hy with rfl | rfl <;> rfl) | exact ⟨rfl, rfl⟩ | exact ⟨rfl, rfl, rfl⟩ | exact ⟨rfl, rfl, rfl, rfl⟩ | exact ⟨rfl, rfl, rfl, rfl, rfl⟩ | exact ⟨rfl, rfl, rfl, rfl, rfl, rfl⟩
      try (case b3 => have := HDL.out; have := HLT.out; unfold maxLen; omega)
      try (case b4 => have := HDL.out; have := HLT.out; omega)
      try (case b5 => have := HP.out.bel.size; simp; omega)
      intro v1 wx hox hgx hbx
      have hp1 := HP.out.more (D2 := [(1, (i : Int) + 1)]) hgx hox (hbx.imp id (fun e => e.trans (by simp)))
      obtain ⟨e0, e1, e2, e3, e4, e5, e6, e7, e8, ef⟩ := (show SaAt wx a ⟨s, who, true, .slice none 0 0, .slice tvo T.length tvc, (.slice dao Di.length dcap), 0, 0, 0⟩ from HP.out.sa.of_block ((hgx.block a (by have := HP.out.sa.lt; simp; omega) (fun e => HND.out a e.symm rfl)).trans (heap_alloc_old wr _ HP.out.sa.lt))).cells
      obtain ⟨d1, dn1, dc1, rfl⟩ : ∃ ao n c, v1 = .slice ao n c := by
        rcases hox.2 with ⟨hv, _⟩ | ⟨_, _, _, hv, _⟩
        · exact ⟨_, _, _, hv⟩
        · exact ⟨_, _, _, hv⟩
      have HP2 : Hid (Pb w (wx.setCell ⟨a, 5, none⟩ (.slice d1 dn1 dc1)) a ⟨s, who, true, .slice none 0 0, .slice tvo T.length tvc, (.slice d1 dn1 dc1), 0, 0, 0⟩ T ([(4, 0), (0, 0), (1, 0)] ++ pubT 0 (i + 1))) := Lib.hid (by
        rw [pubT_succ, ← List.append_assoc, HDI.out, Nat.zero_add]
        exact hp1)
      clear hox hgx hbx hp1 c0 c1 c2 c3 c4 c5 c6 c7 c8 cf
      go_wp2_with fail
      go_roundg (gk - 1)
      case measure => have := HIK.out; have := HLT.out; omega
      case rel => exact ⟨i + 1, _, by have := HIK.out; have := HLT.out; omega, by have := HLT.out; omega, by simp, HP2⟩
    · have hie : i = np := by omega
      subst hie
      have hlt' : ¬ ((i : Int) < (i : Int)) := by omega
      clear hlt
      go_wp2_with (at_builtin; refine Batch.wpList_append_any _ rfl _ _ 157 157 rfl w.heap.size 164 164 i0 (.agg #[.int .i64 0, .int .i64 0]) 2 16 Try.underlying157 Try.underlying157 hi hz0 hz1 hz2 rfl (by decide) (.slice dao Di.length dcap) Di.length (accK.flat Di) rfl ((show wr.ownsRow w.heap.size 164 2 (.slice dao Di.length dcap) Di.length (accK.flat Di) from HP.out.tod).alloc _) (some ⟨wr.heap.size, 0, none⟩) 2 2 [.int .i64 1, .int .i64 0, .int .i64 5, .int .i64 0] rfl rfl ?d1 ?d2 ?d3 ?d4 ?d5 ?_)
      case d1 => exact .inr ⟨_, rfl, World.news_of_block (cs := #[.int .i64 1, .int .i64 0, .int .i64 5, .int .i64 0]) (heap_alloc_new wr _)⟩
      case d2 => first | (intro y hy; simp at hy; rcases hy with rfl | rfl | rfl | rfl <;> rfl) | exact ⟨rfl, rfl⟩ | exact ⟨rfl, rfl, rfl⟩ | exact ⟨rfl, rfl, rfl, rfl⟩ | exact ⟨rfl, rfl, rfl, rfl, rfl⟩ | exact ⟨rfl, rfl, rfl, rfl, rfl, rfl⟩
      try (case d3 => have := HDL.out; have := HNP.out; unfold maxLen; omega)
      try (case d4 => have := HDL.out; have := HNP.out; omega)
      try (case d5 => have := HP.out.bel.size; simp; omega)
      intro v1 wx hox hgx hbx
      have hp1 := HP.out.more (D2 := [(1, 0), (5, 0)]) hgx hox (hbx.imp id (fun e => e.trans (by simp)))
      obtain ⟨e0, e1, e2, e3, e4, e5, e6, e7, e8, ef⟩ := (show SaAt wx a ⟨s, who, true, .slice none 0 0, .slice tvo T.length tvc, (.slice dao Di.length dcap), 0, 0, 0⟩ from HP.out.sa.of_block ((hgx.block a (by have := HP.out.sa.lt; simp; omega) (fun e => HND.out a e.symm rfl)).trans (heap_alloc_old wr _ HP.out.sa.lt))).cells
      obtain ⟨d1, dn1, dc1, rfl⟩ : ∃ ao n c, v1 = .slice ao n c := by
        rcases hox.2 with ⟨hv, _⟩ | ⟨_, _, _, hv, _⟩
        · exact ⟨_, _, _, hv⟩
        · exact ⟨_, _, _, hv⟩
      have hp2 : Pb w (wx.setCell ⟨a, 5, none⟩ (.slice d1 dn1 dc1)) a ⟨s, who, true, .slice none 0 0, .slice tvo T.length tvc, (.slice d1 dn1 dc1), 0, 0, 0⟩ T (pubD i) := by
        have e : pubD i = Di ++ [(1, 0), (5, 0)] := by rw [← HDI.out]; rfl
        rw [e]
        exact hp1
      have hbel := hp2.bel
      obtain ⟨zs', z1, z2, hsg⟩ := HQ.out.act (P := []) (T := T) (D := pubD i) hp2.bel hp2.sa hp2.ha rfl (⟨none, 0, rfl, .inl rfl, Nat.le_refl _, by decide, by simp⟩) ((hp2.tod.sl (pubD_wf HNP.out.2.2)).rr) (own_to0 hp2.ti) (fun g hg => by simp [Value.ownBlock] at hg)
        (fun g hg => ⟨(World.ownsRow.lt hp2.tod g hg).1, (World.ownsRow.lt hp2.tod g hg).2, fun e => hp2.nd (e ▸ hg)⟩) (fun g hg => ⟨(World.ownsRow.lt hp2.ti g hg).1, (World.ownsRow.lt hp2.ti g hg).2, fun e => hp2.nt (e ▸ hg), by simp [Value.ownBlock], hp2.nn g hg⟩)
      have HS := Lib.hid hsg
      have HZ := Lib.hid (And.intro hp2.ha (And.intro z1 z2))
      clear hox hgx hbx hp1 hp2 hbel hsg z1 z2 c0 c1 c2 c3 c4 c5 c6 c7 c8 cf
      go_wp2_with fail
      go_ret
      exact ⟨_, rfl, HZ.out.1, _, _, zs', HZ.out.2.1, HZ.out.2.2, HS.out⟩
end
end Go.Proofs.Ytjmkcgkkgamafaa.Sh
