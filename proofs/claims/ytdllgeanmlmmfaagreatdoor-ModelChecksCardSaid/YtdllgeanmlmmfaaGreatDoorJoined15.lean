/-
  PACKAGES graph, marchlandref05: Paths; marchlandlaw05: Rows.
  PACKAGE model: FOR New: what it makes, in whatever order.
-/
import Derived.Test.YtdllgeanmlmmfaaGreatDoorGRef
import Derived.Test.YtdllgeanmlmmfaaGreatDoorJoined13
import Derived.Laws.MakeOwn
import Derived.Laws.OwnMore
namespace Go.Proofs.YtdllgeanmlmmfaaGreatDoor.Gr
open Go.RowKit Fault
set_option linter.unusedVariables false

def zd (M : Nat → Nat → Int) (k : Nat) : Nat → Nat → Int := fun i j => if i = j ∧ i < k then 0 else M i j
theorem zd_step (M : Nat → Nat → Int) (k : Nat) (i j : Nat) : upd (zd M k) k k 0 i j = zd M (k + 1) i j := by
  unfold upd zd
  by_cases e : i = k ∧ j = k
  · obtain ⟨rfl, rfl⟩ := e
    rw [if_pos ⟨rfl, rfl⟩, if_pos ⟨rfl, Nat.lt_succ_self _⟩]
  · rw [if_neg e]
    by_cases e2 : i = j ∧ i < k
    · rw [if_pos e2, if_pos ⟨e2.1, by omega⟩]
    · rw [if_neg e2, if_neg (fun h => e2 ⟨h.1, by omega⟩)]
theorem zd_least {E : List Ed} {n : Nat} {M : Nat → Nat → Int} (hE : Fits E n) (h : LeastM E false n M) : LeastM E true n (zd M n) := by
  intro i j hi hj
  unfold zd
  by_cases e : i = j
  · subst e
    rw [if_pos ⟨rfl, hi⟩]
    exact least_here hE i
  · rw [if_neg (fun h => e h.1)]
    exact least_far (by omega) (h i j hi hj)
theorem inputsV_E {n : Int} {I : List Int} : (chkI n I).2 = 0 → ¬ (I.length = 0 ∨ 8 < I.length) := fun h h' => by rw [chkI_many h'] at h; exact absurd h (show (4 : Int) ≠ 0 by decide)
/-- A graph that may be. -/
structure GOk (n : Nat) (E : List Ed) (I : List Int) : Prop where
  n0 : 1 ≤ n
  n1 : n ≤ 64
  len : E.length ≤ 256
  fits : Fits E n
  chk : chkV (n : Int) E I = ([], 0)
theorem gok_of {n : Int} {E : List Ed} {I : List Int} (hw : ∀ x ∈ E, x.Wf) (h : (chkV n E I).2 = 0) : ∃ m : Nat, n = m ∧ GOk m E I := by
  have h' := h
  unfold chkV at h
  split at h
  · exact absurd h (show (2 : Int) ≠ 0 by decide)
  · rename_i h1
    split at h
    · exact absurd h (show (4 : Int) ≠ 0 by decide)
    · rename_i h2
      split at h
      · rename_i h3; exact absurd h h3
      · rename_i h3
        split at h
        · exact absurd h (show (4 : Int) ≠ 0 by decide)
        · rename_i h4
          split at h
          · rename_i h5; exact absurd h h5
          · rename_i h5
            have hn : n = ((n.toNat : Nat) : Int) := by omega
            refine ⟨n.toNat, hn, by omega, by omega, by omega, fits_of hw (by rw [← hn]; exact Decidable.not_not.1 h3), ?_⟩
            rw [← hn]
            unfold chkV
            rw [if_neg h1, if_neg h2, if_neg h3, if_neg h4, if_neg h5]
            cases ho : cycO E n.toNat with
            | none => rfl
            | some p => rw [ho] at h; exact absurd h (show (3 : Int) ≠ 0 by decide)

set_option maxRecDepth 1000000 in
set_option maxHeartbeats 8000000 in
theorem paths_any {w : World} {ve vi : Value} {E : List Ed} {I : List Int} {n : Nat} (hv : Rd w ve E) (hi : RdI w vi I) (hg : GOk n E I) :
    Calls Tryz.prog 28 #[.agg #[.int .i64 (n : Int), ve, vi]] w fun e w' => ∃ (v : Value) (M : Nat → Nat → Int), e = .returned v ∧ Mat w' w.heap.size v n M ∧ LeastM E true n M ∧ Below w.heap.size w w' := by
  obtain ⟨w1, hw1⟩ : ∃ w1, w1 = w.alloc (.cells #[.int .i64 (n : Int), ve, vi] 33) := ⟨_, rfl⟩
  have hsz : w1.heap.size = w.heap.size + 1 := by rw [hw1]; simp
  have hb0 : Below w.heap.size w w1 := by rw [hw1]; exact (Below.refl _ _).alloc (Nat.le_refl _) _
  have b0 : w1.cell? ⟨w.heap.size, 0, none⟩ = some (.int .i64 (n : Int)) := by rw [hw1]; simp
  have b1 : w1.cell? ⟨w.heap.size, 1, none⟩ = some ve := by rw [hw1]; simp
  have b2 : w1.cell? ⟨w.heap.size, 2, none⟩ = some vi := by rw [hw1]; simp
  have HBX := Lib.hid (show ∀ wr, Below w1.heap.size w1 wr → wr.cell? ⟨w.heap.size, 0, none⟩ = some (.int .i64 (n : Int)) ∧ wr.cell? ⟨w.heap.size, 1, none⟩ = some ve ∧ wr.cell? ⟨w.heap.size, 2, none⟩ = some vi from fun wr h => ⟨(h.cell (p := ⟨w.heap.size, 0, none⟩) (by rw [hsz]; exact Nat.lt_succ_self _)).trans b0, (h.cell (p := ⟨w.heap.size, 1, none⟩) (by rw [hsz]; exact Nat.lt_succ_self _)).trans b1, (h.cell (p := ⟨w.heap.size, 2, none⟩) (by rw [hsz]; exact Nat.lt_succ_self _)).trans b2⟩)
  have HV := Lib.hid (hv.below hb0)
  have HI := Lib.hid (hi.below hb0)
  have HB0 := Lib.hid hb0
  have HSZ := Lib.hid hsz
  have HW1 := Lib.hid hw1
  have HG := Lib.hid hg
  have HCK := Lib.hid (check_any (n : Int) HV.out HI.out)
  have hnb : n ≤ 9223372036854775807 := by have := hg.n1; omega
  have hni : (n : Int) ≤ 64 := by have := hg.n1; omega
  obtain ⟨ao, cap, rfl, _⟩ := hv
  obtain ⟨aoi, capi, rfl, _⟩ := hi
  rw [HW1.out] at HCK
  clear b0 b1 b2 hsz hb0 hw1 hg
  go_enter Tryz.func28, Tryz.ntmps28
  go_wp2_with fail
  go_at_call 22
  refine HCK.out.mono ?_
  rw [← HW1.out, HG.out.chk]
  rintro e w2 ⟨v1, rfl, her, hb2⟩
  obtain ⟨b0, b1, b2⟩ := HBX.out w2 hb2
  obtain rfl : v1 = .nilIface := by
    rcases her with ⟨_, _, h⟩ | ⟨h, _⟩
    · exact h
    · exact absurd rfl h
  have HB2 := Lib.hid (HB0.out.trans (hb2.mono HB0.out.size))
  have HWY := Lib.hid (ways_any (vi := .slice aoi I.length capi) (HV.out.below hb2) HG.out.fits HG.out.n0 HG.out.n1 (by have := HG.out.len; omega))
  have hs2 := hb2.size
  have HS2 := Lib.hid hs2
  clear her hb2 hs2
  go_wp2_with fail
  go_at_call 61
  refine HWY.out.mono ?_
  rintro e w3 ⟨v, M, rfl, ⟨g, r, rfl, hmat⟩, hL, hb3⟩
  have HMAT := Lib.hid hmat
  have HL := Lib.hid hL
  have hbb : Below w.heap.size w w3 := HB2.out.trans (hb3.mono HB2.out.size)
  have HB3 := Lib.hid hbb
  clear hmat hL hb3 hbb b0 b1 b2
  go_wp2_with fail
  go_loopg [12] n (fun m t wr => ∃ k : Nat, k + m = n ∧ t = .int .i64 (k : Int) ∧ MatF wr w2.heap.size g r n (zd M k) ∧ Below w.heap.size w wr)
  case atStart => exact ⟨0, by omega, rfl, HMAT.out.eq (fun i j _ _ => by unfold zd; rw [if_neg (fun h => by omega)]), HB3.out⟩
  case round =>
    obtain ⟨k, hkm, rfl, hmat, hbw⟩ := hrel
    have HKM := Lib.hid hkm
    have HM := Lib.hid hmat
    have HBW := Lib.hid hbw
    clear hkm hmat hbw
    by_cases hk : k < n
    · have hk0 : (0 : Int) ≤ (k : Int) := Int.natCast_nonneg _
      have hk1 : (k : Int) < (n : Int) := by omega
      have g0 := HM.out.top.cell hk
      have r0 := (HM.out.row k hk).cell hk
      have rf := (HM.out.row k hk).frozen k
      have hgb : w.heap.size ≤ r k := by have h1 := HM.out.los k hk; have h2 := HB2.out.size; omega
      have HN := Lib.hid ((HM.out.set hk hk 0).eq (fun i j _ _ => zd_step M k i j))
      have HB4 := Lib.hid (HBW.out.setCell (p := ⟨r k, k, none⟩) hgb (.int .u64 0))
      have HK := Lib.hid hk
      clear hk
      go_wp2_with fail
      go_roundg (gk - 1)
      case measure => have := HKM.out; have := HK.out; omega
      case rel => exact ⟨k + 1, by have := HKM.out; have := HK.out; omega, by go_num, HN.out, HB4.out⟩
    · obtain rfl : n = k := by have := HKM.out; omega
      have HN := Lib.hid (zd_least HG.out.fits HL.out)
      go_wp2_with fail
      go_ret
      exact ⟨_, zd M n, rfl, ⟨g, r, rfl, HM.out.base HB2.out.size⟩, HN.out, HBW.out⟩

/-- of a graph that may not be: nothing. -/
theorem paths_none {w : World} {ve vi : Value} {E : List Ed} {I : List Int} (n : Int) (hv : Rd w ve E) (hi : RdI w vi I) (hg : (chkV n E I).2 ≠ 0) :
    Calls Tryz.prog 28 #[.agg #[.int .i64 n, ve, vi]] w fun e w' => e = .returned (.slice none 0 0) ∧ Below w.heap.size w w' := by
  have hb0 : Below w.heap.size w (w.alloc (.cells #[.int .i64 n, ve, vi] 33)) := (Below.refl _ _).alloc (Nat.le_refl _) _
  have HCK := Lib.hid (check_any n (hv.below hb0) (hi.below hb0))
  have HB0 := Lib.hid hb0
  have HG := Lib.hid hg
  obtain ⟨ao, cap, rfl, _⟩ := hv
  obtain ⟨aoi, capi, rfl, _⟩ := hi
  clear hb0 hg
  go_enter Tryz.func28, Tryz.ntmps28
  go_wp2_with fail
  go_at_call 22
  refine HCK.out.mono ?_
  rintro e w2 ⟨v1, rfl, her, hb2⟩
  obtain ⟨u, x, rfl⟩ : ∃ u x, v1 = .iface u x := by
    rcases her with ⟨h, _⟩ | ⟨_, _, h⟩
    · exact absurd h HG.out
    · exact h
  have HB2 := Lib.hid (HB0.out.trans (hb2.mono HB0.out.size))
  clear her hb2
  go_wp2_with fail
  go_ret
  exact ⟨rfl, HB2.out⟩

/-! the same rows? -/
end Go.Proofs.YtdllgeanmlmmfaaGreatDoor.Gr
namespace Go.Proofs.YtdllgeanmlmmfaaGreatDoor.Md
open Go.RowKit Gr Cl
set_option linter.unusedVariables false
set_option linter.unusedSimpArgs false

theorem made_flatM {α : Type} {S : Rw.Kd α} (x : α) (cs : Array Value) (hcs : cs.toList = S.cells x) (hk : 0 < S.k) (n : Nat) : (madeCells cs (n * S.k)).toList = S.flat (List.replicate n x) := by
  have hsz : cs.size = S.k := by rw [← S.len x, ← hcs]; simp
  apply List.ext_getElem?
  intro j
  by_cases hj : j < n * S.k
  · have hi : j / S.k < n := (Nat.div_lt_iff_lt_mul hk).2 hj
    have hc := Nat.mod_lt j hk
    have hjj : j / S.k * S.k + j % S.k = j := by rw [Nat.mul_comm]; exact Nat.div_add_mod j S.k
    have h1 := Rw.flat_at (S := S) (l := List.replicate n x) (i := j / S.k) (x := x) (by rw [List.getElem?_replicate, if_pos hi]) (j % S.k) hc
    rw [hjj] at h1
    rw [h1, ← hcs]
    unfold madeCells
    have hc' : j % S.k < cs.size := by rw [hsz]; exact hc
    simp [hj, hsz, Array.getElem?_eq_getElem hc']
    exact getElem!_pos cs _ hc'
  · rw [List.getElem?_eq_none (by simp [size_madeCells]; omega), List.getElem?_eq_none (by rw [Rw.flat_length, List.length_replicate]; omega)]
theorem mk_eqM {α : Type} {S : Rw.Kd α} (hk : 0 < S.k) (t e : TypeId) (z : Value) (x : α) (bytes : Nat) (ht : Tryz.prog.underlying t = some (.slice e)) (hinfo : (Tryz.prog.info? e).map (fun i => (i.zero, i.size, i.bytes)) = some (some z, S.k, bytes)) (hz : z.cells.toList = S.cells x)
    (n : Nat) (hb : bytes * n ≤ 281474976710656) (hn : n ≤ 9223372036854775807) :
    ∃ o : Obj, (∀ w : World, (Instr.makeSlice t (.int .i64 (n : Int)) (.int .i64 (n : Int))).run Tryz.prog w = .ok (.slice (some ⟨w.heap.size, 0, none⟩) n n) (w.alloc o)) ∧ (∀ (w' : World) (g : Nat), w'.heap[g]? = some o → Rw.Own S w' 0 e (.slice (some ⟨g, 0, none⟩) n n) (List.replicate n x)) := by
  obtain ⟨i, hi, hz0, hz1, hz2⟩ := Gr.info_parts hinfo
  have hm := made_flatM x z.cells hz hk n
  refine ⟨.cells (madeCells z.cells (n * S.k)) e (0, 0), fun w => ?_, fun w' g hg => ?_⟩
  · have hb' : (i.bytes : Int) * (n : Int) ≤ 281474976710656 := by
      have h : ((bytes * n : Nat) : Int) ≤ 281474976710656 := by omega
      rw [hz2]
      rwa [Int.natCast_mul] at h
    have := run_make (P := Tryz.prog) w t e i z ht hi hz0 .i64 .i64 n n (by omega) (Int.le_refl _) hb' (by omega)
    simp only [Int.toNat_natCast, hz1] at this
    exact this
  · unfold Rw.Own
    rw [List.length_replicate]
    refine ⟨by rw [Rw.flat_length, List.length_replicate], .inr ⟨g, n, _, rfl, Nat.zero_le _, hg, Nat.le_refl _, by unfold maxLen; omega, size_madeCells _ _, ?_⟩⟩
    rw [← hm]
    exact List.take_of_length_le (by simp [size_madeCells])
def tv0 : Tv := ⟨sx0, sx0, sx0, sx0⟩
def uKM : Rw.Kd Int where
  k := 1
  cells x := [.int .u64 x]
  wf _ := True
  len _ := rfl
  one x u hu := by simp at hu; rcases hu with rfl; rfl
theorem infoTh : (Tryz.prog.info? 95).map (fun i => (i.zero, i.size, i.bytes)) = some (some (.agg #[.slice none 0 0, .slice none 0 0, .slice none 0 0, .slice none 0 0]), 4, 96) := by kernel_rfl
theorem mk_th (n : Nat) (hn : n ≤ 8) : ∃ o : Obj, (∀ w : World, (Instr.makeSlice 82 (.int .i64 (n : Int)) (.int .i64 (n : Int))).run Tryz.prog w = .ok (.slice (some ⟨w.heap.size, 0, none⟩) n n) (w.alloc o)) ∧ (∀ (w' : World) (g : Nat), w'.heap[g]? = some o → Rw.Own thK w' 0 95 (.slice (some ⟨g, 0, none⟩) n n) (List.replicate n tv0)) :=
  mk_eqM (S := thK) (by decide) _ _ _ tv0 96 Tryz.underlying82 infoTh rfl n (by omega) (by omega)
theorem mk_sh (n : Nat) (hn : n ≤ 64) : ∃ o : Obj, (∀ w : World, (Instr.makeSlice 46 (.int .i64 (n : Int)) (.int .i64 (n : Int))).run Tryz.prog w = .ok (.slice (some ⟨w.heap.size, 0, none⟩) n n) (w.alloc o)) ∧ (∀ (w' : World) (g : Nat), w'.heap[g]? = some o → Rw.Own uKM w' 0 50 (.slice (some ⟨g, 0, none⟩) n n) (List.replicate n 0)) :=
  mk_eqM (S := uKM) (by decide) _ _ _ 0 8 Tryz.underlying46 infoU rfl n (by omega) (by omega)
/-- What hangs on the blocks from lo to hi alone. -/
def Rng (w : World) (lo hi : Nat) (F : World → Prop) : Prop := hi ≤ w.heap.size ∧ ∀ w' : World, (∀ k, lo ≤ k → k < hi → w'.heap[k]? = w.heap[k]?) → F w'
section
variable {w w' : World} {lo hi : Nat} {F : World → Prop} {τ : Nat → Nat}
theorem Rng.below (h : Rng w lo hi F) (hb : Below w.heap.size w w') : Rng w' lo hi F := ⟨Nat.le_trans h.1 hb.size, fun w'' hk => h.2 w'' fun k h1 h2 => (hk k h1 h2).trans (hb.block k (Nat.lt_of_lt_of_le h2 h.1))⟩
theorem Rng.pers (h : Rng w lo hi F) (ht : ∀ k, lo ≤ k → k < hi → τ k = 3) : Pers τ w F := fun w' hs hk => h.2 w' fun k h1 h2 => hk k (Nat.lt_of_lt_of_le h2 h.1) (ht k h1 h2)
theorem Rng.mat {v : Value} {n : Nat} {M : Nat → Nat → Int} (h : Mat w lo v n M) : Rng w lo w.heap.size (fun w => Mat w 0 v n M) := ⟨Nat.le_refl _, fun w' hk => by
  obtain ⟨g, r, e, h⟩ := h
  exact ⟨g, r, e, h.top.of_block (hk _ h.lo h.top.lt), fun i hi => (h.row i hi).of_block (hk _ (h.los i hi) (h.row i hi).lt), h.inj, h.far, Nat.zero_le _, fun _ _ => Nat.zero_le _⟩⟩
theorem Rng.own {T : TypeId} {size n : Nat} {v : Value} {xs : List Value} (h : w.ownsRow lo T size v n xs) : Rng w lo w.heap.size (fun w => w.ownsRow lo T size v n xs) := ⟨Nat.le_refl _, fun w' hk => own_blk h fun g hg => hk g (own_has h hg).1 (own_has h hg).2⟩
end
/-- What comeIn leaves. -/
structure NwK (τ : Nat → Nat) (w : World) (c : Mc) (p : Nat) (M : Nat → Nat → Int) (R : Int) : Prop where
  mat : Pers τ w (fun w => Mat w 0 c.vp p M)
  sh : Pers τ w (fun w => ShR w c.sh p (fun _ => 0))
  pp : c.p = p
  rm : c.room = R
  pool : c.pool = .slice none 0 0
  staged : c.staged = .slice none 0 0
  folded : c.folded = .slice none 0 0
  cl : c.cl = false
theorem NwK.step {τ τ' : Nat → Nat} {w w' : World} {c : Mc} {p : Nat} {M : Nat → Nat → Int} {R : Int} (h : NwK τ w c p M R) (s : StepM τ τ' w w') (vt : Value) : NwK τ' w' { c with vt := vt } p M R :=
  ⟨h.mat.size s, h.sh.size s, h.pp, h.rm, h.pool, h.staged, h.folded, h.cl⟩
def NewQ (w wc : World) (b : Nat) (p T : Nat) (R : Int) (E : List Ed) (I : List Int) : Prop :=
  ∃ τ c M, NwAt τ wc b c (List.replicate T tv0) I T 0 ∧ ((∀ k, k < w.heap.size → τ k = 0) ∧ τ w.heap.size = 3) ∧ NwK τ wc c p M R ∧ LeastM E true p M ∧ Below w.heap.size w wc
def newC (vp vt : Value) (R : Int) (gT gS p T : Nat) : Array Value := #[vp, .int .i64 R, vt, .slice (some ⟨gT, 0, none⟩) T T, .slice none 0 0, .slice none 0 0, .slice none 0 0, .slice (some ⟨gS, 0, none⟩) p p, .bool false]
theorem nw_make {w W wc : World} {vp vt : Value} {R : Int} {gT gS p T lP hP lT hT : Nat} {E : List Ed} {I : List Int} {M : Nat → Nat → Int} {oT oS : Obj} (hb : Below w.heap.size w W)
    (fP : Rng W lP hP (fun w => Mat w 0 vp p M)) (fT : Rng W lT hT (fun w => Rw.Own Tb.slK w lT 173 vt Tb.freshL)) (hl : LeastM E true p M) (aT : W.heap[gT]? = some oT) (aS : W.heap[gS]? = some oS)
    (kT : ∀ (w' : World) (g : Nat), w'.heap[g]? = some oT → Rw.Own thK w' 0 95 (.slice (some ⟨g, 0, none⟩) T T) (List.replicate T tv0)) (kS : ∀ (w' : World) (g : Nat), w'.heap[g]? = some oS → Rw.Own uKM w' 0 50 (.slice (some ⟨g, 0, none⟩) p p) (List.replicate p 0))
    (b1 : w.heap.size ≤ lP) (b2 : w.heap.size ≤ lT) (b3 : w.heap.size < gT) (b4 : w.heap.size ≤ gS) (d1 : gT < lP ∨ hP ≤ gT) (d2 : gT < lT ∨ hT ≤ gT) (d3 : gS ≠ gT) (hwc : wc = W.alloc (.cells (newC vp vt R gT gS p T) 84)) : NewQ w wc W.heap.size p T R E I := by
  have hgT : gT < W.heap.size := (Array.getElem?_eq_some_iff.1 aT).1
  have hgS : gS < W.heap.size := (Array.getElem?_eq_some_iff.1 aS).1
  have hsz : wc.heap.size = W.heap.size + 1 := by rw [hwc]; simp
  have hbW : Below W.heap.size W wc := by rw [hwc]; exact (Below.refl _ _).alloc (Nat.le_refl _) _
  have hn := hb.size
  obtain ⟨τ, hτ⟩ : ∃ τ : Nat → Nat, τ = fun k => if k = W.heap.size then 1 else if k = gT then 2 else if k < w.heap.size then 0 else if k < W.heap.size then 3 else 0 := ⟨_, rfl⟩
  have t3 : ∀ k, w.heap.size ≤ k → k < W.heap.size → k ≠ gT → τ k = 3 := fun k h1 h2 h3 => by rw [hτ]; dsimp only; rw [if_neg (by omega), if_neg h3, if_neg (by omega), if_pos h2]
  have hfr := Rng.pers (τ := τ) (fT.below hbW) (fun k h1 h2 => t3 k (by omega) (Nat.lt_of_lt_of_le h2 fT.1) (by omega))
  refine ⟨τ, ⟨vp, R, vt, some ⟨gT, 0, none⟩, T, T, .slice none 0 0, .slice none 0 0, .slice none 0 0, some ⟨gS, 0, none⟩, p, p, false⟩, M, ⟨?_, by rw [hτ]; exact if_pos rfl, fun k hk => ?_, kT wc gT ((hbW.block _ hgT).trans aT), fun g hg => ?_, by simp, by simp, ?_, fun j t ht => ?_⟩, ⟨fun k hk => ?_, t3 _ (Nat.le_refl _) (Nat.lt_trans b3 hgT) (by omega)⟩, ⟨?_, ?_, rfl, rfl, rfl, rfl, rfl, rfl⟩, hl, hb.trans (hbW.mono hn)⟩
  · unfold McAt
    rw [hwc]
    exact heap_alloc_new W _
  · rw [hsz]
    rw [hτ] at hk
    dsimp only at hk
    by_cases h1 : k = W.heap.size
    · omega
    · rw [if_neg h1] at hk
      by_cases h2 : k = gT
      · omega
      · rw [if_neg h2] at hk
        by_cases h3 : k < w.heap.size
        · omega
        · rw [if_neg h3] at hk
          by_cases h4 : k < W.heap.size
          · omega
          · rw [if_neg h4] at hk; exact absurd rfl hk
  · obtain rfl := Option.some.inj hg
    rw [hτ]
    dsimp only
    rw [if_neg (by omega), if_pos rfl]
  · exact hfr.imp fun W hW => Rw.Own.sl hW (tabN_wf 0)
  · obtain rfl : t = tv0 := List.eq_of_mem_replicate (List.mem_of_getElem? ht)
    exact ⟨Own.nil _ _ _, fun g hg => by simp [tv0, sx0, Sx.val, Value.ownBlock] at hg, rfl, rfl, rfl⟩
  · rw [hτ]
    dsimp only
    rw [if_neg (by omega), if_neg (by omega), if_pos hk]
  · exact Rng.pers (fP.below hbW) (fun k h1 h2 => t3 k (by omega) (Nat.lt_of_lt_of_le h2 fP.1) (by omega))
  · have ho := kS wc gS ((hbW.block _ hgS).trans aS)
    refine (Pers.own ho (fun g hg => ?_)).imp fun W' hW' => ⟨gS, 0, rfl, fun j hj => ?_⟩
    · simp [Value.ownBlock] at hg
      subst hg
      exact t3 _ b4 hgS d3
    · have := Rw.Own.at (S := uKM) (l := List.replicate p 0) hW' (i := j) (x := 0) (by rw [List.getElem?_replicate, if_pos hj]) 0 (.int .u64 0) (by decide) rfl
      rw [Nat.zero_add]
      simpa [uKM] using this
theorem rdi_at {w : World} {ao : Option Addr} {n cap : Nat} {l : List Int} (h : RdI w (.slice ao n cap) l) {i : Nat} {x : Int} (hx : l[i]? = some x) : ∃ b off, ao = some ⟨b, off, none⟩ ∧ w.cell? ⟨b, off + i, none⟩ = some (.int .i64 x) := by
  obtain ⟨ao', cap', hv, _, _, _, h4⟩ := h
  simp at hv
  obtain ⟨rfl, rfl, rfl⟩ := hv
  rcases h4 with h4 | ⟨b, off, ha, h4⟩
  · subst h4; simp at hx
  · exact ⟨b, off, ha, h4 i x hx⟩
theorem Pers.blk {τ : Nat → Nat} {w : World} {k : Nat} {o : Obj} (h : w.heap[k]? = some o) (ht : τ k = 3) : Pers τ w (fun w => w.heap[k]? = some o) := fun w' _ hk => (hk k (Array.getElem?_eq_some_iff.1 h).1 ht).trans h
theorem StepM.low {τ τ' : Nat → Nat} {w w' : World} {n : Nat} (h : StepM τ τ' w w') (h0 : ∀ k, k < n → τ k = 0) (hn : n ≤ w.heap.size) : Below n w w' := ⟨h.bel.os, h.bel.tape, h.bel.output, h.bel.size, fun k hk => h.out k (by omega) (.inl (h0 k hk))⟩
def NwL (τ : Nat → Nat) (c : Mc) (b : Nat) (I : List Int) (T i : Nat) (wc wr : World) : Prop := ∃ τ' vt tv, NwAt τ' wr b { c with vt := vt } tv I T i ∧ StepM τ τ' wc wr
def MdI (τ : Nat → Nat) (w : World) (b : Nat) (s : Ms) : Prop := ∃ c tv, MdAt τ w b c tv s
/-- A new Model. -/
def newTh (I : List Int) (T j : Nat) : Th := ⟨newH I T I.length j, [], [], []⟩
def newM (p T : Nat) (R : Int) (I : List Int) (M : Nat → Nat → Int) : Ms :=
  ⟨M, p, R, tabN I.length, (List.range T).map (newTh I T), [], [], allM ((List.range T).map fun j => (newH I T I.length j, [])), fun _ => 0, false⟩
theorem Pers.re {τ τ' : Nat → Nat} {w X : World} {F : World → Prop} (h : Pers τ w F) (hs : w.heap.size ≤ X.heap.size) (ht : ∀ k, k < w.heap.size → τ k = 3 → τ' k = 3 ∧ X.heap[k]? = w.heap[k]?) : Pers τ' X F :=
  fun w' h1 h2 => h w' (Nat.le_trans hs h1) fun k hk h3 => (h2 k (Nat.lt_of_lt_of_le hk hs) (ht k hk h3).1).trans (ht k hk h3).2
theorem newH_wf {I : List Int} {T i j : Nat} (hI : ∀ x ∈ I, -9223372036854775808 ≤ x ∧ x ≤ 9223372036854775807) (hi : i ≤ 64) : ∀ e ∈ newH I T i j, e.Wf := by
  intro e he
  unfold newH at he
  obtain ⟨k, hk, rfl⟩ := List.mem_map.1 he
  have hk2 : k < i := by simpa using (List.mem_filter.1 hk).1
  have hb : -9223372036854775808 ≤ I.getD k 0 ∧ I.getD k 0 ≤ 9223372036854775807 := by
    rw [List.getD_eq_getElem?_getD]
    cases h : I[k]? with
    | none => exact ⟨by decide, by decide⟩
    | some x => exact hI x (List.mem_of_getElem? h)
  exact ⟨by dsimp only; omega, by dsimp only; omega, hb.1, hb.2, by dsimp only; decide, by dsimp only; decide⟩
def newL (I : List Int) (T : Nat) : List Hb := (List.range T).map fun j => (newH I T I.length j, [])
theorem newL_at {I : List Int} {T j : Nat} (h : j < T) : (newL I T)[j]? = some (newH I T I.length j, []) := by unfold newL; rw [List.getElem?_map, List.getElem?_range h]; rfl
theorem newL_few {I : List Int} {T : Nat} (hI : ∀ x ∈ I, -9223372036854775808 ≤ x ∧ x ≤ 9223372036854775807) (hl : I.length ≤ 64) : FewL 5000 (newL I T) := by
  refine ⟨fun x hx => ?_, fun x hx => ?_⟩
  all_goals
    unfold newL at hx
    obtain ⟨j, _, rfl⟩ := List.mem_map.1 hx
  · have := newH_length I T I.length j
    exact ⟨by dsimp only; omega, by simp⟩
  · exact ⟨newH_wf hI hl, by simp⟩
theorem NwAt.sls {τ : Nat → Nat} {w : World} {b : Nat} {c : Mc} {tv : List Tv} {I : List Int} {T : Nat} (h : NwAt τ w b c tv I T I.length) (hI : ∀ x ∈ I, -9223372036854775808 ≤ x ∧ x ≤ 9223372036854775807) (hl : I.length ≤ 64) : ∀ (i : Nat) t (x : Hb), tv[i]? = some t → (newL I T)[i]? = some x → Sl w t.h.val x.1 ∧ Batch.Sl w t.b.val x.2 := by
  intro i t x ht hx
  have hi : i < T := by have := (List.getElem?_eq_some_iff.1 ht).1; rw [h.nT] at this; exact this
  rw [newL_at hi] at hx
  obtain rfl := Option.some.inj hx
  obtain ⟨h1, _, h2, _, _⟩ := h.hs i t ht
  rw [h2]
  exact ⟨h1.sl (newH_wf hI hl), Batch.Sl.nil _⟩
theorem nw_done {τ : Nat → Nat} {w W : World} {b p T n0 : Nat} {c : Mc} {tv : List Tv} {I : List Int} {M : Nat → Nat → Int} {R : Int} {v : Value} (h : NwAt τ w b c tv I T I.length) (hk : NwK τ w c p M R) (hb : Below w.heap.size w W) (ho : Batch.Own W w.heap.size 103 v (allM (newL I T)))
    (hI : ∀ x ∈ I, -9223372036854775808 ≤ x ∧ x ≤ 9223372036854775807) (hl : I.length ≤ 64) (hn : n0 ≤ w.heap.size) (h0 : ∀ k, k < n0 → τ k = 0) : ∃ τ', MdI τ' (W.setCell ⟨b, 6, none⟩ v) b (newM p T R I M) ∧ ∀ k, k < n0 → τ' k = 0 := by
  have hbl := h.mc.lt
  have hs := hb.size
  obtain ⟨τ', hτ⟩ : ∃ τ' : Nat → Nat, τ' = fun k => if k < w.heap.size then (if 10 ≤ τ k then 3 else τ k) else if k < W.heap.size then 3 else 0 := ⟨_, rfl⟩
  have hlo : ∀ k, k < w.heap.size → τ k < 10 → τ' k = τ k := fun k h1 h2 => by rw [hτ]; dsimp only; rw [if_pos h1, if_neg (by omega)]
  have hX : ∀ k, k < w.heap.size → k ≠ b → (W.setCell ⟨b, 6, none⟩ v).heap[k]? = w.heap[k]? := fun k h1 h2 => (heap_setCell_other _ _ _ _ h2).trans (hb.block k h1)
  have hsz : w.heap.size ≤ (W.setCell ⟨b, 6, none⟩ v).heap.size := by simpa using hs
  have hre : ∀ {F : World → Prop}, Pers τ w F → Pers τ' (W.setCell ⟨b, 6, none⟩ v) F := fun hF => hF.re hsz fun k h1 h2 => ⟨by rw [hlo k h1 (by omega), h2], hX k h1 (fun e => by rw [e, h.tb] at h2; omega)⟩
  have hgood := allM_good (newL_few (T := T) hI hl)
  have hT : ∀ g, c.th = some g → g.block < w.heap.size := fun g hg => (own_has h.row (g := g.block) (by rw [hg]; rfl)).2
  refine ⟨τ', ⟨{ c with folded := v }, tv, ⟨?_, ?_, fun k hk1 => ?_, own_blk h.row fun g hg => ?_, fun g hg => ?_, h.nn, ?_, fun i t x h1 h2 => ?_, hre hk.mat, hre h.tab, ?_, ?_, ?_, hk.pp, hre hk.sh, hk.rm, hk.cl⟩⟩, fun k h1 => ?_⟩
  · exact heap_setCell_same W b 6 _ _ v ((hb.block b hbl).trans h.mc)
  · rw [hlo b hbl (by rw [h.tb]; decide), h.tb]
  · rw [hτ] at hk1
    dsimp only at hk1
    by_cases q1 : k < w.heap.size
    · omega
    · rw [if_neg q1] at hk1
      by_cases q2 : k < W.heap.size
      · simpa using q2
      · rw [if_neg q2] at hk1; exact absurd rfl hk1
  · cases hth : c.th with
    | none => rw [hth] at hg; simp [Value.ownBlock] at hg
    | some a =>
      rw [hth] at hg
      simp [Value.ownBlock] at hg
      have h1 := h.tt a hth
      have h2 := hT a hth
      rw [hg] at h1 h2
      exact hX g h2 (fun e => by rw [e, h.tb] at h1; omega)
  · have h1 := h.tt g hg
    rw [hlo _ (hT g hg) (by omega), h1]
  · rw [h.nT]; simp [newM]
  · have hi : i < T := by have := (List.getElem?_eq_some_iff.1 h1).1; rw [h.nT] at this; exact this
    obtain rfl : newTh I T i = x := by
      simp only [newM, List.getElem?_map, List.getElem?_range hi, Option.map_some, Option.some.injEq] at h2
      exact h2
    obtain ⟨h3, h4, h5, h6, h7⟩ := h.hs i t h1
    have h3' : Own (W.setCell ⟨b, 6, none⟩ v) 0 107 t.h.val (newH I T I.length i) := own_blk h3 fun g hg => hX g (own_has h3 hg).2 (fun e => by have := h4 g hg; rw [e, h.tb] at this; omega)
    have h8 : Pers τ' (W.setCell ⟨b, 6, none⟩ v) (fun w => Own w 0 107 t.h.val (newH I T I.length i)) := Pers.own h3' fun g hg => by
      have q1 := (own_has h3 hg).2
      have q2 := h4 g hg
      rw [hτ]
      dsimp only
      rw [if_pos q1, if_pos (by omega)]
    refine ⟨h8.imp fun W' hW' => hW'.sl (newH_wf hI hl), ?_, ?_, ?_⟩
    · rw [h5]; exact fun W' _ _ => Batch.Sl.nil _
    · rw [h6]; exact ⟨rfl, Nat.le_refl _, by simp [sx0], .inl ⟨rfl, rfl, rfl⟩⟩
    · rw [h7]; exact ⟨rfl, Nat.le_refl _, by simp [sx0], .inl ⟨rfl, rfl, rfl⟩⟩
  · show Pers _ _ (fun w => Batch.Sl w c.pool [])
    rw [hk.pool]
    exact fun W' _ _ => Batch.Sl.nil _
  · show Pers _ _ (fun w => Batch.Sl w c.staged [])
    rw [hk.staged]
    exact fun W' _ _ => Batch.Sl.nil _
  · have ho' : Batch.Own (W.setCell ⟨b, 6, none⟩ v) w.heap.size 103 v (allM (newL I T)) := own_blk ho fun g hg => heap_setCell_other _ _ _ _ (by have := (own_has ho hg).1; show g ≠ b; omega)
    refine (Pers.own ho' fun g hg => ?_).imp fun W' (hW' : Batch.Own W' w.heap.size 103 v (allM (newL I T))) => hW'.sl hgood.2.1
    have := own_has ho hg
    rw [hτ]
    dsimp only
    rw [if_neg (by omega), if_pos this.2]
  · rw [hlo k (by omega) (by rw [h0 k h1]; decide), h0 k h1]
end Go.Proofs.YtdllgeanmlmmfaaGreatDoor.Md
