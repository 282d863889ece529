/-
  A START THAT MEETS THE CONDITIONS OF THE ROWS OF THIS SEAT: the heap that the door's own run leaves.
  THE ARGUMENTS OF THE LAWS OF PACKAGE graph: a Graph that came in, cell by cell (after the guide's lemma for slices of structs).
  THE ARGUMENT OF ModelChecks: a Plan that came in, cell by cell.
  THE LISTED VARIABLES OF THE LAWS THAT ASK FOR AN ERROR'S TEXT: what the library's variables hold.
-/
import Derived.Test.YtdllgeanmlmmfaaGreatDoorRows
import Derived.WalkKit
import Derived.ProofKit
import Derived.OpenShut
import Derived.LaidMore
import Derived.Stop.Joined
import Derived.Test.YtdllgeanmlmmfaaGreatDoorGTo
import Derived.Lib.SmallJoins
import Derived.Deep.Slices
import Derived.Deep.Fields
import Derived.ChangeSame
import Derived.LaidHandle
import Derived.MakeChecks
import Derived.Stop.LaidErr
import Derived.Lib.LaidTab
import Derived.Carry
import Derived.Test.YtdllgeanmlmmfaaGreatDoorJoined25
namespace Go.Proofs.YtdllgeanmlmmfaaGreatDoor.Door
open Go.ChangeShapes Go.WideShapes Go.ChangeAt Go.RowKit

theorem own : ownKnob Tryz.prog.godebug = none := by kernel_rfl
/-- The start. -/
noncomputable def W0 (os : Os) : World := World.doorLaid Tryz.prog 100 os
theorem shaped (os : Os) (args : Array Value) : ((W0 os).forCall (fun _ _ => 0) ⟨#[], args, []⟩).Shaped Tryz.prog :=
  World.shaped_of_RefB (by kernel_rfl) (by kernel_rfl)
end Go.Proofs.YtdllgeanmlmmfaaGreatDoor.Door
namespace Go.Proofs.YtdllgeanmlmmfaaGreatDoor.Gr
open Go.Joins Go.ChangeShapes Go.WideShapes Go.ChangeAt Go.Deep Go.RowKit Go.Proofs.YtdllgeanmlmmfaaGreatDoor.Door
set_option linter.unusedVariables false

section
variable {H : Type} {enc : TypeId × Value → H} {P : Program} {w : World} {base : Nat} {spare : Nat → Bool} {held : Bool}
theorem open_slice_fields {t e : TypeId} {fs : Array Field} {fuel : Nat} {cs : List Value} {x : DataW H × List MemPlace} (ht : P.underlying t = some (.slice e)) (he : P.underlying e = some (.struct fs))
    (hone : oneCellFields P fs = true) (hC : P.cellsOf e = fs.size) (h : DataW.trod enc P w base spare held fuel t cs = some x) :
    (cs = [.slice none 0 0] ∧ x = (.nil, [])) ∨
    ∃ (a : Addr) (len cap m : Nat) (D : Nat → DataW H) (Pl : Nat → List MemPlace), cs = [.slice (some a) len cap] ∧ base ≤ a.block ∧ len ≤ cap ∧ cap ≤ maxLen ∧ m = (if spare a.block then cap else len) ∧
      x = (.slice ((List.range len).map D) ((List.range (m - len)).map fun j => D (len + j)), MemPlace.row a (m * fs.size) ++ (List.range m).flatMap Pl) ∧
      ∀ i, i < m → ∃ (ys : List (DataW H × List MemPlace)) (n : Nat), D i = .agg (ys.map (·.1)) ∧ Pl i = ys.flatMap (·.2) ∧ ys.length = fs.size ∧
        ∀ (j : Nat) (f : Field), fs[j]? = some f → ∃ (v : Value) (y : DataW H × List MemPlace), w.cell? (a.add (i * fs.size + j)) = some v ∧ ys[j]? = some y ∧ DataW.trod enc P w base spare held n f.type [v] = some y := by
  rcases open_slice ht h with h0 | ⟨a, len, cap, m, n, D, Pl, hcs, hb, hl, hm, hmm, hx, hi⟩
  · exact .inl h0
  · refine .inr ⟨a, len, cap, m, D, Pl, hcs, hb, hl, hm, hmm, by rw [hC] at hx; exact hx, fun i him => ?_⟩
    obtain ⟨cs', hc, ht'⟩ := hi i him
    rw [hC] at hc
    obtain ⟨ys, n', hn', hy, hlen, hyl, hf⟩ := DataW.trod_struct he ht'
    obtain ⟨_, hcl, hat⟩ := World.cells?_some hc
    simp only [Prod.mk.injEq] at hy
    refine ⟨ys, n', hy.1, hy.2, hyl, fun j f hj => ?_⟩
    obtain ⟨ho, hk⟩ := hone_of hone j f hj
    have hjl : j < fs.size := (Array.getElem?_eq_some_iff.1 hj).1
    have hcell := hat j hjl
    have hv : cs'[j]? = some (cs'[j]'(by omega)) := List.getElem?_eq_getElem (by omega)
    have h1 := hf j f hj
    rw [ho, hk] at h1
    have hone' : (cs'.drop j).take 1 = [cs'[j]'(by omega)] := by
      rw [List.drop_eq_getElem_cons (by omega)]
      rfl
    rw [hone'] at h1
    have hys : ys[j]? = some (ys[j]'(by omega)) := List.getElem?_eq_getElem (by omega)
    refine ⟨_, _, ?_, hys, h1.trans hys⟩
    rw [← Go.Deep.add_add, hcell, hv]
end

theorem laidOut : laidOutB Tryz.prog = true := by kernel_rfl
theorem list_of {α : Type} (len : Nat) (Q : Nat → α → Prop) (h : ∀ i : Nat, i < len → ∃ x, Q i x) : ∃ l : List α, l.length = len ∧ ∀ i x, l[i]? = some x → Q i x := by
  induction len with
  | zero => exact ⟨[], rfl, by intro i x h; simp at h⟩
  | succ k ih =>
    obtain ⟨l, h1, h2⟩ := ih (fun i hi => h i (by omega))
    obtain ⟨x, hx⟩ := h k (by omega)
    refine ⟨l ++ [x], by simp [h1], fun i y hy => ?_⟩
    by_cases hik : i < l.length
    · rw [List.getElem?_append_left hik] at hy
      exact h2 i y hy
    · rw [List.getElem?_append_right (by omega)] at hy
      have hi0 : i - l.length = 0 := by
        rcases Nat.eq_zero_or_pos (i - l.length) with h0 | h0
        · exact h0
        · rw [List.getElem?_eq_none (by simp; omega)] at hy; cases hy
      rw [hi0] at hy
      obtain rfl : x = y := by simpa using hy
      have : i = k := by omega
      subst this
      exact hx
theorem add_plain' (b o j : Nat) : ((⟨b, o, none⟩ : Addr).add j) = ⟨b, o + j, none⟩ := by unfold Addr.add; split <;> simp_all
theorem bounds_u64 {n : Int} (h : (Lit.int .u64 n).wf = true) : 0 ≤ n ∧ n ≤ 18446744073709551615 := by
  have h1 : IntKind.u64.min = 0 := rfl
  have h2 : IntKind.u64.max = 18446744073709551615 := rfl
  simp only [Lit.wf, Bool.and_eq_true, decide_eq_true_eq, h1, h2] at h
  exact h
theorem rd_of {H : Type} {enc : TypeId × Value → H} {w : World} {fuel : Nat} {v : Value} {d : DataW H} {p : List MemPlace}
    (h : DataW.trod enc Tryz.prog w 0 (fun _ => true) true fuel 22 [v] = some (d, p)) : ∃ l, Rd w v l := by
  rcases open_slice_fields Tryz.underlying22 Tryz.underlying127 (by kernel_rfl) (by kernel_rfl) h with ⟨hcs, _⟩ | ⟨a, len, cap, m, D, Plc, hcs, _, hl, hm, hmm, _, hi⟩
  · simp at hcs
    subst hcs
    exact ⟨[], none, 0, rfl, by simp, by simp, by simp, .inl rfl⟩
  · simp at hcs
    subst hcs
    have hsome : ∀ i : Nat, i < len → ∃ x : Ed, (w.cell? (a.add (i * 3)) = some (.int .i64 x.f) ∧ w.cell? (a.add (i * 3 + 1)) = some (.int .i64 x.t) ∧ w.cell? (a.add (i * 3 + 2)) = some (.int .u64 x.a)) ∧ x.Wf := by
      intro i hil
      obtain ⟨ys, k, _, _, hys, hf⟩ := hi i (by rw [hmm]; simp; omega)
      obtain ⟨v0, y0, hc0, _, ht0⟩ := hf 0 _ rfl
      obtain ⟨v1, y1, hc1, _, ht1⟩ := hf 1 _ rfl
      obtain ⟨v2, y2, hc2, _, ht2⟩ := hf 2 _ rfl
      obtain ⟨n0, e0, _, w0⟩ := DataW.trod_int Tryz.underlying3 ht0
      obtain ⟨n1, e1, _, w1⟩ := DataW.trod_int Tryz.underlying3 ht1
      obtain ⟨n2, e2, _, w2⟩ := DataW.trod_int Tryz.underlying50 ht2
      simp at e0 e1 e2
      subst e0 e1 e2
      have b0 := bounds_i64 w0
      have b1 := bounds_i64 w1
      have b2 := bounds_u64 w2
      exact ⟨⟨n0, n1, n2⟩, ⟨hc0, hc1, hc2⟩, b0.1, b0.2, b1.1, b1.2, b2.1, b2.2⟩
    have hcap : cap ≤ 9223372036854775807 := by unfold maxLen at hm; omega
    obtain ⟨l, hl1, hl2⟩ := list_of len _ hsome
    subst hl1
    refine ⟨l, some a, cap, rfl, hl, hcap, fun x hx => ?_, ?_⟩
    · obtain ⟨i, hi⟩ := List.mem_iff_getElem?.1 hx
      exact (hl2 i x hi).2
    · by_cases h0 : l = []
      · exact .inl h0
      · have hpos : 0 < l.length := List.length_pos_iff.2 h0
        have h00 := (hl2 0 l[0] (List.getElem?_eq_getElem hpos)).1.1
        obtain ⟨b, off, spot⟩ := a
        have hspot : spot = none := by simpa [Addr.add] using World.cell?_spot h00
        subst hspot
        refine .inr ⟨b, off, rfl, fun i x hx => ?_⟩
        obtain ⟨⟨q0, q1, q2⟩, _⟩ := hl2 i x hx
        rw [add_plain'] at q0 q1 q2
        exact ⟨q0, by rw [Nat.add_assoc]; exact q1, by rw [Nat.add_assoc]; exact q2⟩
theorem rdi_of {H : Type} {enc : TypeId × Value → H} {w : World} {fuel : Nat} {v : Value} {d : DataW H} {p : List MemPlace}
    (h : DataW.trod enc Tryz.prog w 0 (fun _ => true) true fuel 23 [v] = some (d, p)) : ∃ l, RdI w v l := by
  rcases open_ints Tryz.underlying23 Tryz.underlying3 (by kernel_rfl) h with ⟨hcs, _⟩ | ⟨a, len, cap, zs, hcs, _, hl, hm, hz, _, hcell, hwf⟩
  · simp at hcs
    subst hcs
    exact ⟨[], none, 0, rfl, by simp, by simp, by simp, .inl rfl⟩
  · simp at hcs
    subst hcs
    have hcap : cap ≤ 9223372036854775807 := by unfold maxLen at hm; omega
    have hz' : zs.length = cap := by simpa using hz
    have htl : (zs.take len).length = len := by rw [List.length_take]; omega
    refine ⟨zs.take len, some a, cap, by rw [htl], by omega, hcap, fun x hx => bounds_i64 (hwf x (List.mem_of_mem_take hx)), ?_⟩
    by_cases h0 : len = 0
    · left; subst h0; simp
    · have h00 := hcell 0 (by omega)
      obtain ⟨b, off, spot⟩ := a
      have hspot : spot = none := by simpa [Addr.add] using World.cell?_spot h00
      subst hspot
      refine .inr ⟨b, off, rfl, fun i x hx => ?_⟩
      have hi : i < len := by have := (List.getElem?_eq_some_iff.1 hx).1; omega
      rw [List.getElem?_take_of_lt hi] at hx
      have := hcell i (by omega)
      rw [add_plain', List.getD_eq_getElem?_getD, hx] at this
      exact this
set_option maxRecDepth 100000 in
/-- A Graph that came in. -/
theorem gmem_of {H : Type} {enc : TypeId × Value → H} {w : World} {b0 : Nat} {v : Value} {d : DataW H} {p : List MemPlace} (hv : Value.okWide Tryz.prog w .any b0 25 v)
    (h : DataW.Trod enc Tryz.prog w 0 (fun _ => true) true 25 v d p) : ∃ (n : Int) (ve vi : Value) (E : List Ed) (I : List Int), v = .agg #[.int .i64 n, ve, vi] ∧ (-9223372036854775808 ≤ n ∧ n ≤ 9223372036854775807) ∧ GMemP w ve vi E I := by
  obtain ⟨v0, v1, v2, ⟨d0, p0⟩, ⟨d1, p1⟩, ⟨d2, p2⟩, n, rfl, _, _, t0, t1, t2⟩ := open_agg3 Tryz.underlying25 (by kernel_rfl) (by kernel_rfl) hv h
  obtain ⟨n0, e0, _, w0⟩ := DataW.trod_int Tryz.underlying3 t0
  simp at e0
  subst e0
  obtain ⟨E, hE⟩ := rd_of t1
  obtain ⟨I, hI⟩ := rdi_of t2
  exact ⟨n0, v1, v2, E, I, rfl, bounds_i64 w0, ⟨hE, hI⟩⟩

end Go.Proofs.YtdllgeanmlmmfaaGreatDoor.Gr
namespace Go.Proofs.YtdllgeanmlmmfaaGreatDoor.Md
open Go.Joins Go.ChangeShapes Go.WideShapes Go.ChangeAt Go.Deep Go.RowKit Go.Proofs.YtdllgeanmlmmfaaGreatDoor.Door Gr
set_option linter.unusedVariables false
theorem array7 {α : Type} {cs : Array α} (h : cs.size = 7) : ∃ c0 c1 c2 c3 c4 c5 c6, cs = #[c0, c1, c2, c3, c4, c5, c6] := by
  obtain ⟨l⟩ := cs
  match l, h with
  | [c0, c1, c2, c3, c4, c5, c6], _ => exact ⟨c0, c1, c2, c3, c4, c5, c6, rfl⟩
theorem cellsG : Tryz.prog.cellsOf 25 = 3 := by kernel_rfl
theorem cellsI : Tryz.prog.cellsOf 3 = 1 := by kernel_rfl
theorem cellsE : Tryz.prog.cellsOf 22 = 1 := by kernel_rfl
theorem cellsN : Tryz.prog.cellsOf 23 = 1 := by kernel_rfl
set_option maxRecDepth 100000 in
/-- A Plan that came in. -/
theorem plan_of {H : Type} {enc : TypeId × Value → H} {w : World} {b0 : Nat} {v : Value} {d : DataW H} {p : List MemPlace} (hv : Value.okWide Tryz.prog w .any b0 27 v)
    (h : DataW.Trod enc Tryz.prog w 0 (fun _ => true) true 27 v d p) : ∃ (n : Int) (ve vi : Value) (E : List Ed) (I : List Int) (T R S K : Int), v = .agg #[.int .i64 n, ve, vi, .int .i64 T, .int .i64 R, .int .i64 S, .int .i64 K] ∧ GMemP w ve vi E I ∧
      (-9223372036854775808 ≤ T ∧ T ≤ 9223372036854775807) ∧ (-9223372036854775808 ≤ R ∧ R ≤ 9223372036854775807) ∧ (-9223372036854775808 ≤ S ∧ S ≤ 9223372036854775807) ∧ (-9223372036854775808 ≤ K ∧ K ≤ 9223372036854775807) := by
  obtain ⟨cs, rfl, hsz⟩ := okWide_struct Tryz.underlying27 hv
  obtain ⟨c0, c1, c2, c3, c4, c5, c6, rfl⟩ := array7 (hsz.trans (by kernel_rfl))
  obtain ⟨fuel, hf⟩ := h
  obtain ⟨xs, m, _, _, _, hxl, hfd⟩ := DataW.trod_struct Tryz.underlying27 hf
  obtain ⟨⟨x0, z0⟩, ⟨x1, z1⟩, ⟨x2, z2⟩, ⟨x3, z3⟩, ⟨x4, z4⟩, rfl⟩ : ∃ x0 x1 x2 x3 x4, xs = [x0, x1, x2, x3, x4] := by
    match xs, hxl with
    | [x0, x1, x2, x3, x4], _ => exact ⟨_, _, _, _, _, rfl⟩
  have g0 : DataW.trod enc Tryz.prog w 0 (fun _ => true) true m 25 [c0, c1, c2] = some (x0, z0) := by have h := hfd 0 _ rfl; simpa [Value.cells, cellsG] using h
  have g1 : DataW.trod enc Tryz.prog w 0 (fun _ => true) true m 3 [c3] = some (x1, z1) := by have h := hfd 1 _ rfl; simpa [Value.cells, cellsI] using h
  have g2 : DataW.trod enc Tryz.prog w 0 (fun _ => true) true m 3 [c4] = some (x2, z2) := by have h := hfd 2 _ rfl; simpa [Value.cells, cellsI] using h
  have g3 : DataW.trod enc Tryz.prog w 0 (fun _ => true) true m 3 [c5] = some (x3, z3) := by have h := hfd 3 _ rfl; simpa [Value.cells, cellsI] using h
  have g4 : DataW.trod enc Tryz.prog w 0 (fun _ => true) true m 3 [c6] = some (x4, z4) := by have h := hfd 4 _ rfl; simpa [Value.cells, cellsI] using h
  obtain ⟨ys, m', _, _, _, hyl, hgd⟩ := DataW.trod_struct Tryz.underlying25 g0
  obtain ⟨⟨y0, q0⟩, ⟨y1, q1⟩, ⟨y2, q2⟩, rfl⟩ : ∃ x0 x1 x2, ys = [x0, x1, x2] := by
    match ys, hyl with
    | [x0, x1, x2], _ => exact ⟨_, _, _, rfl⟩
  have t0 : DataW.trod enc Tryz.prog w 0 (fun _ => true) true m' 3 [c0] = some (y0, q0) := by have h := hgd 0 _ rfl; simpa [cellsI] using h
  have t1 : DataW.trod enc Tryz.prog w 0 (fun _ => true) true m' 22 [c1] = some (y1, q1) := by have h := hgd 1 _ rfl; simpa [cellsE] using h
  have t2 : DataW.trod enc Tryz.prog w 0 (fun _ => true) true m' 23 [c2] = some (y2, q2) := by have h := hgd 2 _ rfl; simpa [cellsN] using h
  obtain ⟨n0, e0, _, _⟩ := DataW.trod_int Tryz.underlying3 t0
  obtain ⟨n1, e1, _, w1⟩ := DataW.trod_int Tryz.underlying3 g1
  obtain ⟨n2, e2, _, w2⟩ := DataW.trod_int Tryz.underlying3 g2
  obtain ⟨n3, e3, _, w3⟩ := DataW.trod_int Tryz.underlying3 g3
  obtain ⟨n4, e4, _, w4⟩ := DataW.trod_int Tryz.underlying3 g4
  simp at e0 e1 e2 e3 e4
  subst e0 e1 e2 e3 e4
  obtain ⟨E, hE⟩ := rd_of t1
  obtain ⟨I, hI⟩ := rdi_of t2
  exact ⟨n0, c1, c2, E, I, n1, n2, n3, n4, rfl, ⟨hE, hI⟩, bounds_i64 w1, bounds_i64 w2, bounds_i64 w3, bounds_i64 w4⟩
end Go.Proofs.YtdllgeanmlmmfaaGreatDoor.Md
namespace Go.Proofs.YtdllgeanmlmmfaaGreatDoor.Gr
open Go.Joins Go.ChangeShapes Go.WideShapes Go.ChangeAt Go.Deep Go.RowKit Go.Proofs.YtdllgeanmlmmfaaGreatDoor.Door
set_option linter.unusedVariables false

/-! ### what the library's variables hold -/
theorem rtName : (Tryz.prog.cutTypes.find? (·.1 == "internal/reflectlite.rtype")).map (·.2) = some 177 := by kernel_rfl
theorem oneError : ((List.range Tryz.prog.types.size).filter fun t => Tryz.prog.rowNamed t [101, 114, 114, 111, 114]) = [29] := by kernel_rfl
theorem of_laid {W : World} (h : laidMetH Tryz.prog Rows.modelChecksRow.laid W) : Fault.LV W := by
  have h' : laidMet Tryz.prog (("math/bits.deBruijn32tab", Rows.laid_math_bits_deBruijn32tab) :: ("math/bits.deBruijn64tab", Rows.laid_math_bits_deBruijn64tab) :: ("internal/strconv.uint64pow10", Lib.tabData .u64 Lib.pow10Tab) :: []) W ∧ handlesMet Tryz.prog [("errors.errorType", Rows.laid_errors_errorType)] W := h
  refine ⟨Lib.tabIs_of_head (g := 1) (t := 260) (e := 50) (n := 20) (by kernel_rfl) (by kernel_rfl) Tryz.underlying260 Tryz.underlying50 (by kernel_rfl) (by kernel_rfl) h'.1.tail.tail, ?_⟩
  obtain ⟨name, u, ty, e1, e2, e3, e4, e5⟩ := h'.2 _ (List.mem_singleton.2 rfl)
  have en : name = [101, 114, 114, 111, 114] := (Option.some.inj e1).symm
  subst en
  obtain rfl := Option.some.inj (rtName.symm.trans e2)
  have hm : ty ∈ (List.range Tryz.prog.types.size).filter fun t => Tryz.prog.rowNamed t [101, 114, 114, 111, 114] := List.mem_filter.2 ⟨List.mem_range.2 e3, e4⟩
  rw [oneError] at hm
  obtain rfl := List.mem_singleton.1 hm
  have hh : typeHandle Tryz.prog 29 = .pointer (some ⟨4, 29, none⟩) := by kernel_rfl
  rw [hh] at e5
  have := World.var?_cell (show Tryz.prog.globalNamed "errors.errorType" = some 0 by kernel_rfl) e5 0
  unfold Fault.ErrType
  simpa using this
theorem met4 (os : Os) (args : Array Value) : laidMetH Tryz.prog Rows.modelChecksRow.laid ((W0 os).forCall (fun _ _ => 0) ⟨#[], args, []⟩).memory :=
  laidMetH_of_parts3 (fuel := 8) (laidMet_of_run' 8 (by kernel_rfl) (by kernel_rfl)) (by kernel_rfl) (by kernel_rfl)
end Go.Proofs.YtdllgeanmlmmfaaGreatDoor.Gr
