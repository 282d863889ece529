/-
  append onto memory of the call's own, the source nil, empty or not, its slice type of another name.
  PACKAGE claim: a Table of places for handles.
  PACKAGE claim: Take, Give.
-/
import Derived.Test.YtaifomnoecbohaaGreatDoorBatchMem
import Derived.Maps.AppendAt
import Derived.Deep.AppendLies
import Derived.RegionTactic
import Derived.OwnWalk
import Derived.Test.YtaifomnoecbohaaGreatDoorRowMem
import Derived.Test.YtaifomnoecbohaaGreatDoorShelf
import Derived.Shelf.SlicesE.Clone
import Derived.WalkKit
import Derived.WalkLawsBesides
import Derived.WalkSpells
import Derived.WalkSmall
import Derived.StillTactics
import Derived.StillTailTactics
import Derived.Outline
import Derived.Deep.QuietTactic
import Derived.BigQuiet
namespace Go.Proofs.YtaifomnoecbohaaGreatDoor.Batch
open Go.RowKit
set_option linter.unusedVariables false

section
variable {P : Program} (w : World)
theorem run_append_types (t t2 ty e e2 : TypeId) (ht : P.underlying t = some (.slice e)) (ht2 : P.underlying t2 = some (.slice e2)) (A B : Option Addr) (n m c d : Nat) :
    (Builtin.append_ #[t, t2] ty #[.slice A n c, .slice B m d]).run P w = (Builtin.append_ #[t, t] ty #[.slice A n c, .slice B m d]).run P w := by
  simp [Builtin.append_, run_underlying ht, run_underlying ht2]
theorem run_append_of_nil (base : Nat) (t ty e : TypeId) (i : TypeInfo) (size : Nat) (ht : P.underlying t = some (.slice e)) (hi : P.info? e = some i)
    (v : Value) (n : Nat) (xs : List Value) (hown : w.ownsRow base e size v n xs) (c : Nat) : (Builtin.append_ #[t, t] ty #[v, .slice none 0 c]).run P w = .ok v w := by
  rcases hown.2 with ⟨rfl, rfl⟩ | ⟨g, cap, cur, rfl, _, _, hnc, _⟩
  · simp [Builtin.append_, run_underlying ht, sizeOf, typeInfo, hi, Builtin.lenOf, Builtin.firstCells]
  · simp [Builtin.append_, run_underlying ht, sizeOf, typeInfo, hi, Builtin.lenOf, Builtin.firstCells, hnc, storeCells]
/-- The source of an append: nothing, or cells that lie at an address. -/
def Src (w : World) (A : Option Addr) (m : Nat) (news : List Value) : Prop := (A = none ∧ m = 0 ∧ news = []) ∨ ∃ ad, A = some ad ∧ ∀ j u, news[j]? = some u → w.cell? (ad.add j) = some u
theorem run_append_any (base : Nat) (t t2 ty e e2 : TypeId) (i : TypeInfo) (z : Value) (size bytes : Nat) (ht : P.underlying t = some (.slice e)) (ht2 : P.underlying t2 = some (.slice e2)) (hi : P.info? e = some i) (hz : i.zero = some z)
    (hsize : i.size = size) (hby : i.bytes = bytes) (hzs : z.cells.size = size) (hsz : 0 < size)
    (v : Value) (n : Nat) (xs : List Value) (hown : w.ownsRow base e size v n xs)
    (A : Option Addr) (m c : Nat) (news : List Value) (hl : news.length = m * size) (hr : Src w A m news) (h1 : ∀ u ∈ news, u.oneCell' = true)
    (h63 : n + m ≤ maxLen) (hbytes : (n + m) * bytes ≤ 140737488355328) (hbase : base ≤ w.heap.size) :
    ∃ v' w', (Builtin.append_ #[t, t2] ty #[v, .slice A m c]).run P w = .ok v' w' ∧ w'.ownsRow base e size v' (n + m) (xs ++ news) ∧ w.grownBy w' v.ownBlock ∧
      (v'.ownBlock = v.ownBlock ∨ v'.ownBlock = some w.heap.size) := by
  have hform : ∃ vo vc, v = .slice vo n vc := by
    rcases hown.2 with ⟨hv, h0⟩ | ⟨g, cap, cur, hv, _⟩
    · exact ⟨none, 0, by rw [hv, h0]⟩
    · exact ⟨_, _, hv⟩
  obtain ⟨vo, vc, hvf⟩ := hform
  rw [show (#[v, .slice A m c] : Array Value) = #[.slice vo n vc, .slice A m c] by rw [hvf], run_append_types w t t2 ty e e2 ht ht2, ← hvf]
  rcases hr with ⟨rfl, rfl, rfl⟩ | ⟨ad, rfl, hc⟩
  · exact ⟨_, w, run_append_of_nil w base t ty e i size ht hi _ n xs hown c, by simpa using hown, World.grownBy.refl w _, .inl rfl⟩
  · obtain ⟨v', w', hrun, h2, h3, _, h5⟩ := run_append_own_at (P := P) w base t ty e i z size bytes ht hi hz hsize hby hzs hsz _ n xs hown ad m c news hl hc h1 h63 hbytes hbase
    exact ⟨v', w', hrun, h2, h3, h5⟩
theorem wp_append_any {o : Oper} {a : Act} {K : Act → World → Prop} {Q : Exit → Act → World → Prop} (s x : Operand) (t t2 : TypeId)
    (ho : o.op = .call { callee := .builtin .append, args := #[s, x], argTypes := #[t, t2] })
    (base : Nat) (e e2 : TypeId) (i : TypeInfo) (z : Value) (size bytes : Nat) (ht : P.underlying t = some (.slice e)) (ht2 : P.underlying t2 = some (.slice e2)) (hi : P.info? e = some i) (hz : i.zero = some z)
    (hsize : i.size = size) (hby : i.bytes = bytes) (hzs : z.cells.size = size) (hsz : 0 < size)
    (v : Value) (n : Nat) (xs : List Value) (hs : a.eval s = v) (hown : w.ownsRow base e size v n xs)
    (A : Option Addr) (m c : Nat) (news : List Value) (hx : a.eval x = .slice A m c) (hl : news.length = m * size) (hr : Src w A m news) (h1 : ∀ u ∈ news, u.oneCell' = true)
    (h63 : n + m ≤ maxLen) (hbytes : (n + m) * bytes ≤ 140737488355328) (hbase : base ≤ w.heap.size)
    (h : ∀ v' w', w'.ownsRow base e size v' (n + m) (xs ++ news) → w.grownBy w' v.ownBlock → (v'.ownBlock = v.ownBlock ∨ v'.ownBlock = some w.heap.size) → K (a.put o.dst v') w') : o.wp P a w K Q := by
  obtain ⟨v', w', hrun, h2, h3, h4⟩ := run_append_any (P := P) w base t t2 o.type e e2 i z size bytes ht ht2 hi hz hsize hby hzs hsz v n xs hown A m c news hl hr h1 h63 hbytes hbase
  unfold Oper.wp execOp
  simp only [ho, resolve, invoke, builtin, Sem.run_bind, Sem.run_pure, Result.andThen_ok, List.map_toArray, List.map_cons, List.map_nil, hs, hx, hrun]
  exact h v' w' h2 h3 h4
theorem wpList_append_any {ops : Array Oper} {rest : List Oper} {o : Oper} {a : Act} {Q : Exit → Act → World → Prop} (hgd : o.guard = none) (s x : Operand) (t t2 : TypeId)
    (ho : o.op = .call { callee := .builtin .append, args := #[s, x], argTypes := #[t, t2] })
    (base : Nat) (e e2 : TypeId) (i : TypeInfo) (z : Value) (size bytes : Nat) (ht : P.underlying t = some (.slice e)) (ht2 : P.underlying t2 = some (.slice e2)) (hi : P.info? e = some i) (hz : i.zero = some z)
    (hsize : i.size = size) (hby : i.bytes = bytes) (hzs : z.cells.size = size) (hsz : 0 < size)
    (v : Value) (n : Nat) (xs : List Value) (hs : a.eval s = v) (hown : w.ownsRow base e size v n xs)
    (A : Option Addr) (m c : Nat) (news : List Value) (hx : a.eval x = .slice A m c) (hl : news.length = m * size) (hr : Src w A m news) (h1 : ∀ u ∈ news, u.oneCell' = true)
    (h63 : n + m ≤ maxLen) (hbytes : (n + m) * bytes ≤ 140737488355328) (hbase : base ≤ w.heap.size)
    (h : ∀ v' w', w'.ownsRow base e size v' (n + m) (xs ++ news) → w.grownBy w' v.ownBlock → (v'.ownBlock = v.ownBlock ∨ v'.ownBlock = some w.heap.size) → wpList P ops Q rest (a.put o.dst v') w') : wpList P ops Q (o :: rest) a w :=
  wpList_plain hgd fun _ hK => wp_append_any w s x t t2 ho base e e2 i z size bytes ht ht2 hi hz hsize hby hzs hsz v n xs hs hown A m c news hx hl hr h1 h63 hbytes hbase fun v' w' h2 h3 h4 => hK _ _ (h v' w' h2 h3 h4)
end
theorem Sl.src {w : World} {ao : Option Addr} {n cap : Nat} {l : List Ch} (h : Sl w (.slice ao n cap) l) : n = l.length ∧ Src w ao l.length (cellsL l) := by
  obtain ⟨ao', cap', hv, h1, _⟩ := h
  simp at hv
  obtain ⟨rfl, rfl, rfl⟩ := hv
  refine ⟨rfl, ?_⟩
  rcases h1 with ⟨rfl, rfl⟩ | ⟨b, off, rfl, h1⟩
  · exact .inl ⟨rfl, rfl, rfl⟩
  · refine .inr ⟨_, rfl, fun j u hu => ?_⟩
    rw [show ((⟨b, off, none⟩ : Addr).add j) = ⟨b, off + j, none⟩ by unfold Addr.add; split <;> simp_all]
    exact cells_of_at h1 j u hu
end Go.Proofs.YtaifomnoecbohaaGreatDoor.Batch
namespace Go.Proofs.YtaifomnoecbohaaGreatDoor.Tb
open Go.RowKit Rw Go.Shelf Go.Lib
set_option linter.unusedVariables false

/-- A place: its Gen, is it taken. -/
def slK : Kd (Int × Bool) where
  k := 2
  cells x := [.int .i64 x.1, .bool x.2]
  wf x := -9223372036854775808 ≤ x.1 ∧ x.1 ≤ 9223372036854775807
  len _ := rfl
  one x u hu := by simp at hu; rcases hu with rfl | rfl <;> rfl
theorem slK_k : slK.k = 2 := rfl
theorem at2 {w : World} {b o : Nat} {g : Int} {u : Bool} (h : AtK slK w b o (g, u)) : w.cell? ⟨b, o, none⟩ = some (.int .i64 g) ∧ w.cell? ⟨b, o + 1, none⟩ = some (.bool u) :=
  ⟨h 0 _ (by decide) rfl, h 1 _ (by decide) rfl⟩
theorem infoSl : (Tryz.prog.info? 125).map (fun i => (i.zero, i.size, i.bytes)) = some (some (.agg #[.int .i64 0, .bool false]), 2, 16) := by kernel_rfl
theorem infoRs : (Tryz.prog.info? 80).map (fun i => (i.zero, i.size, i.bytes)) = some (some (.agg #[.int .i64 0, .bool false]), 2, 16) := by kernel_rfl
theorem info_parts {P : Program} {t : TypeId} {z : Value} {size bytes : Nat} (h : (P.info? t).map (fun i => (i.zero, i.size, i.bytes)) = some (some z, size, bytes)) : ∃ i, P.info? t = some i ∧ i.zero = some z ∧ i.size = size ∧ i.bytes = bytes := by
  obtain ⟨i, hi, hz⟩ := Option.map_eq_some_iff.1 h
  simp only [Prod.mk.injEq] at hz
  exact ⟨i, hi, hz⟩
theorem cloneT_any {w : World} {v : Value} {l : List (Int × Bool)} (h : Sl slK w v l) (hl : l.length ≤ 100000) :
    Calls Tryz.prog 62 #[v] w fun e w' => ∃ v', e = .returned v' ∧ Own slK w' w.heap.size 125 v' l ∧ Below w.heap.size w w' := by
  have hh := h
  obtain ⟨ao, cap, rfl, h1, _⟩ := h
  obtain ⟨i0, hi, hz0, hz1, hz2⟩ := info_parts infoSl
  rcases h1 with ⟨rfl, rfl⟩ | ⟨b, off, _, rfl, h1⟩
  · exact (AnyE.slices_Clone_nil Tryz.cloneT 0 cap w).mono fun e w' ⟨he, hw⟩ => ⟨_, he, by rw [hw]; exact Own.nil _ _ _, by rw [hw]; exact Below.refl _ _⟩
  · exact (AnyE.slices_Clone Tryz.cloneT i0 (.agg #[.int .i64 0, .bool false]) 2 16 hi hz0 hz1 hz2 rfl (by omega) Tryz.sizeOf125 b off l.length cap (slK.flat l) w (flat_length l) (by unfold maxLen; omega) (by omega) (hh.cells (by decide)) (flat_one l)).mono
      fun e w' ⟨v', he, ho, _, hb⟩ => ⟨v', he, ho, hb⟩
/-- No place is taken. -/
def freshL : List (Int × Bool) := List.replicate 64 (0, false)
set_option maxRecDepth 1000000 in
set_option maxHeartbeats 4000000 in
theorem fresh_any (w : World) : Calls Tryz.prog 21 #[] w fun e w' => ∃ v, e = .returned v ∧ Own slK w' w.heap.size 125 v freshL ∧ Below w.heap.size w w' := by
  obtain ⟨i0, hi, hz0, hz1, hz2⟩ := info_parts infoSl
  obtain ⟨w1, hrun, hown, hg⟩ := run_makeSlice_full (P := Tryz.prog) w w.heap.size 67 125 i0 (.agg #[.int .i64 0, .bool false]) 2 Tryz.underlying67 hi hz0 hz1 .i64 .i64 64 (by decide) (by rw [hz2]; decide) (by decide) (Nat.le_refl _)
  have hrun' : (Instr.makeSlice 67 (.int .i64 64) (.int .i64 64)).run Tryz.prog w = .ok (.slice (some ⟨w.heap.size, 0, none⟩) 64 64) w1 := hrun
  have hcs : (madeCells (Value.agg #[Value.int IntKind.i64 0, Value.bool false]).cells (64 * 2)).toList = slK.flat freshL := by kernel_rfl
  have hO : Own slK w1 w.heap.size 125 (.slice (some ⟨w.heap.size, 0, none⟩) 64 64) freshL := by unfold Own; rw [← hcs]; exact hown
  have HO := Lib.hid hO
  have HB := Lib.hid ((Below.refl w.heap.size w).grown hg (Nat.le_refl _) (fun k e => by cases e))
  clear hrun hown hg hO hi hz0 hz1 hz2
  go_enter Tryz.func21, Tryz.ntmps21
  go_wp2
  go_ret
  exact ⟨_, rfl, HO.out, HB.out⟩
theorem take1_any (g : Int) (u : Bool) (w : World) : Calls Tryz.prog 61 #[.agg #[.int .i64 g, .bool u]] w fun e w' => e = .returned (.bool (!u)) ∧ Below w.heap.size w w' := by
  have hb : Below w.heap.size w (w.alloc (.cells #[.int .i64 g, .bool u] 125)) := (Below.refl _ _).alloc (Nat.le_refl _) _
  have HB := Lib.hid hb
  clear hb
  cases u
  all_goals
    go_enter Tryz.func61, Tryz.ntmps61
    go_wp2
    go_ret
    exact ⟨rfl, HB.out⟩
end Go.Proofs.YtaifomnoecbohaaGreatDoor.Tb
namespace Go.Proofs.YtaifomnoecbohaaGreatDoor.Tb
open Go.RowKit Rw Go.Lib
set_option linter.unusedVariables false

abbrev So := Int × Bool
theorem at_ofT {l : List So} {i : Nat} (h : i < l.length) : ∃ g u, l[i]? = some (g, u) := ⟨l[i].1, l[i].2, List.getElem?_eq_getElem h⟩
/-- The first place that is free. -/
def FreeP (T : List So) (z : Int) : Prop := (z = -1 ∧ ∀ x ∈ T, x.2 = true) ∨ ∃ (j : Nat) (g : Int), z = j ∧ T[j]? = some (g, false) ∧ ∀ x ∈ T.take j, x.2 = true
theorem FreeP.one {T : List So} {z z' : Int} (h : FreeP T z) (h' : FreeP T z') : z = z' := by
  rcases h with ⟨e, h⟩ | ⟨j, g, e, hj, h⟩
  · rcases h' with ⟨e', h'⟩ | ⟨j', g', e', hj', h'⟩
    · omega
    · exact absurd (h _ (List.mem_of_getElem? hj')) (by simp)
  · rcases h' with ⟨e', h'⟩ | ⟨j', g', e', hj', h'⟩
    · exact absurd (h' _ (List.mem_of_getElem? hj)) (by simp)
    · rcases Nat.lt_trichotomy j j' with hlt | hlt | hlt
      · exact absurd (h' (g, false) (List.mem_iff_getElem?.2 ⟨j, by rw [List.getElem?_take_of_lt hlt]; exact hj⟩)) (by simp)
      · omega
      · exact absurd (h (g', false) (List.mem_iff_getElem?.2 ⟨j', by rw [List.getElem?_take_of_lt hlt]; exact hj'⟩)) (by simp)
theorem take_succT {l : List So} {i : Nat} {x : So} (h : l[i]? = some x) : l.take (i + 1) = l.take i ++ [x] := by rw [List.take_add_one, h]; rfl

set_option maxRecDepth 1000000 in
set_option maxHeartbeats 8000000 in
theorem idxS_any {w : World} {v : Value} {T : List So} (hv : Sl slK w v T) :
    Calls Tryz.prog 60 #[v, .func (.func 61) #[] #[]] w fun e w' => ∃ z : Int, e = .returned (.int .i64 z) ∧ FreeP T z ∧ Below w.heap.size w w' := by
  have HV := Lib.hid hv
  obtain ⟨ao, cap, rfl, hc1, hc2⟩ := hv.form
  have hlen : T.length ≤ 9223372036854775807 := by omega
  have HCM := Lib.hid (fun g u W => take1_any g u W)
  clear hv
  go_enter Tryz.func60, Tryz.ntmps60
  go_wp2
  go_loopg [8] T.length (fun k s8 wr => ∃ i : Nat, i + k = T.length ∧ s8 = .int .i64 i ∧ (∀ x ∈ T.take i, x.2 = true) ∧ Below w.heap.size w wr)
  case atStart => exact ⟨0, by omega, rfl, by simp, Below.refl _ _⟩
  case round =>
    obtain ⟨i, hik, rfl, hok, hbw⟩ := hrel
    have HIK := Lib.hid hik
    have HOK := Lib.hid hok
    have HBW := Lib.hid hbw
    clear hok hbw hik
    by_cases hlt : i < T.length
    · obtain ⟨g, u, hx⟩ := at_ofT hlt
      obtain ⟨b, off, hao, hbl, q⟩ := HV.out.at hx
      subst hao
      obtain ⟨c0, c1⟩ := at2 (q.below HBW.out hbl)
      simp only [slK_k] at c0 c1
      have HX := Lib.hid hx
      have hi0 : (0 : Int) ≤ (i : Int) := Int.natCast_nonneg _
      have hi1 : (i : Int) < (T.length : Int) := by omega
      have HLT := Lib.hid hlt
      clear hx q hlt
      cases u
      all_goals
        go_wp2_with fail
        go_at_call 61
        refine (HCM.out g _ _).mono ?_
        rintro e w1 ⟨rfl, hcb⟩
        have HB1 := Lib.hid (HBW.out.trans (hcb.mono HBW.out.size))
        clear hcb c0 c1
        go_wp2_with fail
      · go_ret
        exact ⟨_, rfl, .inr ⟨i, g, rfl, HX.out, HOK.out⟩, HB1.out⟩
      · go_roundg (gk - 1)
        case measure => have := HIK.out; have := HLT.out; omega
        case rel => exact ⟨i + 1, by have := HIK.out; have := HLT.out; omega, by go_num, fun x hx => by
          rw [take_succT HX.out] at hx
          rcases List.mem_append.1 hx with hx | hx
          · exact HOK.out x hx
          · simp at hx; subst hx; rfl, HB1.out⟩
    · have hj2 : decide ((i : Int) < (T.length : Int)) = false := decide_eq_false (by omega)
      have HF := Lib.hid (show FreeP T (-1) from .inl ⟨rfl, fun x hx => HOK.out x (by rw [List.take_of_length_le (by omega)]; exact hx)⟩)
      go_wp2_with fail
      go_ret
      exact ⟨_, rfl, HF.out, HBW.out⟩

set_option maxRecDepth 1000000 in
set_option maxHeartbeats 8000000 in
theorem take_no {w : World} {v : Value} {T : List So} (hv : Sl slK w v T) (hn : FreeP T (-1)) :
    Calls Tryz.prog 22 #[v] w fun e w' => e = .returned (.tuple #[v, .int .i64 0, .bool false]) ∧ Below w.heap.size w w' := by
  have HI := Lib.hid (idxS_any hv)
  have HN := Lib.hid hn
  clear hv hn
  go_enter Tryz.func22, Tryz.ntmps22
  go_wp2_with fail
  go_at_call 60
  refine HI.out.mono ?_
  rintro e w1 ⟨z, rfl, hz, hb⟩
  obtain rfl := hz.one HN.out
  have HB := Lib.hid hb
  clear hz hb
  go_wp2_with fail
  go_ret3
  exact ⟨rfl, HB.out⟩

theorem slK_set {T : List So} {j : Nat} {x y : So} (h : T[j]? = some x) : slK.flat (T.set j y) = ((slK.flat T).set (j * 2) (.int .i64 y.1)).set (j * 2 + 1) (.bool y.2) := by
  have e : ∀ (z : So) q, slK.flat (z :: q) = .int .i64 z.1 :: .bool z.2 :: slK.flat q := fun _ _ => rfl
  induction T generalizing j with
  | nil => simp at h
  | cons z r ih =>
    cases j with
    | zero => rfl
    | succ k =>
      rw [List.set_cons_succ, e, e, ih (by simpa using h), show (k + 1) * 2 = k * 2 + 1 + 1 by omega]
      rfl
theorem slK_set1 {T : List So} {j : Nat} {g : Int} {u : Bool} (h : T[j]? = some (g, u)) (u' : Bool) : slK.flat (T.set j (g, u')) = (slK.flat T).set (j * 2 + 1) (.bool u') := by
  rw [slK_set h]
  congr 1
  have h0 := flat_at (S := slK) h 0 (by decide)
  obtain ⟨hl, he⟩ := List.getElem?_eq_some_iff.1 (show (slK.flat T)[j * 2]? = some (.int .i64 g) from h0)
  show (slK.flat T).set (j * 2) (.int .i64 g) = _
  rw [← he, List.set_getElem_self]
theorem own_used {w : World} {base a n cap : Nat} {Ty : TypeId} {T : List So} (h : Own slK w base Ty (.slice (some ⟨a, 0, none⟩) n cap) T) {j : Nat} {g : Int} {u : Bool} (hj : T[j]? = some (g, u)) (u' : Bool) :
    Own slK (w.setCell ⟨a, j * 2 + 1, none⟩ (.bool u')) base Ty (.slice (some ⟨a, 0, none⟩) n cap) (T.set j (g, u')) := by
  have hl := (List.getElem?_eq_some_iff.1 hj).1
  unfold Own
  rw [slK_set1 hj, List.length_set]
  exact row_set h (by show j * 2 + 1 < T.length * 2; omega) _
theorem own_put {w : World} {base a n cap : Nat} {Ty : TypeId} {T : List So} (h : Own slK w base Ty (.slice (some ⟨a, 0, none⟩) n cap) T) {j : Nat} {x : So} (hj : T[j]? = some x) (y : So) :
    Own slK ((w.setCell ⟨a, j * 2, none⟩ (.int .i64 y.1)).setCell ⟨a, j * 2 + 1, none⟩ (.bool y.2)) base Ty (.slice (some ⟨a, 0, none⟩) n cap) (T.set j y) := by
  have hl := (List.getElem?_eq_some_iff.1 hj).1
  unfold Own
  rw [slK_set hj, List.length_set]
  exact row_set (row_set h (by show j * 2 < T.length * 2; omega) _) (by show j * 2 + 1 < T.length * 2; omega) _
theorem own_some {w : World} {base : Nat} {Ty : TypeId} {v : Value} {T : List So} (h : Own slK w base Ty v T) (h0 : 0 < T.length) : ∃ a cap, v = .slice (some ⟨a, 0, none⟩) T.length cap ∧ base ≤ a ∧ a < w.heap.size ∧ T.length ≤ cap ∧ cap ≤ 9223372036854775807 := by
  rcases h.form with ⟨rfl, _⟩ | ⟨a, cap, h1, h2, h3, h4, h5⟩
  · simp at h0
  · exact ⟨a, cap, h1, h2, h3, h4, h5⟩

set_option maxRecDepth 1000000 in
set_option maxHeartbeats 8000000 in
theorem take_yes {w : World} {v : Value} {T : List So} {j : Nat} {g : Int} (hv : Sl slK w v T) (hn : FreeP T j) (hj : T[j]? = some (g, false)) (hl : T.length ≤ 64) (hg : 0 ≤ g ∧ g ≤ 100000) :
    Calls Tryz.prog 22 #[v] w fun e w' => ∃ v', e = .returned (.tuple #[v', .int .i64 ((j : Int) + 64 * g), .bool true]) ∧ Own slK w' w.heap.size 125 v' (T.set j (g, true)) ∧ Below w.heap.size w w' := by
  have HI := Lib.hid (idxS_any hv)
  have HV := Lib.hid hv
  have HN := Lib.hid hn
  have hjl := (List.getElem?_eq_some_iff.1 hj).1
  have HJ := Lib.hid hj
  obtain ⟨ao, cap, rfl, _⟩ := hv.form
  obtain ⟨b, off, rfl, hbl, q⟩ := hv.at hj
  have HQ := Lib.hid q
  have hj0 : (0 : Int) ≤ (j : Int) := Int.natCast_nonneg _
  have hj1 : (j : Int) < (T.length : Int) := by omega
  have hw1 : IntKind.i64.wrap (64 * g) = 64 * g := by rw [IntKind.wrap_i64]; omega
  have hw2 : IntKind.i64.wrap ((j : Int) + 64 * g) = (j : Int) + 64 * g := by rw [IntKind.wrap_i64]; omega
  clear hv hn hj q hg hjl
  go_enter Tryz.func22, Tryz.ntmps22
  go_wp2_with fail
  go_at_call 60
  refine HI.out.mono ?_
  rintro e w1 ⟨z, rfl, hz, hb⟩
  obtain rfl := hz.one HN.out
  have HB := Lib.hid hb
  clear hz hb
  go_wp2_with fail
  go_at_call 62
  refine (cloneT_any (HV.out.below HB.out) (by omega)).mono ?_
  rintro e w2 ⟨v', rfl, ho, hb⟩
  obtain ⟨a, cap', rfl, ha0, ha1, _, _⟩ := own_some ho (by omega)
  have HO := Lib.hid ho
  have hab := Nat.lt_of_lt_of_le hbl HB.out.size
  have hne : b ≠ a := by omega
  have hne' : a ≠ b := by omega
  have HB2 := Lib.hid (HB.out.trans (hb.mono HB.out.size))
  obtain ⟨c0, c1⟩ := at2 (ho.at HJ.out)
  have cf := ho.free (j * 2 + 1)
  obtain ⟨d0, d1⟩ := at2 ((HQ.out.below HB.out hbl).below hb hab)
  simp only [slK_k] at c0 c1 d0 d1
  clear ho hb d1 c0
  go_wp2_with fail
  go_quiet (fail)
  go_wp2_with fail
  go_ret3
  exact ⟨_, rfl, (own_used (HO.out.mono HB.out.size) HJ.out true).draw _, below_drewN (HB2.out.setCell (p := ⟨a, j * 2 + 1, none⟩) (by have := HB.out.size; show w.heap.size ≤ a; omega) _) _⟩
end Go.Proofs.YtaifomnoecbohaaGreatDoor.Tb
