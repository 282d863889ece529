/-
  PACKAGE clock: number: of whatever keys: which one it is, of those that were asked for.
-/
import Derived.Test.YtmggnalobfihnaaMemMap
import Derived.Test.YtmggnalobfihnaaCkMeet
import Derived.DeepKeys4
import Derived.Maps.OwnSet
namespace Go.Proofs.Ytmggnalobfihnaa.Ck
open Go.RowKit Rw Mm Go.Maps Pk
set_option linter.unusedVariables false

abbrev MI : TypeId := 111
abbrev MTh : TypeId := 112
theorem plain_int {x : Int} (h : I64 x) : plainElem (H := Unit) Try.prog 3 (.int .i64 x) = some (.lit (.int .i64 x), []) := plainElem_int Try.underlying3 h.wf
theorem zero_int (w : World) : (zeroValue 3).run Try.prog w = .ok (.int .i64 0) w := by kernel_rfl
/-- Map b numbers the keys of l. -/
def Nums {κ : Type} [DecidableEq κ] (kt : TypeId) (key : κ → Value) (w : World) (b n : Nat) (l : List κ) : Prop :=
  ∃ D : DataW Unit, w.ownsMap Try.prog kt (plainElem Try.prog 3) b n D ∧ Maps.size D = l.length ∧ ∀ x kl, keyOf Try.prog kt (key x) = some kl → (¬ x ∈ l → Maps.has D kl = false) ∧ (x ∈ l → Maps.has D kl = true ∧ D.atKey kl (.lit (.int .i64 0)) = .lit (.int .i64 (idx l x)))
section
variable {κ : Type} [DecidableEq κ] {kt : TypeId} {key : κ → Value} {w w' : World} {b n : Nat} {l : List κ}
theorem Nums.of_block (h : Nums kt key w b n l) (hb : w'.heap[b]? = w.heap[b]?) : Nums kt key w' b n l := by
  obtain ⟨D, ⟨es, clock, h1, h2⟩, h3⟩ := h
  exact ⟨D, ⟨es, clock, hb.trans h1, h2⟩, h3⟩
theorem Nums.lt (h : Nums kt key w b n l) : b < w.heap.size := by obtain ⟨D, h, _⟩ := h; exact h.lt
theorem nums_made (hb : w.heap[b]? = some (.map #[] 0)) : Nums kt key w b 0 ([] : List κ) := by
  have h0 := World.ownsMap_made w Try.prog kt (plainElem (H := Unit) Try.prog 3)
  obtain ⟨es, clock, h1, h2⟩ := h0
  have h1' : some (Obj.map #[] 0) = some (.map es clock) := by rw [← h1]; exact (heap_alloc_new w (.map #[] 0)).symm
  cases h1'
  exact ⟨_, ⟨#[], 0, hb, h2⟩, rfl, fun x kl _ => ⟨fun _ => rfl, fun h => by simp at h⟩⟩
theorem nums_put {D : DataW Unit} (K : Keyed Try.prog kt) (hinj : ∀ x y : κ, key x = key y → x = y) (ht : Tidy D) (hsz : Maps.size D = l.length) (hD : ∀ x kl, keyOf Try.prog kt (key x) = some kl → (¬ x ∈ l → Maps.has D kl = false) ∧ (x ∈ l → Maps.has D kl = true ∧ D.atKey kl (.lit (.int .i64 0)) = .lit (.int .i64 (idx l x))))
    {x : κ} {kl : Lit} (hk : keyOf Try.prog kt (key x) = some kl) (hx : ¬ x ∈ l) (hm : w'.ownsMap Try.prog kt (plainElem Try.prog 3) b n (D.put kl (.lit (.int .i64 (l.length : Int))))) : Nums kt key w' b n (ins l x) := by
  have hl := K.key hk
  have hh : Maps.has D kl = false := (hD x kl hk).1 hx
  refine ⟨_, hm, ?_, fun y ky hy => ?_⟩
  · rw [Maps.size_put ht, hh, ins_no hx]; simp [hsz]
  · by_cases e : y = x
    · subst e
      rw [hk] at hy; cases hy
      exact ⟨fun h => absurd mem_ins h, fun _ => ⟨Maps.has_put_same ht.isMap hl _, by rw [Maps.atKey_put_same ht.isMap hl, idx_new hx]⟩⟩
    · have hne : ky ≠ kl := fun he => e (hinj _ _ (K.inj hy (by rw [he]; exact hk)))
      obtain ⟨q1, q2⟩ := hD y ky hy
      refine ⟨fun hm => by rw [Maps.has_put_other hne]; exact q1 (fun h => hm (mem_ins_of h)), fun hm => ?_⟩
      have hyl : y ∈ l := by rw [ins_no hx] at hm; simpa [e] using hm
      rw [Maps.has_put_other hne, Maps.atKey_put_other hne, idx_ins hyl]
      exact q2 hyl
end

/-! ### the keys -/
def keyN (x : Int) : Value := .int .i64 x
def keyT (x : Int × Int) : Value := .agg #[.int .i64 x.1, .int .i64 x.2]
theorem keyN_inj (x y : Int) (h : keyN x = keyN y) : x = y := by unfold keyN at h; simpa using h
theorem keyT_inj (x y : Int × Int) (h : keyT x = keyT y) : x = y := by
  unfold keyT at h
  simp at h
  exact Prod.ext h.1 h.2
theorem wideT : (match Try.prog.underlying 117 with | some (.array _ _) | some (.struct _) => true | _ => false) = true := by rw [Try.underlying117]
theorem laidT : laidOutB Try.prog = true := by kernel_rfl
set_option maxRecDepth 1000000 in
theorem keyedT : Keyed Try.prog 117 := Keyed.of_law (deep_law_laid laidT (m := 2) (by omega) (of_decide_eq_true (by kernel_rfl)) (by kernel_rfl) wideT)
theorem cellsT : Try.prog.cellsOf 117 = 2 := by kernel_rfl
theorem cellsI1 : Try.prog.cellsOf 3 = 1 := by kernel_rfl
theorem ktT : Try.prog.keyType 117 = true := by kernel_rfl
theorem szT : ∃ m, Try.prog.types.size = m + 1 := by
  have h : 0 < Try.prog.types.size := of_decide_eq_true (by kernel_rfl)
  exact ⟨Try.prog.types.size - 1, by omega⟩
theorem keyT_mk (x : Int × Int) (h1 : I64 x.1) (h2 : I64 x.2) : ∃ kl, keyOf Try.prog 117 (keyT x) = some kl := by
  obtain ⟨m, hm⟩ := szT
  have w1 := h1.wf
  have w2 := h2.wf
  refine ⟨.string (keyBytes [.int .i64 x.1, .int .i64 x.2]), ?_⟩
  unfold keyOf keyT
  simp only [Try.underlying117]
  rw [if_pos (by simp [ktT, Value.formed, Try.underlying117, cellsT]), hm]
  unfold Program.keyLits
  simp only [Try.underlying117, Value.cells]
  rw [if_pos ⟨by rw [cellsT]; rfl, by first | rfl | simp | decide +kernel⟩, List.mapM_cons, List.mapM_cons, List.mapM_nil]
  simp [cellsI1, Program.keyLits, Try.underlying3, w1, w2]

/-! ### number -/
def TurnedP (w : World) (b : Nat) (w' : World) : Prop := w.heap.size ≤ w'.heap.size ∧ Below 0 w w' ∧ ∀ i, i < w.heap.size → i ≠ b → w'.heap[i]? = w.heap[i]?
theorem TurnedP.of {w w' : World} {b : Nat} (h : w.mapTurned w' b) : TurnedP w b w' := by
  have hg := h.grown
  exact ⟨hg.size, (Below.refl 0 w).grown hg (Nat.zero_le _) (fun _ _ => Nat.zero_le _), fun i hi hn => hg.block i hi (fun e => hn (Option.some.inj e))⟩
theorem TurnedP.refl (w : World) (b : Nat) : TurnedP w b w := ⟨Nat.le_refl _, Below.refl _ _, fun _ _ _ => rfl⟩
theorem TurnedP.trans {w w' w'' : World} {b : Nat} (h : TurnedP w b w') (k : TurnedP w' b w'') : TurnedP w b w'' := ⟨Nat.le_trans h.1 k.1, h.2.1.trans k.2.1, fun i hi hn => (k.2.2 i (Nat.lt_of_lt_of_le hi h.1) hn).trans (h.2.2 i hi hn)⟩
theorem TurnedP.of_below {w w' : World} {b : Nat} (h : Below w.heap.size w w') : TurnedP w b w' := ⟨h.size, h.mono (Nat.zero_le _), fun i hi _ => h.block i hi⟩
theorem TurnedP.below {w w' : World} {b B : Nat} (h : TurnedP w b w') (hB : B ≤ w.heap.size) (hb : B ≤ b) : Below B w w' := ⟨h.2.1.os, h.2.1.tape, h.2.1.output, h.2.1.size, fun k hk => h.2.2 k (by omega) (by omega)⟩
def NumQ {κ : Type} [DecidableEq κ] (kt : TypeId) (key : κ → Value) (w : World) (b n : Nat) (l : List κ) (x : κ) (e : Ending) (w' : World) : Prop := e = .returned (.int .i64 (idx (ins l x) x : Int)) ∧ Nums kt key w' b (n + 1) (ins l x) ∧ TurnedP w b w'
theorem ret_i {a b : Int} (h : a = b) : Ending.returned (.int .i64 a) = .returned (.int .i64 b) := by rw [h]
theorem Nums.more {κ : Type} [DecidableEq κ] {kt : TypeId} {key : κ → Value} {w : World} {b n n' : Nat} {l : List κ} (h : Nums kt key w b n l) (hn : n ≤ n') : Nums kt key w b n' l := by
  obtain ⟨D, h1, h2⟩ := h
  exact ⟨D, h1.mono hn, h2⟩
theorem lit_inj {a b : Int} (h : (DataW.lit (.int .i64 a) : DataW Unit) = .lit (.int .i64 b)) : a = b := by simpa using h
theorem numI_facts {w : World} {b n : Nat} {l : List Int} (hN : Nums 3 keyN w b n l) (hn : n ≤ 100000) (x : Int) (hx : I64 x) :
    (x ∈ l ∧ (Instr.lookup MI (.map (some b)) (.int .i64 x) true).run Try.prog w = .ok (.tuple #[.int .i64 (idx l x : Int), .bool true]) w) ∨
    (¬ x ∈ l ∧ (∃ c, (Instr.lookup MI (.map (some b)) (.int .i64 x) true).run Try.prog w = .ok (.tuple #[.int .i64 c, .bool false]) w) ∧ (∀ ty, (Builtin.len_ #[MI] ty #[.map (some b)]).run Try.prog w = .ok (.int .i64 (l.length : Int)) w) ∧
      ∃ w', (Instr.mapUpdate MI (.map (some b)) (.int .i64 x) (.int .i64 (l.length : Int))).run Try.prog w = .ok () w' ∧ NumQ 3 keyN w b n l x (.returned (.int .i64 (l.length : Int))) w') := by
  obtain ⟨D, hown, hsz, hD⟩ := id hN
  have hkey := keyI_mk hx
  obtain ⟨h1, h2⟩ := hD x _ hkey
  have hsl := hown.size_le
  have hnm : n < maxLen := by unfold maxLen; omega
  obtain ⟨v, ps, hrun, hv⟩ := hown.look_ok keyI Try.underlying111 (zero_int w) (plain_int (x := 0) ⟨by decide, by decide⟩) hkey
  obtain ⟨c, rfl, hc, hwc⟩ := plainElem_int_inv Try.underlying3 hv
  have hc' := congrArg Prod.fst hc
  simp only at hc'
  by_cases hm : x ∈ l
  · rw [(h2 hm).1] at hrun
    rw [(h2 hm).2] at hc'
    have : c = (idx l x : Int) := (lit_inj hc').symm
    rw [this] at hrun
    exact .inl ⟨hm, hrun⟩
  · rw [h1 hm] at hrun
    have hll : l.length ≤ n := by omega
    obtain ⟨w', hu, ho, ht⟩ := hown.store keyI Try.underlying111 hnm hkey (plain_int (x := (l.length : Int)) ⟨by omega, by omega⟩)
    refine .inr ⟨hm, ⟨c, hrun⟩, fun ty => by rw [← hsz]; exact hown.len Try.underlying111 ty, w', hu, ret_i (by rw [idx_new hm]), nums_put keyI keyN_inj (hown.tidy keyI) hsz hD hkey hm ho, TurnedP.of ht⟩
theorem numT_facts {w : World} {b n : Nat} {l : List (Int × Int)} (hN : Nums 117 keyT w b n l) (hn : n ≤ 100000) (x : (Int × Int)) (hx1 : I64 x.1) (hx2 : I64 x.2) :
    (x ∈ l ∧ (Instr.lookup MTh (.map (some b)) (.agg #[.int .i64 x.1, .int .i64 x.2]) true).run Try.prog w = .ok (.tuple #[.int .i64 (idx l x : Int), .bool true]) w) ∨
    (¬ x ∈ l ∧ (∃ c, (Instr.lookup MTh (.map (some b)) (.agg #[.int .i64 x.1, .int .i64 x.2]) true).run Try.prog w = .ok (.tuple #[.int .i64 c, .bool false]) w) ∧ (∀ ty, (Builtin.len_ #[MTh] ty #[.map (some b)]).run Try.prog w = .ok (.int .i64 (l.length : Int)) w) ∧
      ∃ w', (Instr.mapUpdate MTh (.map (some b)) (.agg #[.int .i64 x.1, .int .i64 x.2]) (.int .i64 (l.length : Int))).run Try.prog w = .ok () w' ∧ NumQ 117 keyT w b n l x (.returned (.int .i64 (l.length : Int))) w') := by
  obtain ⟨D, hown, hsz, hD⟩ := id hN
  obtain ⟨kl, hkey⟩ := keyT_mk x hx1 hx2
  obtain ⟨h1, h2⟩ := hD x _ hkey
  have hsl := hown.size_le
  have hnm : n < maxLen := by unfold maxLen; omega
  obtain ⟨v, ps, hrun, hv⟩ := hown.look_ok keyedT Try.underlying112 (zero_int w) (plain_int (x := 0) ⟨by decide, by decide⟩) hkey
  obtain ⟨c, rfl, hc, hwc⟩ := plainElem_int_inv Try.underlying3 hv
  have hc' := congrArg Prod.fst hc
  simp only at hc'
  by_cases hm : x ∈ l
  · rw [(h2 hm).1] at hrun
    rw [(h2 hm).2] at hc'
    have : c = (idx l x : Int) := (lit_inj hc').symm
    rw [this] at hrun
    exact .inl ⟨hm, hrun⟩
  · rw [h1 hm] at hrun
    have hll : l.length ≤ n := by omega
    obtain ⟨w', hu, ho, ht⟩ := hown.store keyedT Try.underlying112 hnm hkey (plain_int (x := (l.length : Int)) ⟨by omega, by omega⟩)
    refine .inr ⟨hm, ⟨c, hrun⟩, fun ty => by rw [← hsz]; exact hown.len Try.underlying112 ty, w', hu, ret_i (by rw [idx_new hm]), nums_put keyedT keyT_inj (hown.tidy keyedT) hsz hD hkey hm ho, TurnedP.of ht⟩
set_option maxRecDepth 1000000 in
set_option maxHeartbeats 4000000 in
theorem numI_any {w : World} {b n : Nat} {l : List Int} (hN : Nums 3 keyN w b n l) (hn : n ≤ 100000) (x : Int) (hx : I64 x) :
    Calls Try.prog 55 #[.map (some b), .int .i64 x] w (NumQ 3 keyN w b n l x) := by
  rcases numI_facts hN hn x hx with ⟨hm, hL⟩ | ⟨hm, ⟨c, hL⟩, hlen, w', hU, hQ⟩
  · have HINS := Lib.hid (ins_yes hm)
    have HN' := Lib.hid (hN.more (Nat.le_succ n))
    clear hm hN
    go_enter Try.func55, Try.ntmps55
    go_wp2_with fail
    go_ret
    exact ⟨ret_i (by rw [HINS.out]), by rw [HINS.out]; exact HN'.out, TurnedP.refl _ _⟩
  · have HQ := Lib.hid hQ
    clear hm hN hQ
    go_enter Try.func55, Try.ntmps55
    go_wp2_with fail
    go_ret
    exact HQ.out
set_option maxRecDepth 1000000 in
set_option maxHeartbeats 4000000 in
theorem numT_any {w0 : World} {b n : Nat} {l : List (Int × Int)} (hN0 : Nums 117 keyT w0 b n l) (hn : n ≤ 100000) (x : Int × Int) (hx1 : I64 x.1) (hx2 : I64 x.2) :
    Calls Try.prog 56 #[.map (some b), .agg #[.int .i64 x.1, .int .i64 x.2]] w0 (NumQ 117 keyT w0 b n l x) := by
  have hbl : Below w0.heap.size w0 (w0.alloc (.cells #[.int .i64 x.1, .int .i64 x.2] 117)) := (Below.refl _ _).alloc (Nat.le_refl _) _
  have hN := hN0.of_block (w' := w0.alloc (.cells #[.int .i64 x.1, .int .i64 x.2] 117)) (hbl.block b hN0.lt)
  have HBL : Hid (TurnedP w0 b (w0.alloc (.cells #[.int .i64 x.1, .int .i64 x.2] 117))) := Lib.hid (TurnedP.of_below hbl)
  rcases numT_facts hN hn x hx1 hx2 with ⟨hm, hL⟩ | ⟨hm, ⟨c, hL⟩, hlen, w', hU, hQ⟩
  · have HINS := Lib.hid (ins_yes hm)
    have HN' := Lib.hid (hN.more (Nat.le_succ n))
    clear hm hN hN0 hbl
    go_enter Try.func56, Try.ntmps56
    go_wp2_with fail
    go_ret
    exact ⟨ret_i (by rw [HINS.out]), by rw [HINS.out]; exact HN'.out, HBL.out⟩
  · have HQ := Lib.hid hQ
    clear hm hN hQ hN0 hbl
    go_enter Try.func56, Try.ntmps56
    go_wp2_with fail
    go_ret
    obtain ⟨q1, q2, q3⟩ := HQ.out
    exact ⟨q1, q2, HBL.out.trans q3⟩
end Go.Proofs.Ytmggnalobfihnaa.Ck
