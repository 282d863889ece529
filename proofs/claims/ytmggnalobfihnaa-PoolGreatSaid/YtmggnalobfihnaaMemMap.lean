/-
  PACKAGE mem: who sleeps: a map of the call's own; and the methods that only look: there, may, has, Time, Asleep, Holder.
-/
import Derived.Test.YtmggnalobfihnaaJoined2
namespace Go.Proofs.Ytmggnalobfihnaa.Mm
open Go.RowKit Rw Pk Go.Maps
set_option linter.unusedVariables false

abbrev MT : TypeId := 85
theorem keyI : Keyed Try.prog 3 := int_keyed Try.underlying3
theorem I64.wf {x : Int} (h : I64 x) : (Lit.int .i64 x).wf = true := by
  have h1 : IntKind.i64.min = -9223372036854775808 := rfl
  have h2 : IntKind.i64.max = 9223372036854775807 := rfl
  simp only [Lit.wf, Bool.and_eq_true, decide_eq_true_eq, h1, h2]
  exact h
theorem keyI_mk {x : Int} (h : I64 x) : keyOf Try.prog 3 (.int .i64 x) = some (.int .i64 x) := keyOf_int_mk Try.underlying3 h.wf
theorem zero_bool (w : World) : (zeroValue 4).run Try.prog w = .ok (.bool false) w := by kernel_rfl
theorem plain_bool (x : Bool) : plainElem (H := Unit) Try.prog 4 (.bool x) = some (.lit (.bool x), []) := plainElem_bool Try.underlying4 x
theorem plain_inv {P : Program} {e : TypeId} (he : P.underlying e = some .bool) {v : Value} {x : Bool} {ps : List MemPlace} (h : plainElem (H := Unit) P e v = some (.lit (.bool x), ps)) : v = .bool x := by
  unfold plainElem at h
  rw [he] at h
  cases v <;> simp at h
  rw [h.1]
theorem plain_bool_inv {v : Value} {x : Bool} {ps : List MemPlace} (h : plainElem (H := Unit) Try.prog 4 v = some (.lit (.bool x), ps)) : v = .bool x := plain_inv Try.underlying4 h
theorem MapAs.look {w : World} {mb n : Nat} {sp : Int → Bool} (h : MapAs w mb n sp) {who : Int} (hw : I64 who) : (Instr.lookup MT (.map (some mb)) (.int .i64 who) false).run Try.prog w = .ok (.bool (sp who)) w := by
  obtain ⟨D, h1, h2⟩ := h
  obtain ⟨v, ps, hrun, hv⟩ := h1.lookup keyI Try.underlying85 (zero_bool w) (plain_bool false) (keyI_mk hw)
  rw [h2] at hv
  rw [plain_bool_inv hv] at hrun
  exact hrun
def putB (sp : Int → Bool) (who : Int) (x : Bool) : Int → Bool := fun i => if i = who then x else sp i
theorem isKeyI (x : Int) : WideAt.IsKeyLit (.int .i64 x) := by first | exact trivial | (unfold WideAt.IsKeyLit; simp) | simp [WideAt.IsKeyLit]
theorem mapAs_put {mb n : Nat} {sp : Int → Bool} {D : DataW Unit} (h2 : ∀ i, D.atKey (.int .i64 i) (.lit (.bool false)) = .lit (.bool (sp i))) (hm : IsMap D) {w' : World} (who : Int)
    (h : w'.ownsMap Try.prog 3 (plainElem Try.prog 4) mb n (D.put (.int .i64 who) (.lit (.bool true)))) : MapAs w' mb n (putB sp who true) := by
  refine ⟨_, h, fun i => ?_⟩
  unfold putB
  by_cases e : i = who
  · subst e
    rw [if_pos rfl]
    exact atKey_put_same hm (isKeyI i) _ _
  · rw [if_neg e, atKey_put_other (by intro he; injection he; contradiction)]
    exact h2 i
theorem mapAs_del {mb n : Nat} {sp : Int → Bool} {D : DataW Unit} (h2 : ∀ i, D.atKey (.int .i64 i) (.lit (.bool false)) = .lit (.bool (sp i))) {w' : World} (who : Int)
    (h : w'.ownsMap Try.prog 3 (plainElem Try.prog 4) mb n (D.del (.int .i64 who))) : MapAs w' mb n (putB sp who false) := by
  refine ⟨_, h, fun i => ?_⟩
  unfold putB
  by_cases e : i = who
  · subst e
    rw [if_pos rfl]
    exact atKey_del_same _
  · rw [if_neg e, atKey_del_other (by intro he; injection he; contradiction)]
    exact h2 i

/-! ### the methods that only look -/
def cnt (M : St) (kind : Int) : Nat := if kind = 0 ∨ kind = 1 then M.ws.length else if kind = 2 ∨ kind = 3 then M.bs.length else M.ls.length
def thB (M : St) (kind at' : Int) : Bool := decide (0 ≤ at') && decide (at' < (cnt M kind : Int))
def mayB (M : St) (who kind at' : Int) : Bool := thB M kind at' && (decide (0 ≤ who) && !M.sp who)
theorem five {w : World} {b : Nat} {v0 v1 v2 v3 v4 : Value} {T : TypeId} (h : w.heap[b]? = some (.cells #[v0, v1, v2, v3, v4] T (0, 0))) :
    w.cell? ⟨b, 0, none⟩ = some v0 ∧ w.cell? ⟨b, 1, none⟩ = some v1 ∧ w.cell? ⟨b, 2, none⟩ = some v2 ∧ w.cell? ⟨b, 3, none⟩ = some v3 ∧ w.cell? ⟨b, 4, none⟩ = some v4 ∧ ∀ o, w.frozen? ⟨b, o, none⟩ = false := by
  simp [World.cell?, World.frozen?, h]
theorem row_form {α : Type} {S : Kd α} {w : World} {τ : Nat → Nat} {t : Nat} {T : TypeId} {v : Value} {l : List α} (h : Row S w τ t T v l) : ∃ ao cap, v = .slice ao l.length cap := h.1.form2
def Bnd (M : St) : Prop := M.ws.length ≤ 65536 ∧ M.bs.length ≤ 65536 ∧ M.ls.length ≤ 65536 ∧ M.lg.length ≤ 1000000 ∧ M.nb ≤ 1000000

set_option maxRecDepth 1000000 in
set_option maxHeartbeats 8000000 in
theorem there_any {w : World} {τ : Nat → Nat} {b : Nat} {M : St} (hM : MemAt τ w b M) (hB : Bnd M) (kind at' : Int) (hk : 0 ≤ kind ∧ kind ≤ 7) (ha : I64 at') :
    Calls Try.prog 44 #[.pointer (some ⟨b, 0, none⟩), .int .i64 kind, .int .i64 at'] w fun e w' => e = .returned (.bool (thB M kind at')) ∧ w = w' := by
  obtain ⟨V, hV⟩ := hM
  obtain ⟨c0, c1, c2, _, _, _⟩ := five hV.st
  obtain ⟨ao0, cap0, hv0⟩ := row_form hV.ws
  obtain ⟨ao1, cap1, hv1⟩ := row_form hV.bs
  obtain ⟨ao2, cap2, hv2⟩ := row_form hV.ls
  rw [hv0] at c0
  rw [hv1, hV.bl] at c1
  rw [hv2, hV.ll] at c2
  obtain ⟨hb0, hb1, hb2, _, _⟩ := hB
  obtain ⟨hk0, hk7⟩ := hk
  obtain ⟨ha0, ha1⟩ := ha
  clear hv0 hv1 hv2 hV
  by_cases hn : at' < 0
  · have HR : Hid (thB M kind at' = false) := Lib.hid (by unfold thB; rw [decide_eq_false (by omega)]; rfl)
    go_enter Try.func44, Try.ntmps44
    go_wp2_with fail
    go_ret
    exact ⟨pbool HR.out.symm, rfl⟩
  have hn' : decide (at' < 0) = false := decide_eq_false hn
  by_cases h1 : kind = 0 ∨ kind = 1
  · have HR : Hid (thB M kind at' = decide (at' < (M.ws.length : Int))) := Lib.hid (by unfold thB cnt; rw [decide_eq_true (show 0 ≤ at' by omega), if_pos h1]; rfl)
    rcases h1 with rfl | rfl
    all_goals
      go_enter Try.func44, Try.ntmps44
      go_wp2_with fail
      go_ret
      exact ⟨pbool HR.out.symm, rfl⟩
  by_cases h2 : kind = 2 ∨ kind = 3
  · have HR : Hid (thB M kind at' = decide (at' < (M.bs.length : Int))) := Lib.hid (by unfold thB cnt; rw [decide_eq_true (show 0 ≤ at' by omega), if_neg h1, if_pos h2]; rfl)
    rcases h2 with rfl | rfl
    all_goals
      clear h1
      go_enter Try.func44, Try.ntmps44
      go_wp2_with fail
      go_ret
      exact ⟨pbool HR.out.symm, rfl⟩
  · have HR : Hid (thB M kind at' = decide (at' < (M.ls.length : Int))) := Lib.hid (by unfold thB cnt; rw [decide_eq_true (show 0 ≤ at' by omega), if_neg h1, if_neg h2]; rfl)
    have hk8 : kind = 4 ∨ kind = 5 ∨ kind = 6 ∨ kind = 7 := by omega
    clear h1 h2 hk0 hk7
    rcases hk8 with rfl | rfl | rfl | rfl
    all_goals
      go_enter Try.func44, Try.ntmps44
      go_wp2_with fail
      go_ret
      exact ⟨pbool HR.out.symm, rfl⟩

set_option maxRecDepth 1000000 in
set_option maxHeartbeats 8000000 in
theorem may_any {w : World} {τ : Nat → Nat} {b : Nat} {M : St} (hM : MemAt τ w b M) (hB : Bnd M) (who kind at' : Int) (hk : 0 ≤ kind ∧ kind ≤ 7) (ha : I64 at') (hw : I64 who) :
    Calls Try.prog 63 #[.pointer (some ⟨b, 0, none⟩), .int .i64 who, .int .i64 kind, .int .i64 at'] w fun e w' => e = .returned (.bool (mayB M who kind at')) ∧ w = w' := by
  have HT := Lib.hid (there_any hM hB kind at' hk ha)
  obtain ⟨V, hV⟩ := hM
  obtain ⟨_, _, _, c3, _, _⟩ := five hV.st
  have hlook := hV.mp.look hw
  have HR : Hid (mayB M who kind at' = (thB M kind at' && (decide (0 ≤ who) && !M.sp who))) := Lib.hid rfl
  clear hV hB
  by_cases h1 : thB M kind at' = true
  · rw [h1] at HT HR
    by_cases h2 : 0 ≤ who
    · have h2' : decide (0 ≤ who) = true := decide_eq_true h2
      rw [h2'] at HR
      clear h1 h2'
      go_enter Try.func63, Try.ntmps63
      go_wp2_with fail
      go_at_call 44
      refine HT.out.mono ?_
      rintro e w1 ⟨rfl, rfl⟩
      go_wp2_with fail
      go_ret
      exact ⟨pbool (by rw [HR.out]; simp), rfl⟩
    · have h2' : decide (0 ≤ who) = false := decide_eq_false h2
      rw [h2'] at HR
      clear h1
      go_enter Try.func63, Try.ntmps63
      go_wp2_with fail
      go_at_call 44
      refine HT.out.mono ?_
      rintro e w1 ⟨rfl, rfl⟩
      go_wp2_with fail
      go_ret
      exact ⟨pbool (by rw [HR.out]; simp), rfl⟩
  · have h1' : thB M kind at' = false := by simpa using h1
    rw [h1'] at HT HR
    clear h1 h1'
    go_enter Try.func63, Try.ntmps63
    go_wp2_with fail
    go_at_call 44
    refine HT.out.mono ?_
    rintro e w1 ⟨rfl, rfl⟩
    go_wp2_with fail
    go_ret
    exact ⟨pbool (by rw [HR.out]; simp), rfl⟩

set_option maxRecDepth 1000000 in
set_option maxHeartbeats 8000000 in
theorem asleep_any {w : World} {τ : Nat → Nat} {b : Nat} {M : St} (hM : MemAt τ w b M) (who : Int) (hw : I64 who) :
    Calls Try.prog 34 #[.pointer (some ⟨b, 0, none⟩), .int .i64 who] w fun e w' => e = .returned (.bool (M.sp who)) ∧ w = w' := by
  obtain ⟨V, hV⟩ := hM
  obtain ⟨_, _, _, c3, _, _⟩ := five hV.st
  have hlook := hV.mp.look hw
  clear hV
  go_enter Try.func34, Try.ntmps34
  go_wp2_with fail
  go_ret
  exact ⟨rfl, rfl⟩

set_option maxRecDepth 1000000 in
set_option maxHeartbeats 8000000 in
theorem time_any {w : World} {τ : Nat → Nat} {b : Nat} {M : St} (hM : MemAt τ w b M) :
    Calls Try.prog 12 #[.pointer (some ⟨b, 0, none⟩)] w fun e w' => e = .returned (.int .i64 (M.lg.length : Int)) ∧ w = w' := by
  obtain ⟨V, hV⟩ := hM
  obtain ⟨_, _, _, _, c4, _⟩ := five hV.st
  obtain ⟨ao0, cap0, hv0⟩ := row_form hV.lg
  rw [hv0] at c4
  clear hV hv0
  go_enter Try.func12, Try.ntmps12
  go_wp2_with fail
  go_ret
  exact ⟨rfl, rfl⟩

/-! ### a latch -/
theorem la_at {w : World} {τ : Nat → Nat} {b : Nat} {M : St} {V : Vs} (hV : MemIs τ w b M V) {l : Nat} {L : La} (hL : M.ls[l]? = some L) :
    ∃ (g cap : Nat) (s : Sv), V.vl = .slice (some ⟨g, 0, none⟩) M.ls.length cap ∧ V.lv[l]? = some ⟨L.tk, L.wh, s⟩ ∧ g < w.heap.size ∧ τ g = 4 ∧ w.cell? ⟨g, l * 3, none⟩ = some (.bool L.tk) ∧ w.cell? ⟨g, l * 3 + 1, none⟩ = some (.int .i64 L.wh) ∧ w.cell? ⟨g, l * 3 + 2, none⟩ = some s.val ∧ (∀ o, w.frozen? ⟨g, o, none⟩ = false) ∧ Row intK w τ (8 + l) 3 s.val L.sl := by
  have hl := (List.getElem?_eq_some_iff.1 hL).1
  obtain ⟨x, hx⟩ : ∃ x, V.lv[l]? = some x := ⟨_, List.getElem?_eq_getElem (by rw [hV.ll]; exact hl)⟩
  obtain ⟨h1, h2, h3⟩ := hV.le l x L hx hL
  rcases hV.ls.1.form with ⟨h0, _⟩ | ⟨g, cap, hv, _, hg, _⟩
  · rw [h0] at hx; simp at hx
  have ho := hV.ls.1
  rw [hv] at ho
  have q := ho.at hx
  obtain ⟨tk, wh, s⟩ := x
  obtain rfl := h1
  obtain rfl := h2
  refine ⟨g, cap, s, by rw [hv, hV.ll], hx, hg, hV.ls.2 g (by rw [hv]; rfl), q 0 _ (by decide) rfl, q 1 _ (by decide) rfl, q 2 _ (by decide) rfl, fun o => ho.free o, h3⟩
def hasB (M : St) (who : Int) (L : La) : Bool := L.tk && (L.wh == who)
set_option maxRecDepth 1000000 in
set_option maxHeartbeats 8000000 in
theorem has_any {w : World} {τ : Nat → Nat} {b : Nat} {M : St} (hM : MemAt τ w b M) (hB : Bnd M) (who : Int) {l : Nat} {L : La} (hL : M.ls[l]? = some L) :
    Calls Try.prog 72 #[.pointer (some ⟨b, 0, none⟩), .int .i64 who, .int .i64 (l : Int)] w fun e w' => e = .returned (.bool (hasB M who L)) ∧ w = w' := by
  obtain ⟨V, hV⟩ := hM
  obtain ⟨_, _, c2, _, _, _⟩ := five hV.st
  obtain ⟨g, cap, s, hv, _, _, _, d0, d1, _, _, _⟩ := la_at hV hL
  have hl := (List.getElem?_eq_some_iff.1 hL).1
  obtain ⟨_, _, hb2, _, _⟩ := hB
  rw [hv] at c2
  have hl0 : (0 : Int) ≤ (l : Int) := Int.natCast_nonneg _
  have hl1 : (l : Int) < (M.ls.length : Int) := by omega
  have HR : Hid (hasB M who L = (L.tk && (L.wh == who))) := Lib.hid rfl
  obtain ⟨tk, wh, sl⟩ := L
  simp only at d0 d1
  clear hV hv hL
  cases tk
  all_goals
    go_enter Try.func72, Try.ntmps72
    go_wp2_with fail
    go_ret
    exact ⟨pbool (by rw [HR.out]; simp), rfl⟩
set_option maxRecDepth 1000000 in
set_option maxHeartbeats 8000000 in
theorem holder_any {w : World} {τ : Nat → Nat} {b : Nat} {M : St} (hM : MemAt τ w b M) (hB : Bnd M) (l : Nat) {L : La} (hL : M.ls[l]? = some L) :
    Calls Try.prog 28 #[.pointer (some ⟨b, 0, none⟩), .int .i64 (l : Int)] w fun e w' => e = .returned (.int .i64 (if L.tk then L.wh else -1)) ∧ w = w' := by
  have hl := (List.getElem?_eq_some_iff.1 hL).1
  have hb2 := hB.2.2.1
  have hth : thB M 4 (l : Int) = true := by unfold thB cnt; simp; omega
  have HT := Lib.hid (there_any hM hB 4 (l : Int) (by decide) ⟨by omega, by omega⟩)
  rw [hth] at HT
  obtain ⟨V, hV⟩ := hM
  obtain ⟨_, _, c2, _, _, _⟩ := five hV.st
  obtain ⟨g, cap, s, hv, _, _, _, d0, d1, _, _, _⟩ := la_at hV hL
  rw [hv] at c2
  have hl0 : (0 : Int) ≤ (l : Int) := Int.natCast_nonneg _
  have hl1 : (l : Int) < (M.ls.length : Int) := by omega
  obtain ⟨tk, wh, sl⟩ := L
  simp only at d0 d1
  clear hV hv hL hth hB
  cases tk
  all_goals
    go_enter Try.func28, Try.ntmps28
    go_wp2_with fail
    go_at_call 44
    refine HT.out.mono ?_
    rintro e w1 ⟨rfl, rfl⟩
    go_wp2_with fail
    go_ret
    exact ⟨rfl, rfl⟩
set_option maxRecDepth 1000000 in
set_option maxHeartbeats 8000000 in
theorem holder_no {w : World} {τ : Nat → Nat} {b : Nat} {M : St} (hM : MemAt τ w b M) (hB : Bnd M) (l : Int) (hl : I64 l) (hn : l < 0 ∨ (M.ls.length : Int) ≤ l) :
    Calls Try.prog 28 #[.pointer (some ⟨b, 0, none⟩), .int .i64 l] w fun e w' => e = .returned (.int .i64 (-1)) ∧ w = w' := by
  have hth : thB M 4 l = false := by
    unfold thB cnt
    rcases hn with h | h
    · rw [decide_eq_false (by omega)]; rfl
    · rw [show decide (l < ((if (4 : Int) = 0 ∨ (4 : Int) = 1 then M.ws.length else if (4 : Int) = 2 ∨ (4 : Int) = 3 then M.bs.length else M.ls.length : Nat) : Int)) = false from decide_eq_false (by simp; omega)]; simp
  have HT := Lib.hid (there_any hM hB 4 l (by decide) hl)
  rw [hth] at HT
  clear hth hM hB hn
  go_enter Try.func28, Try.ntmps28
  go_wp2_with fail
  go_at_call 44
  refine HT.out.mono ?_
  rintro e w1 ⟨rfl, rfl⟩
  go_wp2_with fail
  go_ret
  exact ⟨rfl, rfl⟩
end Go.Proofs.Ytmggnalobfihnaa.Mm
