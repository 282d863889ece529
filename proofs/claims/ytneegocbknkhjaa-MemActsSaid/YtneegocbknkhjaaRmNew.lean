/-
  PACKAGE marchlandref08: New, Asleep.
-/
import Derived.Test.YtneegocbknkhjaaRmMem
import Derived.Test.YtneegocbknkhjaaMemNew
namespace Go.Proofs.Ytneegocbknkhjaa.Rm
open Go.RowKit Rw Pk Mm
set_option linter.unusedVariables false

theorem five_r {w : World} {b : Nat} {v0 v1 v2 v3 v4 : Value} {T : TypeId} (h : w.heap[b]? = some (.cells #[v0, v1, v2, v3, v4] T (0, 0))) :
    w.cell? ⟨b, 0, none⟩ = some v0 ∧ w.cell? ⟨b, 1, none⟩ = some v1 ∧ w.cell? ⟨b, 2, none⟩ = some v2 ∧ w.cell? ⟨b, 3, none⟩ = some v3 ∧ w.cell? ⟨b, 4, none⟩ = some v4 ∧ ∀ o, w.frozen? ⟨b, o, none⟩ = false := five h
/-! ### Asleep -/
def inBed (R : Rs) (who : Int) : Bool := R.bd.any (fun x => x.1 == who)
theorem inBed_take {l : List (Int × Int)} {who : Int} {i : Nat} (h : ∀ x ∈ l.take i, x.1 ≠ who) (hi : l.length ≤ i) : l.any (fun x => x.1 == who) = false := by
  rw [List.take_of_length_le hi] at h
  rw [List.any_eq_false]
  intro x hx
  simpa using h x hx
set_option maxRecDepth 1000000 in
set_option maxHeartbeats 8000000 in
theorem rasleep_any {w : World} {τ : Nat → Nat} {b : Nat} {R : Rs} (hR : RefAt τ w b R) (hn : R.bd.length ≤ 1000000) (who : Int) :
    Calls Try.prog 24 #[.pointer (some ⟨b, 0, none⟩), .int .i64 who] w fun e w' => e = .returned (.bool (inBed R who)) ∧ w = w' := by
  obtain ⟨V, hV⟩ := hR
  obtain ⟨_, _, _, c3, _, _⟩ := five_r hV.st
  obtain ⟨ao, cap, hv⟩ := row_form hV.bd
  rw [hv] at c3
  have HD := Lib.hid (show Row pairK w τ 5 94 (.slice ao R.bd.length cap) R.bd by rw [← hv]; exact hV.bd)
  have hlen : (R.bd.length : Int) ≤ 1000000 := by omega
  clear hV hv
  go_enter Try.func24, Try.ntmps24
  go_wp2_with fail
  go_loopg [5] R.bd.length (fun k t wr => ∃ i : Nat, i + k = R.bd.length ∧ t = .int .i64 (i : Int) ∧ w = wr ∧ ∀ x ∈ R.bd.take i, x.1 ≠ who)
  case atStart => exact ⟨0, by omega, rfl, rfl, by simp⟩
  case round =>
    obtain ⟨i, hik, rfl, rfl, hok⟩ := hrel
    have HIK := Lib.hid hik
    have HOK := Lib.hid hok
    have hi0 : (0 : Int) ≤ (i : Int) := Int.natCast_nonneg _
    clear hik hok
    by_cases hlt : i < R.bd.length
    · have hi1 : (i : Int) < (R.bd.length : Int) := by omega
      obtain ⟨x, hx⟩ : ∃ x, R.bd[i]? = some x := ⟨_, List.getElem?_eq_getElem hlt⟩
      obtain ⟨g, cp, hsv, _, _, q, _⟩ := row_at HD.out hx
      have d0 : w.cell? ⟨g, i * 2, none⟩ = some (.int .i64 x.1) := q 0 _ (by decide) rfl
      have HX := Lib.hid hx
      have HLT := Lib.hid hlt
      simp only [Value.slice.injEq] at hsv
      obtain ⟨rfl, _, rfl⟩ := hsv
      obtain ⟨x1, x2⟩ := x
      simp only at d0
      clear hx q hlt
      by_cases he : x1 = who
      · have hb : (x1 == who) = true := by rw [beq_iff_eq]; exact he
        have HF : Hid (inBed R who = true) := Lib.hid (by unfold inBed; rw [List.any_eq_true]; exact ⟨_, List.mem_of_getElem? HX.out, hb⟩)
        clear he
        go_wp2_with fail
        go_ret
        exact ⟨pbool HF.out.symm, rfl⟩
      · have hb : (x1 == who) = false := by rw [beq_eq_false_iff_ne]; exact he
        have HNE := Lib.hid he
        clear he
        go_wp2_with fail
        go_roundg (gk - 1)
        case measure => have := HIK.out; have := HLT.out; omega
        case rel => exact ⟨i + 1, by have := HIK.out; have := HLT.out; omega, by go_num, rfl, fun y hy => by
          rw [take_succM HX.out] at hy
          rcases List.mem_append.1 hy with hy | hy
          · exact HOK.out y hy
          · obtain rfl := List.mem_singleton.1 hy; exact HNE.out⟩
    · have hj2 : decide ((i : Int) < (R.bd.length : Int)) = false := decide_eq_false (by omega)
      have HF : Hid (inBed R who = false) := Lib.hid (inBed_take HOK.out (by omega))
      go_wp2_with fail
      go_ret
      exact ⟨pbool HF.out.symm, rfl⟩
section
variable (w : World) (x1 x2 x3 x4 : Obj)
theorem heap4_1 : (((((w.alloc x1).alloc x2).alloc x3).alloc x4).drew).heap[w.heap.size]? = some x1 := by
  show (((((w.alloc x1).alloc x2).alloc x3).alloc x4)).heap[w.heap.size]? = some x1
  rw [heap_alloc_old (((w.alloc x1).alloc x2).alloc x3) x4 (by simp <;> omega)]
  rw [heap_alloc_old ((w.alloc x1).alloc x2) x3 (by simp <;> omega)]
  rw [heap_alloc_old (w.alloc x1) x2 (by simp <;> omega)]
  have := heap_alloc_new w x1
  simpa using this
theorem heap4_2 : (((((w.alloc x1).alloc x2).alloc x3).alloc x4).drew).heap[w.heap.size + 1]? = some x2 := by
  show (((((w.alloc x1).alloc x2).alloc x3).alloc x4)).heap[w.heap.size + 1]? = some x2
  rw [heap_alloc_old (((w.alloc x1).alloc x2).alloc x3) x4 (by simp <;> omega)]
  rw [heap_alloc_old ((w.alloc x1).alloc x2) x3 (by simp <;> omega)]
  have := heap_alloc_new (w.alloc x1) x2
  simpa using this
theorem heap4_3 : (((((w.alloc x1).alloc x2).alloc x3).alloc x4).drew).heap[w.heap.size + 1 + 1]? = some x3 := by
  show (((((w.alloc x1).alloc x2).alloc x3).alloc x4)).heap[w.heap.size + 1 + 1]? = some x3
  rw [heap_alloc_old (((w.alloc x1).alloc x2).alloc x3) x4 (by simp <;> omega)]
  have := heap_alloc_new ((w.alloc x1).alloc x2) x3
  simpa using this
theorem heap4_4 : (((((w.alloc x1).alloc x2).alloc x3).alloc x4).drew).heap[w.heap.size + 1 + 1 + 1]? = some x4 := by
  show (((((w.alloc x1).alloc x2).alloc x3).alloc x4)).heap[w.heap.size + 1 + 1 + 1]? = some x4
  have := heap_alloc_new (((w.alloc x1).alloc x2).alloc x3) x4
  simpa using this
theorem heap4_s : w.heap.size + 1 + 1 + 1 < (((((w.alloc x1).alloc x2).alloc x3).alloc x4).drew).heap.size := by
  show _ < (((((w.alloc x1).alloc x2).alloc x3).alloc x4)).heap.size
  simp
theorem heap4_b : Below w.heap.size w (((((w.alloc x1).alloc x2).alloc x3).alloc x4).drew) := by
  exact (((((Below.refl _ _).alloc (Nat.le_refl _) _).alloc (by simp) _).alloc (by simp; omega) _).alloc (by simp; omega) _).drew
end

/-! ### New -/
def initR (a b c i : Nat) : Rs := ⟨List.replicate a 0, List.replicate b [], List.replicate i (-1) ++ List.replicate (c - i) 0, [], []⟩
def rTag (i1 i2 i3 p : Nat) : Nat → Nat := fun j => if j = p then 1 else if j = i1 then 2 else if j = i2 then 3 else if j = i3 then 4 else 0
theorem rnew_step {w' : World} {n a b c i1 i2 i3 p : Nat} (hp : p = n + 3) (h1 : n ≤ i1 ∧ i1 < p) (h2 : n ≤ i2 ∧ i2 < p) (h3 : n ≤ i3 ∧ i3 < p) (h12 : i1 ≠ i2) (h13 : i1 ≠ i3) (h23 : i2 ≠ i3)
    (hsz : p < w'.heap.size) (hst : w'.heap[p]? = some (.cells #[.slice (some ⟨i1, 0, none⟩) a a, .slice (some ⟨i2, 0, none⟩) b b, .slice (some ⟨i3, 0, none⟩) c c, .slice none 0 0, .slice none 0 0] 50 (0, 0)))
    (ho1 : Own u64K w' 0 30 (.slice (some ⟨i1, 0, none⟩) a a) (List.replicate a 0)) (ho2 : Own svK w' 0 31 (.slice (some ⟨i2, 0, none⟩) b b) (List.replicate b ⟨none, 0, 0⟩))
    (ho3 : Own intK w' 0 3 (.slice (some ⟨i3, 0, none⟩) c c) (List.replicate c 0)) :
    RefAt (rTag i1 i2 i3 p) w' p (initR a b c 0) ∧ ∀ j, j < n → rTag i1 i2 i3 p j = 0 := by
  have ht1 : rTag i1 i2 i3 p i1 = 2 := by unfold rTag; rw [if_neg (by omega), if_pos rfl]
  have ht2 : rTag i1 i2 i3 p i2 = 3 := by unfold rTag; rw [if_neg (by omega), if_neg (by omega), if_pos rfl]
  have ht3 : rTag i1 i2 i3 p i3 = 4 := by unfold rTag; rw [if_neg (by omega), if_neg (by omega), if_neg (by omega), if_pos rfl]
  have hob : ∀ (g : Nat) (m k : Nat), (Value.slice (some ⟨g, 0, none⟩) m k).ownBlock = some g := fun _ _ _ => rfl
  refine ⟨⟨⟨_, _, _, .slice none 0 0, .slice none 0 0, List.replicate b ⟨none, 0, 0⟩⟩, hst, by unfold rTag; rw [if_pos rfl], ⟨ho1, fun g hg => ?_⟩, ⟨ho2, fun g hg => ?_⟩, ⟨by simpa [initR] using ho3, fun g hg => ?_⟩, ⟨Own.nil (S := pairK) _ _ _, fun g hg => by simp [Value.ownBlock] at hg⟩, ⟨Own.nil (S := evK) _ _ _, fun g hg => by simp [Value.ownBlock] at hg⟩, by simp [initR], fun i s l hs hl => ?_, fun j hj => ?_⟩, fun j hj => ?_⟩
  · rw [← Option.some.inj ((hob i1 a a).symm.trans hg)]; exact ht1
  · rw [← Option.some.inj ((hob i2 b b).symm.trans hg)]; exact ht2
  · rw [← Option.some.inj ((hob i3 c c).symm.trans hg)]; exact ht3
  · have e1 : s = ⟨none, 0, 0⟩ := (List.mem_replicate.1 (List.mem_of_getElem? hs)).2
    have e2 : l = [] := (List.mem_replicate.1 (show l ∈ List.replicate b [] from List.mem_of_getElem? hl)).2
    subst e1 e2
    exact ⟨Own.nil (S := chK) _ _ _, fun g hg => by simp [Value.ownBlock, Sv.val] at hg⟩
  · unfold rTag at hj
    by_cases e0 : j = p
    · omega
    · rw [if_neg e0] at hj
      by_cases e1 : j = i1
      · omega
      · rw [if_neg e1] at hj
        by_cases e2 : j = i2
        · omega
        · rw [if_neg e2] at hj
          by_cases e3 : j = i3
          · omega
          · rw [if_neg e3] at hj; exact absurd rfl hj
  · unfold rTag
    rw [if_neg (by omega), if_neg (by omega), if_neg (by omega), if_neg (by omega)]
def RNewP (a b c i : Nat) (w : World) (v : Value) (w' : World) : Prop := ∃ p τ, v = .pointer (some ⟨p, 0, none⟩) ∧ RefAt τ w' p (initR a b c i) ∧ (∀ j, j < w.heap.size → τ j = 0) ∧ Below w.heap.size w w'
theorem rnewP_of {w W : World} {a b c p i1 i2 i3 : Nat} {o1 o2 o3 : Obj} (n1 : ∀ (w' : World) (g : Nat), w'.heap[g]? = some o1 → Own u64K w' 0 30 (.slice (some ⟨g, 0, none⟩) a a) (List.replicate a 0))
    (n2 : ∀ (w' : World) (g : Nat), w'.heap[g]? = some o2 → Own svK w' 0 31 (.slice (some ⟨g, 0, none⟩) b b) (List.replicate b ⟨none, 0, 0⟩))
    (n3 : ∀ (w' : World) (g : Nat), w'.heap[g]? = some o3 → Own intK w' 0 3 (.slice (some ⟨g, 0, none⟩) c c) (List.replicate c 0))
    (hst : W.heap[p]? = some (.cells #[.slice (some ⟨i1, 0, none⟩) a a, .slice (some ⟨i2, 0, none⟩) b b, .slice (some ⟨i3, 0, none⟩) c c, .slice none 0 0, .slice none 0 0] 50 (0, 0)))
    (h1 : W.heap[i1]? = some o1) (h2 : W.heap[i2]? = some o2) (h3 : W.heap[i3]? = some o3) (hp : p = w.heap.size + 3)
    (r1 : w.heap.size ≤ i1 ∧ i1 < p) (r2 : w.heap.size ≤ i2 ∧ i2 < p) (r3 : w.heap.size ≤ i3 ∧ i3 < p) (h12 : i1 ≠ i2) (h13 : i1 ≠ i3) (h23 : i2 ≠ i3) (hsz : p < W.heap.size) (hb : Below w.heap.size w W) : RNewP a b c 0 w (.pointer (some ⟨p, 0, none⟩)) W := by
  obtain ⟨hm, ht⟩ := rnew_step hp r1 r2 r3 h12 h13 h23 hsz hst (n1 _ _ h1) (n2 _ _ h2) (n3 _ _ h3)
  exact ⟨p, _, rfl, hm, ht, hb⟩
theorem infoRbt : (Try.prog.info? 31).map (fun i => (i.zero, i.size, i.bytes)) = some (some (.slice none 0 0), svK.k, 24) := by kernel_rfl
theorem infoIn1 : (Try.prog.info? 3).map (fun i => (i.zero, i.size, i.bytes)) = some (some (.int .i64 0), intK.k, 8) := by kernel_rfl
theorem initR_set {a b c i : Nat} (h : i < c) : (initR a b c i).la.set i (-1) = (initR a b c (i + 1)).la := by
  unfold initR
  simp only
  rw [List.set_append_right _ _ (by simp), List.length_replicate, Nat.sub_self, show c - i = (c - (i + 1)) + 1 by omega, List.replicate_succ, List.set_cons_zero, List.replicate_succ', List.append_assoc]
  rfl
theorem initR_len {a b c i : Nat} (h : i ≤ c) : (initR a b c i).la.length = c := by unfold initR; simp; omega
theorem rla_set {τ : Nat → Nat} {w : World} {b : Nat} {R : Rs} {V : Vr} (hV : RefIs τ w b R V) {i g n cap : Nat} (hi : i < R.la.length) (hv : V.vl = .slice (some ⟨g, 0, none⟩) n cap) (x : Int) :
    RefP τ w b { R with la := R.la.set i x } (w.setCell ⟨g, i, none⟩ (.int .i64 x)) := by
  have hg : τ g = 4 := hV.la.2 g (by rw [hv]; rfl)
  have hrow := hV.la
  rw [hv] at hrow
  exact ⟨τ, ⟨V, hV.lats (keep_set hg i _) (by rw [hv]; exact row_set1 rfl hrow (List.getElem?_eq_getElem hi) rfl)⟩, step_set (by rw [hg]; decide) i _⟩
set_option maxRecDepth 1000000 in
set_option maxHeartbeats 8000000 in
theorem refNew_any (a b c : Nat) (ha : a ≤ 1000) (hb : b ≤ 1000) (hc : c ≤ 1000) (w : World) :
    Calls Try.prog 15 #[.int .i64 (a : Int), .int .i64 (b : Int), .int .i64 (c : Int)] w fun e w' => ∃ v, e = .returned v ∧ RNewP a b c c w v w' := by
  obtain ⟨o1, m1, n1⟩ := mk_eq (S := u64K) (by decide) 44 30 _ 0 8 Try.underlying44 infoU64 rfl a (by omega) (by omega)
  obtain ⟨o2, m2, n2⟩ := mk_eq (S := svK) (by decide) 45 31 _ ⟨none, 0, 0⟩ 24 Try.underlying45 infoRbt rfl b (by omega) (by omega)
  obtain ⟨o3, m3, n3⟩ := mk_eq (S := intK) (by decide) 46 3 _ 0 8 Try.underlying46 infoIn1 rfl c (by omega) (by omega)
  have N1 := Lib.hid n1
  have N2 := Lib.hid n2
  have N3 := Lib.hid n3
  have hc1 : (c : Int) ≤ 1000 := by omega
  clear n1 n2 n3
  go_enter Try.func15, Try.ntmps15
  go_upto_region 1 with fail
  go_cut [7] from 9 to 17 (fun s wx => Hid (RNewP a b c 0 w s wx))
  case first =>
    go_region
    all_goals go_wp2_with fail
    all_goals
      go_meet
      refine Lib.hid (rnewP_of N1.out N2.out N3.out (heap4_4 w _ _ _ _) ?_ ?_ ?_ (by omega) (by omega) (by omega) (by omega) (by omega) (by omega) (by omega) (heap4_s w _ _ _ _) (heap4_b w _ _ _ _))
      all_goals first
        | with_reducible exact heap4_1 w _ _ _ _
        | with_reducible exact heap4_2 w _ _ _ _
        | with_reducible exact heap4_3 w _ _ _ _
  case rest =>
    obtain ⟨p, τ, rfl, hm, ht, hbw⟩ := hcut.out
    have HS : Hid (∃ τ, RefAt τ _ p (initR a b c 0) ∧ (∀ j, j < w.heap.size → τ j = 0) ∧ Below w.heap.size w _) := Lib.hid ⟨τ, hm, ht, hbw⟩
    clear m1 m2 m3 hcut hm ht hbw
    go_wp2_with fail
    go_loopg [8] c (fun k t wr => ∃ i : Nat, i + k = c ∧ t = .int .i64 (i : Int) ∧ Hid (∃ τ, RefAt τ wr p (initR a b c i) ∧ (∀ j, j < w.heap.size → τ j = 0) ∧ Below w.heap.size w wr))
    case atStart => exact ⟨0, by omega, rfl, HS⟩
    case round =>
      obtain ⟨i, hik, rfl, H⟩ := hrel
      have HIK := Lib.hid hik
      have hi0 : (0 : Int) ≤ (i : Int) := Int.natCast_nonneg _
      clear hik HS
      by_cases hlt : i < c
      · have hi1 : (i : Int) < (c : Int) := by omega
        obtain ⟨τ, ⟨V, hV⟩, ht, hb⟩ := H.out
        obtain ⟨_, _, c2, _, _, _⟩ := five_r hV.st
        have hlen := initR_len (a := a) (b := b) (show i ≤ c by omega)
        obtain ⟨x, hx⟩ : ∃ x, (initR a b c i).la[i]? = some x := ⟨_, List.getElem?_eq_getElem (by rw [hlen]; exact hlt)⟩
        obtain ⟨g, cap, hv, hg, hτ, q, hf⟩ := row_at hV.la hx
        have d0 := at1 q
        rw [intK_k, Nat.mul_one] at d0
        rw [hv, hlen] at c2
        have hf0 := hf i
        obtain ⟨τ', hR, hS⟩ := rla_set hV (i := i) (by rw [hlen]; exact hlt) hv (-1)
        have hn1 := hb.size
        have HN : Hid (∃ τ, RefAt τ (wr.setCell ⟨g, i, none⟩ (.int .i64 (-1))) p (initR a b c (i + 1)) ∧ (∀ j, j < w.heap.size → τ j = 0) ∧ Below w.heap.size w (wr.setCell ⟨g, i, none⟩ (.int .i64 (-1)))) := Lib.hid ⟨τ', by
          have e : ({ initR a b c i with la := (initR a b c i).la.set i (-1) } : Rs) = initR a b c (i + 1) := by rw [initR_set hlt]; rfl
          rw [← e]; exact hR, fun j hj => by rw [hS.ext j (by omega)]; exact ht j hj, hb.trans (hS.below hn1 ht)⟩
        have HLT := Lib.hid hlt
        clear hV hx q hf hv hR hS ht hb hlen hlt H
        go_wp2_with fail
        go_roundg (gk - 1)
        case measure => have := HIK.out; have := HLT.out; omega
        case rel => exact ⟨i + 1, by have := HIK.out; have := HLT.out; omega, by go_num, HN⟩
      · obtain rfl : i = c := by have := HIK.out; omega
        have hj2 : decide ((i : Int) < (i : Int)) = false := decide_eq_false (by omega)
        go_wp2_with fail
        go_ret
        exact ⟨_, rfl, by obtain ⟨τ, h1, h2, h3⟩ := H.out; exact ⟨p, τ, rfl, h1, h2, h3⟩⟩
end Go.Proofs.Ytneegocbknkhjaa.Rm
