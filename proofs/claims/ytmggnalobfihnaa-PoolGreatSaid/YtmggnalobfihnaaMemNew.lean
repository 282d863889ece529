/-
  PACKAGE mem: New, Log; a Mem that isn't there.
-/
import Derived.Test.YtmggnalobfihnaaJoined6
import Derived.Laws.MakeOwn
import Derived.Laws.OwnMore
import Derived.Carry
namespace Go.Proofs.Ytmggnalobfihnaa.Mm
open Go.RowKit Rw Pk Go.Maps Go.Shelf
set_option linter.unusedVariables false

theorem made_flat {α : Type} {S : Kd α} (x : α) (cs : Array Value) (hcs : cs.toList = S.cells x) (hk : 0 < S.k) (n : Nat) : (madeCells cs (n * S.k)).toList = S.flat (List.replicate n x) := by
  have hsz : cs.size = S.k := by rw [← S.len x, ← hcs]; simp
  apply List.ext_getElem?
  intro j
  by_cases hj : j < n * S.k
  · have hi : j / S.k < n := (Nat.div_lt_iff_lt_mul hk).2 hj
    have hc := Nat.mod_lt j hk
    have hjj : j / S.k * S.k + j % S.k = j := by rw [Nat.mul_comm]; exact Nat.div_add_mod j S.k
    have h1 := flat_at (S := S) (l := List.replicate n x) (i := j / S.k) (x := x) (by rw [List.getElem?_replicate, if_pos hi]) (j % S.k) hc
    rw [hjj] at h1
    rw [h1, ← hcs]
    unfold madeCells
    have hc' : j % S.k < cs.size := by rw [hsz]; exact hc
    simp [hj, hsz, Array.getElem?_eq_getElem hc']
    exact getElem!_pos cs _ hc'
  · rw [List.getElem?_eq_none (by simp [size_madeCells]; omega), List.getElem?_eq_none (by rw [flat_length, List.length_replicate]; omega)]
theorem mk_eq {α : Type} {S : Kd α} (hk : 0 < S.k) (t e : TypeId) (z : Value) (x : α) (bytes : Nat) (ht : Try.prog.underlying t = some (.slice e)) (hinfo : (Try.prog.info? e).map (fun i => (i.zero, i.size, i.bytes)) = some (some z, S.k, bytes)) (hz : z.cells.toList = S.cells x)
    (n : Nat) (hb : bytes * n ≤ 281474976710656) (hn : n ≤ 9223372036854775807) :
    ∃ o : Obj, (∀ w : World, (Instr.makeSlice t (.int .i64 (n : Int)) (.int .i64 (n : Int))).run Try.prog w = .ok (.slice (some ⟨w.heap.size, 0, none⟩) n n) (w.alloc o)) ∧ (∀ (w' : World) (g : Nat), w'.heap[g]? = some o → Own S w' 0 e (.slice (some ⟨g, 0, none⟩) n n) (List.replicate n x)) := by
  obtain ⟨i, hi, hz0, hz1, hz2⟩ := info_partsP hinfo
  have hm := made_flat x z.cells hz hk n
  refine ⟨.cells (madeCells z.cells (n * S.k)) e (0, 0), fun w => ?_, fun w' g hg => ?_⟩
  · have hb' : (i.bytes : Int) * (n : Int) ≤ 281474976710656 := by
      have h : ((bytes * n : Nat) : Int) ≤ 281474976710656 := by omega
      rw [hz2]
      rwa [Int.natCast_mul] at h
    have := run_make (P := Try.prog) w t e i z ht hi hz0 .i64 .i64 n n (by omega) (Int.le_refl _) hb' (by omega)
    simp only [Int.toNat_natCast, hz1] at this
    exact this
  · unfold Own
    rw [List.length_replicate]
    refine ⟨by rw [flat_length, List.length_replicate], .inr ⟨g, n, _, rfl, Nat.zero_le _, hg, Nat.le_refl _, by unfold maxLen; omega, size_madeCells _ _, ?_⟩⟩
    rw [← hm]
    exact List.take_of_length_le (by simp [size_madeCells])
def initS (a b c : Nat) : St := ⟨List.replicate a 0, List.replicate b [], List.replicate c ⟨false, 0, []⟩, fun _ => false, [], 0⟩
def newTag (i1 i2 i3 i4 p : Nat) : Nat → Nat := fun j => if j = p then 1 else if j = i1 then 2 else if j = i2 then 3 else if j = i3 then 4 else if j = i4 then 5 else 0
theorem new_step {w' : World} {n a b c i1 i2 i3 i4 p : Nat} (hp : p = n + 4) (h1 : n ≤ i1 ∧ i1 < p) (h2 : n ≤ i2 ∧ i2 < p) (h3 : n ≤ i3 ∧ i3 < p) (h4 : n ≤ i4 ∧ i4 < p) (h12 : i1 ≠ i2) (h13 : i1 ≠ i3) (h14 : i1 ≠ i4) (h23 : i2 ≠ i3) (h24 : i2 ≠ i4) (h34 : i3 ≠ i4)
    (hsz : p < w'.heap.size) (hst : w'.heap[p]? = some (.cells #[.slice (some ⟨i1, 0, none⟩) a a, .slice (some ⟨i2, 0, none⟩) b b, .slice (some ⟨i3, 0, none⟩) c c, .map (some i4), .slice none 0 0] 87 (0, 0)))
    (ho1 : Own u64K w' 0 24 (.slice (some ⟨i1, 0, none⟩) a a) (List.replicate a 0)) (ho2 : Own svK w' 0 50 (.slice (some ⟨i2, 0, none⟩) b b) (List.replicate b ⟨none, 0, 0⟩))
    (ho3 : Own laK w' 0 102 (.slice (some ⟨i3, 0, none⟩) c c) (List.replicate c ⟨false, 0, ⟨none, 0, 0⟩⟩)) (ho4 : w'.heap[i4]? = some (.map #[] 0)) :
    MemAt (newTag i1 i2 i3 i4 p) w' p (initS a b c) ∧ ∀ j, j < n → newTag i1 i2 i3 i4 p j = 0 := by
  have ht1 : newTag i1 i2 i3 i4 p i1 = 2 := by unfold newTag; rw [if_neg (by omega), if_pos rfl]
  have ht2 : newTag i1 i2 i3 i4 p i2 = 3 := by unfold newTag; rw [if_neg (by omega), if_neg (by omega), if_pos rfl]
  have ht3 : newTag i1 i2 i3 i4 p i3 = 4 := by unfold newTag; rw [if_neg (by omega), if_neg (by omega), if_neg (by omega), if_pos rfl]
  have ht4 : newTag i1 i2 i3 i4 p i4 = 5 := by unfold newTag; rw [if_neg (by omega), if_neg (by omega), if_neg (by omega), if_neg (by omega), if_pos rfl]
  have hob : ∀ (g : Nat) (m k : Nat), (Value.slice (some ⟨g, 0, none⟩) m k).ownBlock = some g := fun _ _ _ => rfl
  refine ⟨⟨⟨_, _, _, .slice none 0 0, i4, List.replicate b ⟨none, 0, 0⟩, List.replicate c ⟨false, 0, ⟨none, 0, 0⟩⟩⟩, hst, by unfold newTag; rw [if_pos rfl], ⟨ho1, fun g hg => ?_⟩, ⟨ho2, fun g hg => ?_⟩, ⟨ho3, fun g hg => ?_⟩, ⟨.map [], ?_, fun i => rfl⟩, ht4, ⟨Own.nil (S := evK) _ _ _, fun g hg => by simp [Value.ownBlock] at hg⟩, by simp [initS], fun i s l hs hl => ?_, by simp [initS], fun i x L hx hL => ?_, fun j hj => ?_⟩, fun j hj => ?_⟩
  · rw [← Option.some.inj ((hob i1 a a).symm.trans hg)]; exact ht1
  · rw [← Option.some.inj ((hob i2 b b).symm.trans hg)]; exact ht2
  · rw [← Option.some.inj ((hob i3 c c).symm.trans hg)]; exact ht3
  · exact ⟨#[], 0, ho4, ⟨by simp, MapKept.stamped_empty 0, by simp⟩, Nat.zero_le _, rfl⟩
  · have e1 : s = ⟨none, 0, 0⟩ := by
      have := List.mem_of_getElem? hs
      exact (List.mem_replicate.1 this).2
    have e2 : l = [] := by
      have := List.mem_of_getElem? hl
      exact (List.mem_replicate.1 (show l ∈ List.replicate b [] from this)).2
    subst e1 e2
    exact ⟨Own.nil (S := chK) _ _ _, fun g hg => by simp [Value.ownBlock, Sv.val] at hg⟩
  · have e1 : x = ⟨false, 0, ⟨none, 0, 0⟩⟩ := (List.mem_replicate.1 (List.mem_of_getElem? hx)).2
    have e2 : L = ⟨false, 0, []⟩ := (List.mem_replicate.1 (show L ∈ List.replicate c ⟨false, 0, []⟩ from List.mem_of_getElem? hL)).2
    subst e1 e2
    exact ⟨rfl, rfl, Own.nil (S := intK) _ _ _, fun g hg => by simp [Value.ownBlock, Sv.val] at hg⟩
  · unfold newTag at hj
    by_cases e0 : j = p
    · omega
    · rw [if_neg e0] at hj
      by_cases e1 : j = i1
      · omega
      · rw [if_neg e1] at hj
        by_cases e2 : j = i2
        · omega
        · rw [if_neg e2] at hj
          by_cases e3 : j = i3
          · omega
          · rw [if_neg e3] at hj
            by_cases e4 : j = i4
            · omega
            · rw [if_neg e4] at hj; exact absurd rfl hj
  · unfold newTag
    rw [if_neg (by omega), if_neg (by omega), if_neg (by omega), if_neg (by omega), if_neg (by omega)]

theorem infoU64 : (Try.prog.info? 24).map (fun i => (i.zero, i.size, i.bytes)) = some (some (.int .u64 0), u64K.k, 8) := by kernel_rfl
theorem infoBt : (Try.prog.info? 50).map (fun i => (i.zero, i.size, i.bytes)) = some (some (.slice none 0 0), svK.k, 24) := by kernel_rfl
theorem infoLa : (Try.prog.info? 102).map (fun i => (i.zero, i.size, i.bytes)) = some (some (.agg #[.bool false, .int .i64 0, .slice none 0 0]), laK.k, 40) := by kernel_rfl
theorem beyond_no {n : Int} (h : 0 ≤ n ∧ n ≤ 65536) (w : World) : Calls Try.prog 42 #[.int .i64 n] w fun e w' => e = .returned (.bool false) ∧ w = w' := by
  have h1 : ¬ n < 0 := by omega
  have h2 : ¬ 65536 < n := by omega
  go_enter Try.func42, Try.ntmps42
  go_wp2
  go_ret
  exact ⟨by first | rfl | exact pbool (by simp; omega), rfl⟩
theorem beyond_yes {n : Int} (h : n < 0 ∨ 65536 < n) (w : World) : Calls Try.prog 42 #[.int .i64 n] w fun e w' => e = .returned (.bool true) ∧ w = w' := by
  by_cases h1 : n < 0
  · clear h
    go_enter Try.func42, Try.ntmps42
    go_wp2
    go_ret
    exact ⟨by first | rfl | exact pbool (by simp; omega), rfl⟩
  · have h2 : 65536 < n := by omega
    clear h
    go_enter Try.func42, Try.ntmps42
    go_wp2
    go_ret
    exact ⟨by first | rfl | exact pbool (by simp; omega), rfl⟩
set_option maxRecDepth 1000000 in
set_option maxHeartbeats 8000000 in
theorem memNew_no (a b c : Int) (h : (a < 0 ∨ 65536 < a) ∨ (b < 0 ∨ 65536 < b) ∨ (c < 0 ∨ 65536 < c)) (w : World) :
    Calls Try.prog 24 #[.int .i64 a, .int .i64 b, .int .i64 c] w fun e w' => e = .returned (.tuple #[.pointer none, .int .i64 1]) ∧ Below w.heap.size w w' := by
  by_cases ha : a < 0 ∨ 65536 < a
  · have HA := Lib.hid ha
    clear h ha
    go_enter Try.func24, Try.ntmps24
    go_wp2_with (go_at_call 42; refine (beyond_yes HA.out _).mono ?_; rintro e w' ⟨rfl, rfl⟩)
    go_ret2
    exact ⟨rfl, Below.refl _ _⟩
  have HA := Lib.hid (show 0 ≤ a ∧ a ≤ 65536 by omega)
  by_cases hb : b < 0 ∨ 65536 < b
  · have HB := Lib.hid hb
    clear h ha hb
    go_enter Try.func24, Try.ntmps24
    go_wp2_with fail
    go_at_call 42
    refine (beyond_no HA.out _).mono ?_
    rintro e w' ⟨rfl, rfl⟩
    go_wp2_with fail
    go_at_call 42
    refine (beyond_yes HB.out _).mono ?_
    rintro e w' ⟨rfl, rfl⟩
    go_wp2_with fail
    go_ret2
    exact ⟨rfl, Below.refl _ _⟩
  have HB := Lib.hid (show 0 ≤ b ∧ b ≤ 65536 by omega)
  have HC := Lib.hid (show c < 0 ∨ 65536 < c from (h.resolve_left ha).resolve_left hb)
  clear h ha hb
  go_enter Try.func24, Try.ntmps24
  go_wp2_with fail
  go_at_call 42
  refine (beyond_no HA.out _).mono ?_
  rintro e w' ⟨rfl, rfl⟩
  go_wp2_with fail
  go_at_call 42
  refine (beyond_no HB.out _).mono ?_
  rintro e w' ⟨rfl, rfl⟩
  go_wp2_with fail
  go_at_call 42
  refine (beyond_yes HC.out _).mono ?_
  rintro e w' ⟨rfl, rfl⟩
  go_wp2_with fail
  go_ret2
  exact ⟨rfl, Below.refl _ _⟩
section
variable (w : World) (x1 x2 x3 x4 x5 : Obj)
theorem heap5_1 : ((((((w.alloc x1).alloc x2).alloc x3).alloc x4).alloc x5).drew).heap[w.heap.size]? = some x1 := by
  show ((((((w.alloc x1).alloc x2).alloc x3).alloc x4).alloc x5)).heap[w.heap.size]? = some x1
  rw [heap_alloc_old ((((w.alloc x1).alloc x2).alloc x3).alloc x4) x5 (by simp <;> omega)]
  rw [heap_alloc_old (((w.alloc x1).alloc x2).alloc x3) x4 (by simp <;> omega)]
  rw [heap_alloc_old ((w.alloc x1).alloc x2) x3 (by simp <;> omega)]
  rw [heap_alloc_old (w.alloc x1) x2 (by simp <;> omega)]
  have := heap_alloc_new w x1
  simpa using this
theorem heap5_2 : ((((((w.alloc x1).alloc x2).alloc x3).alloc x4).alloc x5).drew).heap[w.heap.size + 1]? = some x2 := by
  show ((((((w.alloc x1).alloc x2).alloc x3).alloc x4).alloc x5)).heap[w.heap.size + 1]? = some x2
  rw [heap_alloc_old ((((w.alloc x1).alloc x2).alloc x3).alloc x4) x5 (by simp <;> omega)]
  rw [heap_alloc_old (((w.alloc x1).alloc x2).alloc x3) x4 (by simp <;> omega)]
  rw [heap_alloc_old ((w.alloc x1).alloc x2) x3 (by simp <;> omega)]
  have := heap_alloc_new (w.alloc x1) x2
  simpa using this
theorem heap5_3 : ((((((w.alloc x1).alloc x2).alloc x3).alloc x4).alloc x5).drew).heap[w.heap.size + 1 + 1]? = some x3 := by
  show ((((((w.alloc x1).alloc x2).alloc x3).alloc x4).alloc x5)).heap[w.heap.size + 1 + 1]? = some x3
  rw [heap_alloc_old ((((w.alloc x1).alloc x2).alloc x3).alloc x4) x5 (by simp <;> omega)]
  rw [heap_alloc_old (((w.alloc x1).alloc x2).alloc x3) x4 (by simp <;> omega)]
  have := heap_alloc_new ((w.alloc x1).alloc x2) x3
  simpa using this
theorem heap5_4 : ((((((w.alloc x1).alloc x2).alloc x3).alloc x4).alloc x5).drew).heap[w.heap.size + 1 + 1 + 1]? = some x4 := by
  show ((((((w.alloc x1).alloc x2).alloc x3).alloc x4).alloc x5)).heap[w.heap.size + 1 + 1 + 1]? = some x4
  rw [heap_alloc_old ((((w.alloc x1).alloc x2).alloc x3).alloc x4) x5 (by simp <;> omega)]
  have := heap_alloc_new (((w.alloc x1).alloc x2).alloc x3) x4
  simpa using this
theorem heap5_5 : ((((((w.alloc x1).alloc x2).alloc x3).alloc x4).alloc x5).drew).heap[w.heap.size + 1 + 1 + 1 + 1]? = some x5 := by
  show ((((((w.alloc x1).alloc x2).alloc x3).alloc x4).alloc x5)).heap[w.heap.size + 1 + 1 + 1 + 1]? = some x5
  have := heap_alloc_new ((((w.alloc x1).alloc x2).alloc x3).alloc x4) x5
  simpa using this
theorem heap5_s : w.heap.size + 1 + 1 + 1 + 1 < ((((((w.alloc x1).alloc x2).alloc x3).alloc x4).alloc x5).drew).heap.size := by
  show _ < ((((((w.alloc x1).alloc x2).alloc x3).alloc x4).alloc x5)).heap.size
  simp
theorem heap5_b : Below w.heap.size w ((((((w.alloc x1).alloc x2).alloc x3).alloc x4).alloc x5).drew) := by
  exact ((((((Below.refl _ _).alloc (Nat.le_refl _) _).alloc (by simp) _).alloc (by simp; omega) _).alloc (by simp; omega) _).alloc (by simp; omega) _).drew
end
def NewP (a b c : Nat) (w : World) (e : Ending) (w' : World) : Prop := ∃ p τ, e = .returned (.tuple #[.pointer (some ⟨p, 0, none⟩), .int .i64 0]) ∧ MemAt τ w' p (initS a b c) ∧ (∀ j, j < w.heap.size → τ j = 0) ∧ Below w.heap.size w w'
theorem newP_of {w W : World} {a b c p i1 i2 i3 i4 : Nat} {o1 o2 o3 : Obj} {e : Ending} (n1 : ∀ (w' : World) (g : Nat), w'.heap[g]? = some o1 → Own u64K w' 0 24 (.slice (some ⟨g, 0, none⟩) a a) (List.replicate a 0))
    (n2 : ∀ (w' : World) (g : Nat), w'.heap[g]? = some o2 → Own svK w' 0 50 (.slice (some ⟨g, 0, none⟩) b b) (List.replicate b ⟨none, 0, 0⟩))
    (n3 : ∀ (w' : World) (g : Nat), w'.heap[g]? = some o3 → Own laK w' 0 102 (.slice (some ⟨g, 0, none⟩) c c) (List.replicate c ⟨false, 0, ⟨none, 0, 0⟩⟩))
    (he : e = .returned (.tuple #[.pointer (some ⟨p, 0, none⟩), .int .i64 0]))
    (hst : W.heap[p]? = some (.cells #[.slice (some ⟨i1, 0, none⟩) a a, .slice (some ⟨i2, 0, none⟩) b b, .slice (some ⟨i3, 0, none⟩) c c, .map (some i4), .slice none 0 0] 87 (0, 0)))
    (h1 : W.heap[i1]? = some o1) (h2 : W.heap[i2]? = some o2) (h3 : W.heap[i3]? = some o3) (h4 : W.heap[i4]? = some (.map #[] 0)) (hp : p = w.heap.size + 4)
    (r1 : w.heap.size ≤ i1 ∧ i1 < p) (r2 : w.heap.size ≤ i2 ∧ i2 < p) (r3 : w.heap.size ≤ i3 ∧ i3 < p) (r4 : w.heap.size ≤ i4 ∧ i4 < p) (h12 : i1 ≠ i2) (h13 : i1 ≠ i3) (h14 : i1 ≠ i4) (h23 : i2 ≠ i3) (h24 : i2 ≠ i4) (h34 : i3 ≠ i4) (hsz : p < W.heap.size) (hb : Below w.heap.size w W) : NewP a b c w e W := by
  obtain ⟨hm, ht⟩ := new_step hp r1 r2 r3 r4 h12 h13 h14 h23 h24 h34 hsz hst (n1 _ _ h1) (n2 _ _ h2) (n3 _ _ h3) h4
  exact ⟨p, _, he, hm, ht, hb⟩
set_option maxRecDepth 1000000 in
set_option maxHeartbeats 8000000 in
theorem memNew_any (a b c : Nat) (ha : a ≤ 65536) (hb : b ≤ 65536) (hc : c ≤ 65536) (w : World) :
    Calls Try.prog 24 #[.int .i64 (a : Int), .int .i64 (b : Int), .int .i64 (c : Int)] w (NewP a b c w) := by
  obtain ⟨o1, m1, n1⟩ := mk_eq (S := u64K) (by decide) 82 24 _ 0 8 Try.underlying82 infoU64 rfl a (by omega) (by omega)
  obtain ⟨o2, m2, n2⟩ := mk_eq (S := svK) (by decide) 83 50 _ ⟨none, 0, 0⟩ 24 Try.underlying83 infoBt rfl b (by omega) (by omega)
  obtain ⟨o3, m3, n3⟩ := mk_eq (S := laK) (by decide) 84 102 _ ⟨false, 0, ⟨none, 0, 0⟩⟩ 40 Try.underlying84 infoLa rfl c (by omega) (by omega)
  have HA := Lib.hid (show 0 ≤ (a : Int) ∧ (a : Int) ≤ 65536 by omega)
  have HB := Lib.hid (show 0 ≤ (b : Int) ∧ (b : Int) ≤ 65536 by omega)
  have HC := Lib.hid (show 0 ≤ (c : Int) ∧ (c : Int) ≤ 65536 by omega)
  have N1 := Lib.hid n1
  have N2 := Lib.hid n2
  have N3 := Lib.hid n3
  have hmm := @run_makeMap Try.prog
  clear n1 n2 n3
  go_enter Try.func24, Try.ntmps24
  go_wp2_with fail
  go_at_call 42
  refine (beyond_no HA.out _).mono ?_
  rintro e w' ⟨rfl, rfl⟩
  go_wp2_with fail
  go_at_call 42
  refine (beyond_no HB.out _).mono ?_
  rintro e w' ⟨rfl, rfl⟩
  go_wp2_with fail
  go_at_call 42
  refine (beyond_no HC.out _).mono ?_
  rintro e w' ⟨rfl, rfl⟩
  go_upto_region 3 with fail
  go_region
  all_goals go_wp2_with fail
  all_goals
    go_ret2
    refine newP_of N1.out N2.out N3.out rfl (heap5_5 w _ _ _ _ _) ?_ ?_ ?_ ?_ (by omega) (by omega) (by omega) (by omega) (by omega) (by omega) (by omega) (by omega) (by omega) (by omega) (by omega) (heap5_s w _ _ _ _ _) (heap5_b w _ _ _ _ _)
    all_goals first
      | with_reducible exact heap5_1 w _ _ _ _ _
      | with_reducible exact heap5_2 w _ _ _ _ _
      | with_reducible exact heap5_3 w _ _ _ _ _
      | with_reducible exact heap5_4 w _ _ _ _ _
end Go.Proofs.Ytmggnalobfihnaa.Mm
